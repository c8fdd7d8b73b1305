import PyProof.Rows.All
import Wide.All
import OpenK.AllK
import Wide.FinOn
import Lean
import PyProof.EqAt
import PyProof.EqKinds
import PyProof.TupleCall
import PySem.Challenge.RW_recut_k32_parts_of_bands
set_option Elab.async false
set_option linter.all false
set_option maxRecDepth 100000
set_option maxHeartbeats 4000000
noncomputable section
open Array renaming append_assoc->xH,append_empty->rX,forIn_toList->JO,getD->lX,getD_eq_getD_getElem?->iC,getElem?_eq_getElem->cJ,getElem?_eq_none->sO,getElem?_eq_some_iff->lY,getElem?_toList->tW,length_toList->dA,mem_toList_iff->pW,replicate->SU,size_map->UT,toList->LU,toList_append->wB,toList_extract->EQ,toList_push->LV
open Array.Perm renaming refl->rN
open Bool renaming and_eq_true->kG,and_false->xI,and_true->IH,beq_eq_decide_eq->pD,eq_iff_iff->rO,false_and->xJ,false_eq_true->aO,false_ne_true->cL,false_or->YR,not_false->lZ,not_true->dX,or_eq_true->DD,or_false->II,xor_false->xK,xor_true->uR
open Classical renaming byContradiction->mT
open False renaming elim->nM
open ForInStep renaming yield->SV
open Function renaming comp->YS,comp_def->LY
open Int renaming add_mul->QW,add_sub_assoc->LZ,add_zero->wP,dvd_coe_gcd->SW,dvd_mul_left->AJ,dvd_refl->sQ,dvd_trans->kK,ediv_mul_cancel->HV,eq_of_mul_eq_mul_left->fR,eq_of_mul_eq_mul_right->fH,fdiv_eq_ediv_of_nonneg->dR,fmod_eq_emod_of_nonneg->mE,gcd->cP,gcd_dvd_left->qM,gcd_dvd_right->mX,gcd_ediv_gcd_ediv_gcd->yK,gcd_pos_of_ne_zero_left->lH,lcm->Bq,le_antisymm->DF,le_of_dvd->pB,le_of_lt->dO,le_of_mul_le_mul_right->xN,le_refl->pX,le_trans->BZ,lt_iff_le_and_ne->ES,lt_irrefl->uS,lt_of_le_of_lt->mF,lt_of_lt_of_le->JT,lt_of_mul_lt_mul_right->xO,lt_trichotomy->pL,min_eq_left->DH,min_eq_right->OS,mul_assoc->lR,mul_comm->jO,mul_dvd_mul->DJ,mul_ediv_cancel'->jB,mul_ediv_cancel_left->kL,mul_eq_zero->SX,mul_fdiv_cancel->HW,mul_fdiv_cancel_left->zM,mul_le_mul_of_nonneg_right->dI,mul_lt_mul_left->HX,mul_lt_mul_of_pos_right->wQ,mul_neg_of_neg_of_pos->fV,mul_neg_of_pos_of_neg->mU,mul_nonneg->iJ,mul_nonpos_of_nonneg_of_nonpos->dP,mul_one->QX,mul_pos->aW,mul_zero->MA,natAbs_dvd_natAbs->gY,natAbs_mul->iK,natAbs_neg->VC,natCast_mul->SY,natCast_nonneg->xP,ne_of_gt->CA,neg_lt_neg_iff->JU,not_le->sA,not_lt->CB,one_dvd->jC,pos_of_mul_pos_left->AK,toNat_natCast->gF,toNat_of_nonneg->wC
open List renaming Nodup->gK,all_eq_true->uI,any_cons->zN,any_eq_false->MB,any_toArray->OU,append_assoc->fK,append_nil->cQ,cons_append->bK,drop_eq_getElem_cons->gJ,drop_length->OV,drop_zero->EU,eq_nil_of_length_eq_zero->oE,eq_nil_or_concat->pE,ext_getElem->AL,ext_getElem?->sU,filterMap_append->EC,filterMap_cons->eX,filter_append->fZ,filter_congr->MC,filter_cons->nS,filter_map->TB,find?_cons->oT,find?_eq_none->JV,flatMap_append->nR,flatMap_cons->mY,flatten_append->jW,flatten_cons->iW,foldl_append->yP,foldl_cons->oU,forIn_cons->TC,getD_eq_getElem?_getD->cC,getElem?_append_left->dB,getElem?_append_right->dJ,getElem?_cons_succ->aB,getElem?_cons_zero->aA,getElem?_drop->xQ,getElem?_eq_getElem->aG,getElem?_eq_none->gZ,getElem?_eq_some_iff->bF,getElem?_map->bC,getElem?_range->qZ,getElem?_replicate->jD,getElem?_set_ne->iM,getElem?_set_self->gL,getElem?_take->JW,getElem?_toArray->tY,getElem_drop->ME,getElem_idxOf->JX,getElem_mem->nU,getElem_of_mem->dS,length->jE,length_append->bI,length_cons->aT,length_drop->gR,length_dropLast->EV,length_eq_zero_iff->gC,length_erase_of_mem->rG,length_filter_le->pF,length_map->aJ,length_nil->cK,length_pos_iff->lD,length_pos_of_mem->sV,length_range->iE,length_replicate->mN,length_reverse->lE,length_singleton->kE,length_take->jF,lookup_cons->kH,map->pY,map_append->aX,map_congr_left->gW,map_cons->aN,map_drop->YT,map_eq_append_iff->CC,map_eq_cons_iff->pZ,map_flatten->OW,map_id->vA,map_map->cO,map_nil->cD,map_reverse->AM,map_take->uT,mem_append->bQ,mem_append_left->eY,mem_append_right->cN,mem_cons->aV,mem_cons_of_mem->cR,mem_cons_self->dL,mem_erase_of_ne->vC,mem_filter->fX,mem_filterMap->oG,mem_flatMap->qN,mem_flatten->lV,mem_map->bD,mem_map_of_mem->eD,mem_of_getElem?->bJ,mem_of_mem_drop->EW,mem_of_mem_take->qA,mem_or_eq_of_mem_set->yL,mem_range->cT,mem_replicate->JY,mem_reverse->uJ,mem_singleton->bR,nil_append->bS,nodup_append->pO,nodup_cons->jY,nodup_nil->VE,nodup_range->OX,not_mem_nil->dM,of_mem_zip->DK,pairwise_append->jG,pairwise_cons->iO,pairwise_iff_getElem->fW,pairwise_lt_range->sW,pairwise_map->gG,pairwise_reverse->EF,pairwise_singleton->AN,perm_append_comm->tZ,perm_ext_iff_of_nodup->xR,perm_middle->OY,range->cF,range_succ->fP,range_succ_eq_map->CF,replicate->eQ,reverse_cons->pP,set_cons_succ->aI,set_cons_zero->aH,singleton_append->EG,size_toArray->aZ,take_append_drop->mO,take_length->jH,take_of_length_le->iS,take_sublist->MF,take_succ->gD,take_zero->mG,toArray->jP,zipWith->iF,zipWith_cons_cons->lI,zip_cons_cons->oH,zip_nil_left->MG,zip_nil_right->JZ
open List.Pairwise renaming map->sT,nil->pN,sublist->tX
open List.Perm renaming append_left->mM,eq_of_pairwise->rF,refl->ET,swap->VD
open List.cons renaming inj->zO,injEq->SZ
open Nat renaming Coprime->EX,add_mod->QZ,add_mod_right->MH,add_zero->MI,eq_zero_or_pos->KB,gcd_comm->wR,gcd_zero_right->KC,le_antisymm->TF,le_mul_of_pos_right->sH,le_of_dvd->zP,le_of_eq->MJ,le_of_lt->kM,le_of_lt_succ->mZ,le_refl->aY,le_succ->sI,le_succ_of_le->sX,le_trans->dY,lt_irrefl->iQ,lt_of_le_of_lt->sB,lt_of_lt_of_le->bU,lt_or_eq_of_le->KD,lt_or_ge->MK,lt_succ_of_lt->iX,lt_succ_self->qO,lt_trans->nA,lt_trichotomy->ML,min_eq_left->rP,min_le_right->OZ,min_self->wS,mod_eq_of_lt->gT,mod_lt->mH,mul_le_mul->EY,mul_le_mul_left->wD,ne_of_gt->kN,ne_of_lt->bP,not_lt->VF,not_lt_zero->oV,pow_le_pow_right->EZ,strongRecOn->TH,sub_le_sub_right->FA,sub_zero->wT,succ_le_succ->AO,succ_ne_self->qP,succ_pos->CG,succ_pred_eq_of_pos->AQ,zero_add->wV,zero_le->dZ
open Nat.Coprime renaming dvd_of_dvd_mul_left->jZ
open Nat.succ renaming inj->wU
open Option renaming bind_some->AR,getD_none->PB,getD_some->nV,map_eq_some_iff->lJ,map_some->rQ,toList_some->KF
open Option.some renaming inj->cW,injEq->sY
open Or renaming inl->iH,inr->gI
open Prod renaming ext->nX,fst->AS,snd->MM
open Prod.mk renaming injEq->uV
open PyProof.Rows renaming args_list_sort->VO,assignInOrder_cons->xT,assignInOrder_nil->MT,boot_range->KL,callWith_builtin1->kJ,callWith_type1->dE,get?_update_seq->TQ,getItem_tuple->ZC,listUpdate_at->ZE,slicePart_none->YD,slot_tuple_getitem->tV,subscriptTail_builtinR->tN
open PyProof.Rows.IsTup renaming new->OT
open PyProof.Rows.KeyOrd renaming kle_antisymm->HY,kle_of_klt->pM,kle_refl->kY,kle_trans->uH
open PySem renaming Around->dG,FuncData->mB,Keyword->nQ,Program->cB,Shared->aK,Value->aF,World->dD,builtinLookup_eq_fast->mP,call_function_tree->KM,call_list_seq->YY,call_meets->xU,codeAny_builtin->fQ,codeAny_call_builtin->vD,codeAny_mono->oM,codeAny_of_tree->rR,concat_meets->MU,entryFor_of_tree->AZ,evalPart_none->IN,intBits_le_iff->WJ,isSubtype_stop->WK,isSubtype_type->xW,list_append->MO,mem_of_lookup->jX,noFill_tuple_add->QA,plainId_quiet->gU,rangeSize_one->ZN,richCompare_meets_room->CW,seqIndex_of->SQ,seq_tuple_add->ZO,sizeLine_eq->gX,tupleKind_room_in1->LO,typeLookup_type->rW,weight_type_call_type->EM,wpAny_Call_Name_kw->fF,wpAny_Constant_int->LQ,wpAny_Dict_empty->QT,wpAny_Name->CZ,wpAny_askSetting->qW,wpAny_assign_Name->OI,wpAny_attempt->uZ,wpAny_bind->aD,wpAny_bindName->YN,wpAny_call->LR,wpAny_callSpecial?_slot->kX,wpAny_call_entry->jJ,wpAny_comprehension_free->AD,wpAny_dictEntries->zH,wpAny_dictEpoch->EA,wpAny_eqIsQuiet_tuple->EN,wpAny_execs_cons->QU,wpAny_execs_nil->vZ,wpAny_field->SS,wpAny_fieldsOf->yH,wpAny_forIn_list->qX,wpAny_getItem_list_slice->AE,wpAny_handled->ZS,wpAny_holding->fS,wpAny_isInstance->uQ,wpAny_isOneOf_keyiter->EO,wpAny_letGo->zJ,wpAny_loadName_free->IG,wpAny_loadName_local->HA,wpAny_loadPart'->oZ,wpAny_mono->iB,wpAny_newFunctionEnv->HB,wpAny_newList->JM,wpAny_newObj_type->fD,wpAny_of_eq->jK,wpAny_passesOwn->mW,wpAny_pure->aP,wpAny_pyIter_enum->OJ,wpAny_pyIter_list->tR,wpAny_pyIter_range->LS,wpAny_pyIter_rangeiter->tS,wpAny_pyIter_slot->OL,wpAny_pyIter_tuple->yI,wpAny_pyIter_zip->QV,wpAny_pyNext_range_end->DC,wpAny_rule->YO,wpAny_runValue->YQ,wpAny_seqItems->qK,wpAny_setEntries_of->wO,wpAny_setField->HC,wpAny_setState_of->jV,wpAny_specialOf->pA,wpAny_standAt->AF,wpAny_storeSet_of->OM,wpAny_truthy_bool->pV,wpAny_tryCatch->tT,wpAny_typeNameOfWhole_keyiter->kQ,wpAny_typeNameOf_keyiter->nN,wpAny_typeOf->xB,wpAny_updateSeq->lB
open PySem.Around renaming under_plain->JN,under_plainId->eK
open PySem.AutoSeq1 renaming sub_tuple_tuple->zK
open PySem.Builtin renaming divisionGoesByPylong->oS
open PySem.Builtin.Builtins renaming bindParams->pJ
open PySem.Builtin.Dict renaming addKeywords->zL,showsAll->EB,updateFrom->AG
open PySem.Builtin.Dict_items renaming ownsTuple->vL
open PySem.Builtin.Int renaming intBits->HU
open PySem.Builtin.List renaming listExtendWith->jL,listItems->BU,listLengthHint->lG,listSameRef->nH,listTooLong->nJ,listUpdate->AH
open PySem.Builtin.Range renaming rangeFitsLong->cH,rangeSize->fJ
open PySem.Builtin.Slice renaming sliceAdjust->qY,sliceApplied->xL,slicePlaces->mS
open PySem.Builtin.Tuple renaming tupleCompareSizes->tU,tupleExact->nK
open PySem.Calls renaming Name_function_global->xM,callWith_builtin->BV,call_function_entry->yJ,spliced_cons->rY,spliced_nil->sP
open PySem.Code renaming quiet_builtin->JP
open PySem.Data renaming cell->ZT,fields->ER
open PySem.F renaming args_tuple_add_2->zR,entry_extend_loop->yM,entry_tuple_add->AT,entry_type_call->AU,plainAttrs_list->kR,plain_extend_loop->kC,plain_set_new->EH,slot_dict_setdefault->vM,slot_list_append->zT,slot_tuple_add->CH,type_list_append->zU
open PySem.Heap renaming SameBut->qL,get?_push_of_some->aR,get?_push_size->bT,get?_update_other->dU,get?_update_self->fM,lt_size->bG,size_push->mC
open PySem.Heap.IsSliceOf renaming new->JS
open PySem.Heap.SameBut renaming update->lC
open PySem.IsL renaming update->PC
open PySem.IsRange renaming new->QY
open PySem.NameKind renaming cell->uU,free->gS
open PySem.Obj renaming data_mapFields->KE,mapFields->IK,mapSeq->fE,putSet->qB
open PySem.Paired renaming length->zQ
open PySem.PassesOwn renaming never->bZ
open PySem.SeqAt renaming EqAt->KG,RcAt->CJ,RcNeAt->MP,notIn_listAt->KJ
open PySem.SeqAt.EqAt renaming int_int->xS,of_refs->KH,same->vP
open PySem.SeqAt.RcNeAt renaming lists->KI
open PySem.SetFound renaming there->VH
open PySem.SetTable renaming grown->VI
open PySem.SetTable.below renaming go->VP
open PySem.SetTable.layClean renaming free->uX
open PySem.SetTable.probe renaming go->Ha
open PySem.Shared renaming TypeIs->zV
open PySem.Str renaming ofString->iG
open PySem.Value renaming bool->CK,builtin->zW,int->AV,isInt->FE,isStrOf->YV,none->eU,notImplemented->FF,ref->eO,str->PH,type->jR
open PySem.W renaming CodeHd->VG,Frag->aL,cellsFrom_some->CI,codeIn->nY,envX->oI,findIn->FB,fnOf->nB,instObj->DL,kas_asc->yT,kas_bin->Cr,kas_count->uN,kas_desc->mL,kas_descPart->qS,kas_place->BA,kas_rev->HL,kas_sort->FK,kas_tail3->xF,keepIn->mI,kia_one->gP,kitOne->mJ,kitx_dict->MN,kitx_list->yQ,kla_obj->vN,lookIn->FC,methodObj->yR,mg_of->YU,nsIn->jQ,plainGet->PF,tabIn->fN,tabObj->sZ
open PySem.Walks renaming list->VJ
open PySem.pickOrder renaming go->NV
open Rat renaming intCast_add->TJ,intCast_inj->TK,intCast_mul->kZ,intCast_sub->vO
open Sum renaming inl->eI,inr->HF
open True renaming intro->oJ
set_option compiler.extract_closed false
set_option genSizeOf false
set_option genInjectivity false
open Option renaming some→ψ,none→ξ
open Bool renaming true→ζ,false→χ
theorem ν {p:Prop} (h:p:=by lia):p:=h
theorem μ {p:Prop} (h:p:=by decide):p:=h
theorem η {p:Prop} (h:p:=by simp):p:=h
theorem δ {p:Prop} (h:p:=by grind):p:=h
theorem ε {p:Prop} (h:p:=by simp;lia):p:=h
theorem γ {p:Prop} (h:p:=by decide +kernel):p:=h
abbrev θ (α:Type):=List α
def ω:=@if_neg
def υ:=@if_pos
def Ω:=@absurd
def Ψ:=@congrArg
abbrev Γ{α:Type}(p:PySem.Program)(w:PySem.World):=@PySem.wpAny α (PySem.model p w)
local macro_rules | `(tactic|walk_at "vis")=>`(tactic|first |exact iH rfl |exact gI (iH rfl) |exact gI (gI rfl) |exact gI rfl)
local macro_rules | `(tactic|walk_at "loc")=>`(tactic|first |exact .inl rfl |exact .inr rfl |assumption)
abbrev PySem.Shared.z(s:PySem.Shared):=s.heap.objs.size
section
local macro_rules | `(~~~$t)=>`(by simpa using $t)
local macro_rules | `(tactic|fail)=>`(tactic|dsimp only)
local macro_rules | `(tactic|erw[$t,*]$[$l]?)=>do
 let a<-t.getElems.mapM λr=>if r.raw[0].isNone then`(Lean.Parser.Tactic.simpLemma|$(⟨r.raw[1]⟩):term) else`(Lean.Parser.Tactic.simpLemma|<-$(⟨r.raw[1]⟩):term)
 `(tactic|simp only[$a,*]$[$l]?)
section
open List renaming toArray→LE
local macro_rules | `(#[$t,*])=>`(⟨$t,*⟩)
local macro_rules | `(tactic|show $t)=>`(tactic|first |refine $t)
local macro_rules | `(tactic|let⟨$p,*⟩:=$e)=>do
 let q<-p.getElems.mapM λr=>match r with
  |`($i:ident)=>`(Lean.Parser.Tactic.rcasesPatLo|$i:ident)
  |_=>`(Lean.Parser.Tactic.rcasesPatLo|_)
 `(tactic|obtain⟨$q,*⟩:=$e)
local macro_rules (kind:=Lean.Parser.Command.declaration) | s=>do
 if s.getPos?.isNone then Lean.Macro.throwUnsupported
 let d<-`(noncomputable def x:=0);return (if s[0].getArgs.all (·.isNone)&&s[1][0].isToken "def"then d.raw.setArg 1 s[1] else s).rewriteBottomUp (·.setInfo .none)
def bg:=@rfl
namespace L2
open PySem PySem.Spec PyProof.Rows
abbrev jl:=Sum Int Str
def WO:jl->aF->Bool
 | .inl k,v=>FE k v
 | .inr x,v=>YV x v
def gj(w:dD):jl->Int
 | .inl k=>hashInt k
 | .inr x=>hashStr w x
theorem lT:∀{k:jl}{v:aF},WO k v=ζ->(∃i t,k=eI i/\v=AV i t)\/(∃x t,k=HF x/\v=PH x t)
 | .inl i,v,h=>by
  let⟨t,e⟩:=Value.isInt_shape (k:=i) (v:=v) h;show .inl #[i,t,bg,e]
 | .inr x,v,h=>by
  let⟨t,e⟩:=Value.isStrOf_shape (x:=x) (v:=v) h;show .inr #[x,t,bg,e]
def Qe(i:Int)(t:Tok):WO (.inl i) (.int i t)=ζ:=by simp[WO,FE]
def Qf(x:Str)(t:Tok):WO (.inr x) (.str x t)=ζ:=by simp[WO,YV]
def Q9(a b:Int):decide ((eI a:jl)=eI b)=(a == b):=by
 by_cases e:a=b
 ·subst e;simp
 ·have h:¬(eI a:jl)=eI b:=λq=>e (Sum.inl.inj q);rw[decide_eq_false h];show(beq_eq_false_iff_ne.mpr e).symm
def R5(a b:Str):decide ((HF a:jl)=HF b)=decide (a=b):=by
 by_cases e:a=b
 ·subst e;simp
 ·have h:¬(HF a:jl)=HF b:=λq=>e (Sum.inr.inj q);rw[decide_eq_false h,decide_eq_false e]
def R3(a:Int)(b:Str):decide ((eI a:jl)=HF b)=χ:=decide_eq_false (λq=>nomatch q)
def R4(a:Str)(b:Int):decide ((HF a:jl)=eI b)=χ:=decide_eq_false (λq=>nomatch q)
def gH(prog:cB)(w:dD):PySem.KeyKind prog w jl where
 is:=WO
 hash:=gj w
 inj:=λv a b g f=>by
  rcases lT g with⟨i,t,rfl,rfl⟩ | ⟨x,t,rfl,rfl⟩
  ·rcases lT f with⟨j,u,rfl,e⟩ | ⟨y,u,rfl,e⟩
   ·injection e with c _;rw[c]
   ·show nomatch e
  ·rcases lT f with⟨j,u,rfl,e⟩ | ⟨y,u,rfl,e⟩
   ·show nomatch e
   ·injection e with c _;rw[c]
 byValue:=λk v h=>by
  rcases lT h with⟨i,t,rfl,rfl⟩ | ⟨x,t,rfl,rfl⟩ <;> rfl
 pyHash:=λd h=>by
  rcases lT d with⟨i,t,rfl,rfl⟩ | ⟨x,t,rfl,rfl⟩
  ·show wpAny_pyHash_int h
  ·show wpAny_pyHash_str h
 eqBool:=λl d h=>by
  rcases lT l with⟨i,t,rfl,rfl⟩ | ⟨x,t,rfl,rfl⟩
  ·rcases lT d with⟨j,u,rfl,rfl⟩ | ⟨y,u,rfl,rfl⟩
   ·rw[Q9] at h;show wpAny_eqBool_int h
   ·rw[R3] at h;show SeqAt.EqAt.int_str i t y u _ _ _ _ h
  ·rcases lT d with⟨j,u,rfl,rfl⟩ | ⟨y,u,rfl,rfl⟩
   ·rw[R4] at h;show SeqAt.EqAt.str_int x t j u _ _ _ _ h
   ·rw[R5] at h;show wpAny_eqBool_str h
 «strs»:=λk x t v h=>by
  rcases lT h with⟨i,u,rfl,e⟩ | ⟨y,u,rfl,e⟩
  ·show nomatch e
  ·injection e with c _;subst c;cases v <;> rfl
def Gg(prog:cB)(w:dD)(i:Int)(t:Tok):(gH prog w).is (.inl i) (.int i t)=ζ:=Qe i t
def Gh(prog:cB)(w:dD)(x:Str)(t:Tok):(gH prog w).is (.inr x) (.str x t)=ζ:=Qf x t
set_option genInjectivity true in
inductive V where
 |non |bl (b:Bool) |int (i:Int) |str (x:Str) |byt (b:Array UInt8) |flt (b:UInt64) |ref (a:Addr) |ty (n:String)
 deriving DecidableEq
def RelV:V->aF->Prop
 | .non,u=>u=eU
 | .bl b,u=>u=CK b
 | .int i,u=>∃t,u=AV i t
 | .str x,u=>∃t,u=PH x t
 | .byt b,u=>∃t,u=Value.bytes b t
 | .flt b,u=>∃t,u=Value.float b t
 | .ref a,u=>u=eO a
 | .ty n,u=>u=jR n
abbrev c9:θ V->θ aF->Prop:=Paired RelV
def c9.length(r:c9 xs us):xs.length=us.length:=zQ r
theorem c9.get:∀{xs:θ V}{us:θ aF}{i:Nat}{x:V},c9 xs us->xs[i]?=ψ x->∃u,us[i]?=ψ u/\RelV x u
 |_,_,_,_,.nil,e=>by simp at e
 |_,_,0,_,.cons r _,e=>by simp at e;subst e;show#[_,bg,r]
 |_,_,i+1,x,.cons _ t,e=>by
  let⟨u,a,b⟩:=c9.get (i:=i) (x:=x) t (~~~e);show#[u,~~~a,b]
theorem c9.set(r:RelV x u):∀{xs:θ V}{us:θ aF}(i:Nat),c9 xs us->c9 (xs.set i x) (us.set i u)
 |_,_,_,.nil=>.nil
 |_,_,0,.cons _ t=>.cons r t
 |_,_,i+1,.cons q t=>.cons q (c9.set r i t)
theorem c9.append:∀{xs ys:θ V}{us ws:θ aF},c9 xs us->c9 ys ws->c9 (xs++ys) (us++ws)
 |_,_,_,_,.nil,s=>s
 |_,_,_,_,.cons r t,s=>.cons r (c9.append t s)
theorem c9.take:∀{xs:θ V}{us:θ aF}(n:Nat),c9 xs us->c9 (xs.take n) (us.take n)
 |_,_,0,_=>.nil
 |_,_,_+1,.nil=>.nil
 |_,_,n+1,.cons r t=>.cons r (c9.take n t)
theorem c9.drop:∀{xs:θ V}{us:θ aF}(n:Nat),c9 xs us->c9 (xs.drop n) (us.drop n)
 |_,_,0,r=>r
 |_,_,_+1,.nil=>.nil
 |_,_,n+1,.cons _ t=>c9.drop n t
def ss:Option V->Option aF->Prop
 |some v,ψ u=>RelV v u
 |none,ξ=>True
 |_,_=>False
def KV{a:Type}:θ (a×V)->θ (a×aF)->Prop:=Paired λ(p:a×V) (q:a×aF)=>p.1=q.1/\RelV p.2 q.2
def kV:jl->V
 | .inl i=>.int i
 | .inr x=>.str x
inductive HO where
  |lst (xs:List V)
  |tup (xs:List V)
  |dK (kvs:List (jl×V)) |dT (kvs:List (List jl×V))
  |set (S:Int->Bool) (n:Nat)
  |ins (C dx:Addr) (fs:List (Str×V))
  |own (x:Addr)
  |xd (fs:List (Str×V))
  |met (f x:Addr)
  |rng (lo hi:Int)
  |frz (o:Obj) (u:HO)
  |tbl (ps:Array aF)
  |ext (φ:Heap->Prop)
abbrev Hp:=Addr->Option HO
def f_(H:Hp)(a:Addr)(o:HO):Hp:=λb=>if b=a then ψ o else H b
def fA:f_ H a o a=ψ o:=by unfold f_;rw[υ rfl]
def cY(h:b≠a):f_ H a o b=H b:=by unfold f_;rw[ω h]
def aq{H:Hp}(h:H a=ψ o)(h':H b=ψ u)(d:o≠u):a≠b:=by
 intro e;subst e;rw[h] at h';show d (cW h')
def dF{H:Hp}(h:H a=ψ o)(h':H b=ξ):a≠b:=by
 intro e;subst e;rw[h] at h';cases h'
section
variable(P:cB)(w:dD)
def g9(H:Hp)(h:Heap)(a:Addr):HO->Prop
 | .lst e=>e.length<=sizeLine/\∃(c:List aF)(n:Nat),c9 e c/\h.get? a=ψ {cls:=.type "list",data:=.seq c.toArray n}
 | .tup e=>e.length<=sizeLine/\∃c:List aF,c9 e c/\IsTup h a c.toArray
 | .dK d=>d.length<=sizeLine/\(a == sysModules)=χ/\∃k,KV d k/\h.DictOf (gH P w) a k
 | .dT d=>d.length<=sizeLine/\(a == sysModules)=χ/\∃e:List (List jl×Addr×aF),
   Paired (λ(p:θ jl×V) (q:θ jl×Addr×aF)=>p.1=q.1/\H q.2.1=ψ (.tup (p.1.map kV))/\RelV p.2 q.2.2) d e /\
   ∃o l y,h.get? a=ψ o/\o.ExactDict/\o.data = .dict l y/\l.toList=e.map (entryOfKey (tupleKind (gH P w)))/\(e.map (·.1)).Nodup
 | .set S n=>h.SetOf (intKind P w) a S n
 | .ins C j i=>H j=ψ (.own a)/\i.length<=1000/\j≠a/\h.get? a=ψ (DL C j) /\
   ∃g,h.Ns1 j g/\(∀f,ss (i.lookup f) (g f))/\PySem.Within g (i.map (·.1))
 | .own _=>∃o,h.get? a=ψ o
 | .xd i=>∃g,h.Ns1 a g/\∀f,ss (i.lookup f) (g f)
 | .rng lo z=>∃t u v,h.get? a=ψ {cls:=.type "range",data:=.fields (LE [.int lo t,.int z u,.int 1 v])}
 | .frz o u=>h.get? a=ψ o/\g9 H h a u
 | .tbl A=>h.get? a=ψ {cls:=.none,data:=.fields A}
 | .met f x=>h.get? a=ψ (yR (.ref f) (.ref x))
 | .ext b=>b h/\(∃o,h.get? a=ψ o)/\∀m s:Heap,b m->(∀o,m.get? a=ψ o->s.get? a=ψ o)->b s
def qb(H:Hp)(h:Heap):Prop:=∀a o,H a=ψ o->g9 P w H h a o
end
section
variable{a:Addr}
def g9.lt(x:g9 P w H h a o):a<h.objs.size:=by
 cases o with
 |lst d=>let⟨_,_,_,_,e⟩:=x;show bG e
 |tup d=>let⟨_,_,_,p⟩:=x;show p.lt
 |dK c=>let⟨_,_,_,_,o,_,_,e,_⟩:=x;show bG e
 |dT c=>let⟨_,_,_,_,o,_,_,e,_⟩:=x;show bG e
 |set S n=>let⟨o,_,_,_,e,_⟩:=x;show bG e
 |ins C i g=>let⟨_,_,_,e,_⟩:=x;show bG e
 |own y=>let⟨_,e⟩:=x;show bG e
 |xd g=>obtain⟨_,⟨_,_,_,e,_⟩,_⟩:=x;show bG e
 |rng lo j=>let⟨_,_,_,e⟩:=x;show bG e
 |frz k u=>let⟨e,_⟩:=x;show bG e
 |tbl l=>show bG (show h.get? a=ψ _ from x)
 |met f y=>show bG (show h.get? a=ψ _ from x)
 |ext b=>obtain⟨_,⟨_,e⟩,_⟩:=x;show bG e
theorem Paired.mapP{α β:Type}{F G:α->β->Prop}:∀{l₁:θ α}{l₂:θ β},Paired F l₁ l₂->(∀a b,F a b->G a b)->Paired G l₁ l₂
 |_,_,.nil,_=>.nil
 |_,_,.cons r t,f=>.cons (f _ _ r) (Paired.mapP t f)
def g9.stay(x:g9 P w H h a o)(k:∀b u,(b=a\/H b=ψ (.own a))->h.get? b=ψ u->h'.get? b=ψ u)
  (E:∀b,H b=ψ (.own a)->H' b=ψ (.own a)) (F:∀b xs,H b=ψ (.tup xs)->H' b=ψ (.tup xs)):g9 P w H' h' a o:=by
 induction o with
 |lst xs=>let⟨z,m,n,r,e⟩:=x;show#[z,m,n,r,k _ _ (.inl rfl) e]
 |tup xs=>let⟨z,m,r,g,e,c⟩:=x;show#[z,m,r,g,k _ _ (.inl rfl) e,c]
 |dK s=>let⟨z,y,G,r,g,j,l,e,c⟩:=x;show#[z,y,G,r,g,j,l,k _ _ (.inl rfl) e,c]
 |dT s=>
  let⟨z,y,xs,r,g,j,l,e,c⟩:=x;show#[z,y,xs,Paired.mapP r λp q z=>#[z.1,F _ _ z.2.1,z.2.2],g,j,l,k _ _ (.inl rfl) e,c]
 |set S n=>let⟨g,j,l,t,e,c⟩:=x;show#[g,j,l,t,k _ _ (.inl rfl) e,c]
 |ins C M I=>
  obtain⟨d,z,J,e,A,⟨B,j,l,K,c⟩,r⟩:=x;show#[E _ d,z,J,k _ _ (.inl rfl) e,A,#[B,j,l,k _ _ (.inr d) K,c],r]
 |own y=>let⟨g,e⟩:=x;show#[g,k _ _ (.inl rfl) e]
 |xd I=>obtain⟨A,⟨B,j,l,e,c⟩,r⟩:=x;show#[A,#[B,j,l,k _ _ (.inl rfl) e,c],r]
 |rng lo N=>let⟨t,u,v,e⟩:=x;show#[t,u,v,k _ _ (.inl rfl) e]
 |frz g u L=>let⟨e,q⟩:=x;show#[k _ _ (.inl rfl) e,L q]
 |tbl D=>
  have e:h.get? a=ψ {cls:=.none,data:=.fields D}:=x;show h'.get? a=ψ {cls:=.none,data:=.fields D};show k a _ (.inl rfl) e
 |met f y=>
  have e:h.get? a=ψ (yR (.ref f) (.ref y)):=x;show h'.get? a=ψ (yR (.ref f) (.ref y));show k a _ (.inl rfl) e
 |ext i=>obtain⟨p,⟨o,e⟩,st⟩:=x;show#[st _ _ p λo q=>k _ _ (.inl rfl) q,#[o,k _ _ (.inl rfl) e],st]
def qb.lt(x:qb P w H h)(e:H a=ψ o):a<h.objs.size:=(x a o e).lt
def qb.fresh(x:qb P w H h)(e:h.objs.size<=a):H a=ξ:=by
 cases q:H a with
 |none=>rfl
 |some u=>show Ω (bU (x.lt q) e) (iQ _)
def qb.kept(x:qb P w H h)(k:∀b u,h.get? b=ψ u->h'.get? b=ψ u):qb P w H h':=λa o e=>
 (x a o e).stay (λb u _ q=>k b u q) (λ_ q=>q) λ_ _ q=>q
def qb.laid(x:qb P w H h)(k:∀b u,h.get? b=ψ u->h'.get? b=ψ u)(i:h.objs.size<=a)(d:g9 P w (f_ H a o) h' a o):qb P w (f_ H a o) h':=λb u e=>by
 have f:=x.fresh i;by_cases g:b=a
 ·subst g;rw[fA] at e;cases e;show d
 ·rw[cY g] at e;show(x b u e).stay (λc v _ q=>k c v q) (λc q=>by rw[cY (dF q f)];show q) λc j q=>by rw[cY (dF q f)];show q
end
def Rd(H:Hp)(a:Addr)(u:HO):Prop:=H a=ψ u\/∃o,H a=ψ (.frz o u)
def Rd.ok(r:Rd H a u)(x:qb P w H h):g9 P w H h a u:=by
 rcases r with r | ⟨o,r⟩
 ·show x a u r
 ·let⟨_,q⟩:=x a _ r;show q
def eS:Option HO->Prop
 |some (.lst _)=>True
 |some (.dK _)=>True
 |some (.dT _)=>True
 |some (.set _ _)=>True
 |some (.ins _ _ _)=>True
 |some (.ext _)=>True
 |_=>False
def qb.write(ok:qb P w H h)(d:eS (H x))(n:e=x\/H e=ψ (.own x))(k:∀b u,b≠e->h.get? b=ψ u->h'.get? b=ψ u)(l:∃u,h'.get? e=ψ u)
  (m:g9 P w (f_ H x o') h' x o'):qb P w (f_ H x o') h':=λb u q=>by
 have a:∀c y,H c=ψ (.own y)->c≠x:=λc y r z=>by subst z;rw[r] at d;show d
 have s:∀c f,H c=ψ (.tup f)->c≠x:=λc f r z=>by subst z;rw[r] at d;show d
 by_cases g:b=x
 ·subst g;rw[fA] at q;cases q;show m
 ·rw[cY g] at q;by_cases i:b=e
  ·have o:H b=ψ (.own x):=by
    rcases n with z |z
    ·show Ω (i.trans z) g
    ·rw[i];show z
   rw[q] at o;cases o;let⟨v,A⟩:=l;show#[v,by rw[i];show A]
  ·show(ok b u q).stay (λc v j r=>k c v ?_ r) (λc r=>by rw[cY (a c b r)];show r) λc f r=>by rw[cY (s c f r)];show r
   rcases j with rfl |j
   ·show i
   ·rintro rfl;rcases n with z |z
    ·show a c b j z
    ·rw[j] at z;cases z;show g rfl
structure Un(fs ex:List Addr)(H H':Hp)(h h':Heap):Prop where
 keep:∀b o,h.get? b=ψ o->H b=ξ->b∉fs->b∉ex->h'.get? b=ψ o
 slot:∀b o,h.get? b=ψ o->H b=ξ->b∈fs->b∉ex->∃sl,h'.get? b=ψ {o with slots:=sl}
 free:∀b o,h.get? b=ψ o->H b=ξ->b∉ex->H' b=ξ
 there:∀b o,h.get? b=ψ o->b∉ex->∃o',h'.get? b=ψ o'
 tups:∀b xs,H b=ψ (.tup xs)->H' b=ψ (.tup xs)
 frzs:∀b o u,H b=ψ (.frz o u)->H' b=ψ (.frz o u)
 tbls:∀b ps,H b=ψ (.tbl ps)->∃more,H' b=ψ (.tbl (ps++more))
section
variable{fs sn ex ex':θ Addr}
def Un.any(u:Un fs ex H H1 h h1)(q:h.get? b=ψ ob)(n:H b=ξ)(a:b∉ex):∃sl,h1.get? b=ψ {ob with slots:=sl}:=by
 by_cases c:b∈fs
 ·show u.slot b ob q n c a
 ·show#[ob.slots,u.keep b ob q n c a]
def Un.kept(k:∀b u,h.get? b=ψ u->h'.get? b=ψ u):Un fs ex H H h h':=
 #[λb a q _ _ _=>k b a q,λb a q _ _ _=>#[a.slots,k b a q],λ_ _ _ n _=>n,λb a q _=>#[a,k b a q],λ_ _ q=>q,λ_ _ _ q=>q,λ_ c q=>#[(LE []),by rw[q];simp]]
def Un.refl:Un fs ex H H h h:=Un.kept λ_ _ q=>q
def Un.laid(k:∀b u,h.get? b=ψ u->h'.get? b=ψ u)(d:h.objs.size<=a)(c:H a=ξ):Un fs ex H (f_ H a o) h h' where
 keep:=λb u q _ _ _=>k b u q
 slot:=λb u q _ _ _=>#[u.slots,k b u q]
 free:=λb u q n _=>by rw[cY (bP (bU (bG q) d))];show n
 there:=λb u q _=>#[u,k b u q]
 tups:=λb e q=>by rw[cY (dF q c)];show q
 frzs:=λb u e q=>by rw[cY (dF q c)];show q
 tbls:=λb f q=>#[(LE []),by rw[cY (dF q c),q];simp]
def Un.write(a:eS (H x))(j:e=x\/H e=ψ (.own x))(k:∀b u,b≠e->h.get? b=ψ u->h'.get? b=ψ u)(c:∃u,h'.get? e=ψ u):Un fs ex H (f_ H x o) h h':=by
 have f:∀b,H b=ξ->b≠x:=λb n z=>by subst z;rw[n] at a;show a
 have g:∀b,H b=ξ->b≠e:=λb n z=>by
  subst z;rcases j with r |r
  ·show f b n r
  ·rw[n] at r;cases r
 have d:∀b u,H b=ψ u->¬eS (ψ u)->b≠x:=λb u q l z=>by subst z;rw[q] at a;show l a
 show#[λb u q n _ _=>k b u (g b n) q,λb u q n _ _=>#[u.slots,k b u (g b n) q],λb u q n _=>by rw[cY (f b n)];show n,λb u q _=>?_,
  λb m q=>by rw[cY (d b _ q λz=>z)];show q,λb u m q=>by rw[cY (d b _ q λz=>z)];show q,λb s q=>#[(LE []),by rw[cY (d b _ q λz=>z),q];simp]]
 by_cases i:b=e
 ·subst i;show c
 ·show#[u,k b u i q]
end
def ir(h:Heap)(H:Hp):θ Addr:=(cF h.objs.size).filter λa=>(H a).isSome
def ZD(h:Heap)(H:Hp):Heap:=PySem.W.hideAll h (ir h H)
def Qb(h:Heap)(H:Hp):(ZD h H).objs.size=h.objs.size:=PySem.W.hideAll_size _ _
def Va(e:h.get? b=ψ o)(n:H b=ξ):(ZD h H).get? b=ψ o:=
 PySem.W.hideAll_get _ e λa=>by
  have q:(H b).isSome=ζ:=(fX.mp a).2;rw[n] at q;simp at q
def C3(e:(ZD h H).get? b=ψ o):h.get? b=ψ o/\H b=ξ:=by
 have a:h.get? b=ψ o:=PySem.W.of_hideAll (ir h H) e;show#[a,?_];cases q:H b with
 |none=>rfl
 |some x=>
  have c:b∈ir h H:=fX.mpr #[cT.mpr (bG a),by simp[q]];have z:(ZD h H).get? b=ξ:=PySem.W.hideAll_none (ir h H) c;rw[z] at e;cases e
def MR(g h:Heap)(L:Addr):θ (Addr×Obj):=(cF h.objs.size).filterMap λa=>if a=L\/(g.get? a).isSome=ζ then ξ else(h.get? a).map λo=>(a,o)
def FS(c:a≠L)(d:g.get? a=ξ)(b:h.get? a=ψ o):(a,o)∈MR g h L:=
 oG.mpr #[a,cT.mpr (bG b),by simp[c,d,b]]
def XC(c:p∈MR g h L):p.1≠L/\g.get? p.1=ξ/\h.get? p.1=ψ p.2:=by
 let⟨b,_,e⟩:=oG.mp c;split at e
 ·cases e
 ·rename_i a;cases q:h.get? b with
  |none=>rw[q] at e;simp at e
  |some u=>
   rw[q] at e;erw[rQ,sY] at e;subst e;show#[λz=>a (.inl z),?_,q];show g.get? b=ξ;cases r:g.get? b with
   |none=>rfl
   |some v=>show(a (.inr (by simp[r]))).elim
def rest(g h:Heap)(L d:Addr):θ (Addr×Obj):=(MR g h L).filter λp=>decide (p.1≠d)
def Vw:News g L h (MR g h L):=λp d=>let ⟨a,b,c⟩:=XC d;#[c,a,b]
structure Mod(K:aL)(mg:Str->Option aF)(base:Heap):Prop where
 kin:K.In base
 glob:base.Ns mainGlobals mg
 blt:∃mb,base.Ns builtinsNs mb/\∀x:Str,x≠"__name__"->mb x=bootBuiltins x
 nolimit:base.NoLimit
structure Cx where
 prog:cB
 w:dD
 K:aL
 mg:Str->Option aF
 base:Heap
 A:dG
 N:θ Str
 s₀:aK
 H₀:Hp
 env:Env
 outer:θ Env
 stack:θ Env
 ex:θ Addr
 fn:Str->Bool
 calm:Bool
 pn:θ (Addr×Obj)
 xe:aF->aK->Prop
def we(l:θ Env):θ Addr:=l.filterMap (·.frame)
abbrev Cx.fs(X:Cx):θ Addr:=we X.outer
def vq(a:Scope)(x:Str):Prop:=a.names.lookup x=ψ .local\/a.names.lookup x=ψ .cell\/a.names.lookup x=ψ .free
def Loc(a:Scope)(x:Str):Prop:=a.names.lookup x=ψ .local\/a.names.lookup x=ψ .cell
def Look(env:Env)(h:Heap)(m:Str->Option aF)(x:Str)(u:aF):Prop:=
 (env.kindOf x=ψ .local/\m x=ψ u)\/((env.kindOf x=ψ .cell\/env.kindOf x=ψ .free)/\∃c,env.cells.lookup x=ψ c/\h.IsCell c (ψ u))
structure Cx.Ok(X:Cx):Prop where
 mod:Mod X.K X.mg X.base
 kind:X.env.scope.kind = .function
 glob:X.env.globals=mainGlobals
 blt:X.env.builtins=builtinsNs
 above:X.s₀.z<=X.env.locals
 inj:∀x y c,X.env.cells.lookup x=ψ c->X.env.cells.lookup y=ψ c->x=y
 has:∀x,(X.env.kindOf x=ψ .cell\/X.env.kindOf x=ψ .free)->∃c,X.env.cells.lookup x=ψ c
 cab:∀x c,X.fn x=ζ->X.env.cells.lookup x=ψ c->X.s₀.z<=c
 hd:X.calm=ζ->X.A.handled=ξ
 frames:X.A.frames=ψ X.stack
 stk:X.stack=X.outer\/(X.stack=X.env::X.outer/\X.env.frame=ψ X.env.locals)
 exf:∀b∈X.ex,b≠X.env.locals/\∀x c,X.env.cells.lookup x=ψ c->c≠b
 bs:∀b o,X.base.get? b=ψ o->X.s₀.heap.get? b=ψ o/\X.H₀ b=ξ
 bsz:X.base.objs.size<=X.s₀.z
 noex:∀b o,X.base.get? b=ψ o->b∉X.ex
 exfs:∀b∈X.ex,b∉X.fs
 funs:X.s₀.heap.FunFrames X.base X.outer
 frf:∀b∈X.fs,X.H₀ b=ξ
structure Inv(X:Cx)(Φ:List (Addr×Obj))(σ:List (Option V))(H:Hp)(s:aK):Prop where
 ok:X.Ok
 os:s.os=X.s₀.os
 bare:AllBare s.gens
 base:Un X.fs X.ex X.H₀ H X.s₀.heap s.heap
 loc:∃m,s.heap.Ns X.env.locals m/\∀(i:Nat)(x:Str)(v:V),X.N[i]?=ψ x->σ[i]?=ψ (ψ v)->vq X.env.scope x->∃u,RelV v u/\Look X.env s.heap m x u
 cell:∀x c,X.env.cells.lookup x=ψ c->∃v,s.heap.IsCell c v
 free:H X.env.locals=ξ
 freeC:∀x c,X.env.cells.lookup x=ψ c->H c=ξ
 pin:∀p∈X.pn++Φ,s.heap.get? p.1=ψ p.2/\H p.1=ξ/\p.1≠X.env.locals/\p.1∉X.fs/\∀v,p.2.data≠.cell v
 hok:qb X.prog X.w H s.heap
 len:σ.length=X.N.length
section
variable{X:Cx}{Φ:θ (Addr×Obj)}{σ:θ (Option V)}{H H':Hp}{s:aK}{h':Heap}
def Cx.Ok.nofr(ok:X.Ok){b:Addr}{o:Obj}(e:X.base.get? b=ψ o):b∉X.fs:=λa=>by
 have:=(ok.funs.mem a).1;rw[e] at this;cases this
def Inv.bs(I:Inv X Φ σ H s):∀b o,X.base.get? b=ψ o->s.heap.get? b=ψ o/\H b=ξ:=λb o e=>
 #[I.base.keep b o (I.ok.bs b o e).1 (I.ok.bs b o e).2 (I.ok.nofr e) (I.ok.noex b o e),I.base.free b o (I.ok.bs b o e).1 (I.ok.bs b o e).2 (I.ok.noex b o e)]
def Inv.bk(I:Inv X Φ σ H s):∀b o,X.base.get? b=ψ o->s.heap.get? b=ψ o:=λb o e=>(I.bs b o e).1
def Inv.mod(I:Inv X Φ σ H s):Mod X.K X.mg X.base:=I.ok.mod
def Inv.kIn(I:Inv X Φ σ H s):X.K.In s.heap:=I.ok.mod.kin.keeps I.bk
def Inv.lt(I:Inv X Φ σ H s):X.env.locals<s.z:=let ⟨_,hn,_⟩:=I.loc;hn.lt
def Inv.sz(I:Inv X Φ σ H s):X.s₀.z<=s.z:=dY I.ok.above (kM I.lt)
def Inv.nofs(I:Inv X Φ σ H s){a:Addr}(h:s.z<=a):a∉X.fs:=λb=>by
 let⟨_,o,c,_⟩:=I.ok.funs.mem b;show Ω (bU (bG c) (dY I.sz h)) (iQ _)
def Inv.cne(I:Inv X Φ σ H s):∀x c,X.env.cells.lookup x=ψ c->c≠X.env.locals:=λx c e z=>by
 let⟨v,o,a,b⟩:=I.cell x c e;obtain⟨m,⟨g,h,i,d,f,_⟩,_⟩:=I.loc;rw[z,d] at a;cases a;rw[f] at b;cases b
def Inv.funs(I:Inv X Φ σ H s):s.heap.FunFrames X.base X.outer:=by
 have all:∀(l:θ Env),(∀b∈we l,b∈X.fs)->X.s₀.heap.FunFrames X.base l->s.heap.FunFrames X.base l:=by
  intro l
  induction l with
  |nil=>intro _ _;trivial
  |cons g r h=>
   intro f i;obtain⟨j,⟨L,o,a,k,m,n⟩,q⟩:=i;have c:L∈X.fs:=f L (by unfold we;rw[eX,a];show dL);let⟨u,e⟩:=I.base.slot L o m (I.ok.frf L c) c λz=>I.ok.exfs L z c;show#[j,#[L,_,a,k,e,n],h (λb d=>f b (by unfold we;rw[eX,a];show cR _ d)) q]
 show all X.outer (λ_ d=>d) I.ok.funs
def Inv.stack(I:Inv X Φ σ H s):s.heap.FunFrames X.base X.stack:=by
 rcases I.ok.stk with e | ⟨e,a⟩
 ·rw[e];show I.funs
 ·rw[e];let⟨m,b,_⟩:=I.loc;show .cons (by rw[I.ok.kind];decide) a b ?_ I.funs;show Heap.get?_none_of_le (dY I.ok.bsz I.ok.above)
def Inv.stkSub(I:Inv X Φ σ H s):∀b∈we X.stack,b∈X.env.locals::X.fs:=λb a=>by
 rcases I.ok.stk with e | ⟨e,c⟩
 ·rw[e] at a;show cR _ a
 ·rw[e] at a;unfold we at a;rw[eX,c] at a;show a
def Inv.stkFree(I:Inv X Φ σ H s):∀b∈we X.stack,H b=ξ:=λb a=>by
 rcases aV.mp (I.stkSub b a) with e |a
 ·rw[e];show I.free
 ·let⟨_,o,c,_⟩:=I.ok.funs.mem a;show I.base.free b o c (I.ok.frf b a) λz=>I.ok.exfs b z a
def Inv.step{g':Array GenState}{t':Nat}{d':Drawn}{ch:θ Addr}(I:Inv X Φ σ H s)
  (B:∀b∈ch,(b∈X.ex\/X.s₀.z<=b)/\b≠X.env.locals/\(∀x c,X.env.cells.lookup x=ψ c->c≠b)/\∀p∈X.pn++Φ,p.1≠b)
  (keep:∀b o,b≠X.env.locals->b∉X.fs->b∉ch->s.heap.get? b=ψ o->H b=ξ->h'.get? b=ψ o)
  (slot:∀b o,b≠X.env.locals->b∈X.fs->b∉ch->s.heap.get? b=ψ o->H b=ξ->∃sl,h'.get? b=ψ {o with slots:=sl}) (free:∀b o,b∉ch->s.heap.get? b=ψ o->H b=ξ->H' b=ξ)
  (there:∀b o,b∉ch->s.heap.get? b=ψ o->∃o',h'.get? b=ψ o')
  (tups:∀b xs,H b=ψ (.tup xs)->H' b=ψ (.tup xs)) (frzs:∀b o u,H b=ψ (.frz o u)->H' b=ψ (.frz o u)) (tbls:∀b ps,H b=ψ (.tbl ps)->∃more,H' b=ψ (.tbl (ps++more)))
  (ns:∀m,s.heap.Ns X.env.locals m->h'.Ns X.env.locals m) (E:qb X.prog X.w H' h') (N:AllBare g'):
  Inv X Φ σ H' {s with heap:=h',gens:=g',drawn:=d',toks:=t'}:=by
 have C:∀b o,X.s₀.heap.get? b=ψ o->b≠X.env.locals:=λb o e=>bP (bU (bG e) I.ok.above);have h:∀b o,X.s₀.heap.get? b=ψ o->b∉X.ex->b∉ch:=λb o e a y=>by
  rcases (B b y).1 with z |z
  ·show a z
  ·show Ω (bU (bG e) z) (iQ _)
 have f:∀x c,X.env.cells.lookup x=ψ c->∀v,s.heap.IsCell c v->h'.IsCell c v:=λx c e v ⟨o,A,F⟩=>by
  have g:c∉ch:=λz=>(B c z).2.2.1 x c e rfl;by_cases J:c∈X.fs
  ·let⟨sl,q⟩:=slot c o (I.cne x c e) J g A (I.freeC x c e);show#[_,q,F]
  ·show#[o,keep c o (I.cne x c e) J g A (I.freeC x c e),F]
 show#[I.ok,I.os,N,#[λb o e n y a=>?_,λb o e n y a=>?_,λb o e n a=>?_,λb o e a=>?_,λb xs e=>tups b xs (I.base.tups b xs e),λb o xs e=>frzs b o xs (I.base.frzs b o xs e),λb ps e=>?_],?_,λx c e=>?_,?_,λx c e=>?_,λp K=>?_,E,I.len]
 ·show keep b o (C b o e) y (h b o e a) (I.base.keep b o e n y a) (I.base.free b o e n a)
 ·let⟨sl,j⟩:=I.base.slot b o e n y a;let⟨G,D⟩:=slot b _ (C b o e) y (h b o e a) j (I.base.free b o e n a);show#[G,D]
 ·let⟨o',j⟩:=I.base.there b o e a;show free b o' (h b o e a) j (I.base.free b o e n a)
 ·let⟨o',j⟩:=I.base.there b o e a;show there b o' (h b o e a) j
 ·let⟨O,j⟩:=I.base.tbls b ps e;let⟨P,D⟩:=tbls b _ j;show#[O++P,by rw[D,xH]]
 ·let⟨m,Q,R⟩:=I.loc;show#[m,ns m Q,λi x v j D T=>?_];let⟨u,r,l⟩:=R i x v j D T;show#[u,r,?_];rcases l with l | ⟨k,c,e,z⟩
  ·show .inl l
  ·show .inr #[k,c,e,f x c e _ z]
 ·let⟨v,z⟩:=I.cell x c e;show#[v,f x c e v z]
 ·obtain⟨m,⟨o,_,_,A,_⟩,_⟩:=I.loc;show free _ o (λz=>(B _ z).2.1 rfl) A I.free
 ·let⟨v,o,A,F⟩:=I.cell x c e;show free c o (λz=>(B c z).2.2.1 x c e rfl) A (I.freeC x c e)
 ·let⟨e,n,L,M,d⟩:=I.pin p K;have g:p.1∉ch:=λz=>(B p.1 z).2.2.2 p K rfl;show#[keep p.1 p.2 L M g e n,free p.1 p.2 g e n,L,M,d]
def Inv.un(I:Inv X Φ σ H s)(u:Un X.fs [] H H' s.heap h')(a:qb X.prog X.w H' h'):Inv X Φ σ H' {s with heap:=h',toks:=t'}:=by
 obtain⟨m,⟨o,l,q,f,r⟩,_⟩:=id I.loc;let⟨v,h⟩:=u.any f I.free η;show I.step (g':=s.gens) (d':=s.drawn) (ch:=[]) (λ_ z=>nomatch z) (λb o _ c _ e n=>u.keep b o e n c η) (λb o _ c _ e n=>u.slot b o e n c η) (λb o _ e n=>u.free b o e n η) (λb o _ e=>u.there b o e η) u.tups u.frzs u.tbls (λy i=>by
  let⟨A,j,d,g,k⟩:=i;rw[f] at g;cases g;show#[_,j,d,h,k]) a I.bare
def Inv.call(I:Inv X Φ σ H s)(u:Un (we X.stack) ch H H' s.heap h')(d:qb X.prog X.w H' h')(k:AllBare g')
  (h:∀b∈ch,(b∈X.ex\/X.s₀.z<=b)/\b≠X.env.locals/\(∀x c,X.env.cells.lookup x=ψ c->c≠b)/\∀p∈X.pn++Φ,p.1≠b):
  Inv X Φ σ H' {s with heap:=h',gens:=g',drawn:=d',toks:=t'}:=by
 obtain⟨m,⟨o,A,B,i,r⟩,_⟩:=id I.loc;let⟨C,f⟩:=u.any i I.free λz=>(h _ z).2.1 rfl;show I.step (ch:=ch) h (λb o f l a e n=>u.keep b o e n (λz=>(aV.mp (I.stkSub b z)).elim f l) a) (λb o _ _ a e n=>u.any e n a) (λb o a e n=>u.free b o e n a) (λb o a e=>u.there b o e a) u.tups u.frzs u.tbls (λD q=>by
  let⟨E,v,g,j,y⟩:=q;rw[i] at j;cases j;show#[_,v,g,f,y]) d k
def Inv.turned(I:Inv X Φ σ H s)(k:∀b o,b≠it->s.heap.get? b=ψ o->h'.get? b=ψ o)(g:H it=ξ)(d:it≠X.env.locals)
  (h:it∈X.ex\/X.s₀.z<=it) (i:∀x c,X.env.cells.lookup x=ψ c->c≠it) (j:∀p∈X.pn++Φ,p.1≠it):Inv X Φ σ H {s with heap:=h',toks:=t'}:=by
 have f:∀b u,H b=ψ u->b≠it:=λb u e z=>by rw[z,g] at e;cases e
 show I.step (g':=s.gens) (d':=s.drawn) (ch:=[it]) (λb l=>?_) (λb o _ _ a e _=>k b o (λz=>a (by simp[z])) e) (λb o _ _ a e _=>#[o.slots,k b o (λz=>a (by simp[z])) e]) (λ_ _ _ _ n=>n)
  (λb o a e=>#[o,k b o (λz=>a (by simp[z])) e]) (λ_ _ e=>e) (λ_ _ _ e=>e) (λb C e=>#[(LE []),by rw[e];simp]) (λm w=>?_) (λb u e=>?_) I.bare
 ·have e:b=it:= ~~~l
  subst e;show#[h,d,i,j]
 ·let⟨o,y,A,B,r⟩:=w;show#[o,y,A,k _ o (Ne.symm d) B,r]
 ·show(I.hok b u e).stay (λc v a q=>k c v ?_ q) (λ_ q=>q) λ_ _ q=>q;rcases a with z |z
  ·rw[z];show f b u e
  ·show f c _ z
def Inv.tok(I:Inv X Φ σ H s)(t:Nat):Inv X Φ σ H {s with toks:=t}:=I.un (h':=s.heap) (t':=t) Un.refl I.hok
def Inv.kept(I:Inv X Φ σ H s)(k:∀b u,s.heap.get? b=ψ u->h'.get? b=ψ u):Inv X Φ σ H {s with heap:=h',toks:=t'}:=I.un (Un.kept k) (I.hok.kept k)
def Inv.laid{a:Addr}(I:Inv X Φ σ H s)(k:∀b u,s.heap.get? b=ψ u->h'.get? b=ψ u)(c:s.z<=a)(d:g9 X.prog X.w (f_ H a o) h' a o):
  Inv X Φ σ (f_ H a o) {s with heap:=h',toks:=t'}:=I.un (Un.laid k c (I.hok.fresh c)) (I.hok.laid k c d)
def Inv.write(I:Inv X Φ σ H s)(d:eS (H x))(f:e=x\/H e=ψ (.own x))(k:∀b u,b≠e->s.heap.get? b=ψ u->h'.get? b=ψ u)(a:∃u,h'.get? e=ψ u)
  (c:g9 X.prog X.w (f_ H x o) h' x o):Inv X Φ σ (f_ H x o) {s with heap:=h',toks:=t'}:=I.un (Un.write d f k a) (I.hok.write d f k a c)
def Inv.pins_of(I:Inv X Φ σ H s)(h:∀p∈gn,s.heap.get? p.1=ψ p.2/\H p.1=ξ/\p.1≠X.env.locals/\p.1∉X.fs/\∀v,p.2.data≠.cell v):Inv X gn σ H s:=
 #[I.ok,I.os,I.bare,I.base,I.loc,I.cell,I.free,I.freeC,λp a=>(bQ.mp a).elim (λz=>I.pin p (eY _ z)) (h p),I.hok,I.len]
def Gk{N:θ Str}(c:N.Nodup){i j:Nat}{x:Str}(a:N[i]?=ψ x)(b:N[j]?=ψ x):i=j:=by
 let⟨f,d⟩:=bF.mp a;let⟨g,e⟩:=bF.mp b;show(List.getElem_inj c).mp (d.trans e.symm)
def Bf(I:Inv X Φ σ H s)(hN:X.N.Nodup)(hi:X.N[i]?=ψ x)(C:Loc X.env.scope x)(r:RelV v u)
  (h:∀s',Inv X Φ (σ.set i (ψ v)) H s'->(∃a,qL a s.heap s'.heap/\(a=X.env.locals\/X.env.cells.lookup x=ψ a))->Q () s') (hf:X.fn x=ζ\/X.env.scope.names.lookup x=ψ .local:=by walk_at "loc"):wpAny M A (storeName X.env x u) Q E s:=by
 let⟨m,Y,hl⟩:=id I.loc;have O:(X.env.scope.kind == .class || (X.env.scope.kind == .module && X.env.locals != X.env.globals))=χ:=by rw[I.ok.kind];rfl
 have hiσ:i<σ.length:=by rw[I.len];show(bF.mp hi).1
 have cne:=I.cne;have g:∀{a:Addr}{h':Heap},(∃o,s.heap.get? a=ψ o/\H a=ξ)->qL a s.heap h'->qb X.prog X.w H h':=λ{a h'} ha f b ob e=>by
  let⟨_,_,D⟩:=ha;show(I.hok b ob e).stay (λc T B q=>(f.2 c ?_).trans q) (λ_ q=>q) λ_ _ q=>q;rintro rfl;rcases B with rfl |B
  ·rw[D] at e;cases e
  ·rw[D] at B;cases B
 rcases C with G |G
 ·show wpAny_storeName_local G Y (λh' r8 f=>?_) O;let⟨oL,_,_,Z,_⟩:=id Y;show h _ #[I.ok,I.os,I.bare,#[λb o e n J C=>?_,λb o e n J C=>?_,I.base.free,λb o e C=>?_,I.base.tups,I.base.frzs,I.base.tbls],#[_,r8,λj y v' l F e3=>?_],λy c e=>?_,I.free,I.freeC,λp hp=>?_,g #[oL,Z,I.free] f,~~~I.len] #[_,f,.inl rfl]
  ·show(f.2 b (bP (bU (bG e) I.ok.above))).trans (I.base.keep b o e n J C)
  ·let⟨sl,l⟩:=I.base.slot b o e n J C;show#[sl,(f.2 b (bP (bU (bG e) I.ok.above))).trans l]
  ·let⟨o',l⟩:=I.base.there b o e C;show#[o',(f.2 b (bP (bU (bG e) I.ok.above))).trans l]
  ·by_cases K:j=i
   ·subst K;rw[hi] at l;cases l;rw[gL hiσ] at F;cases F;show#[u,r,.inl #[G,η]]
   ·rw[iM (Ne.symm K)] at F;let⟨u',r',q⟩:=hl j y v' l F e3;show#[u',r',?_];rcases q with⟨k,e⟩ | ⟨k,c,e,z⟩
    ·show .inl #[k,?_];have:y≠x:=λe=>K (Gk hN l (e▸hi));simp[this,e]
    ·show .inr #[k,c,e,z.sameBut f (cne y c e)]
  ·let⟨T,z⟩:=I.cell y c e;show#[T,z.sameBut f (cne y c e)]
  ·let⟨e,n,U,nf,d⟩:=I.pin p hp;show#[(f.2 p.1 U).trans e,n,U,nf,d]
 ·have L:X.fn x=ζ:=by
   rcases hf with z |z
   ·show z
   ·rw[z] at G;cases G
  let⟨c,B⟩:=I.ok.has x (.inl G);let⟨T,z⟩:=I.cell x c B;show wpAny_storeName_cell I.ok.kind G B z (λh' x6 f=>?_);let⟨oc,x_,P⟩:=id z;show h {s with heap:=h'} #[I.ok,I.os,I.bare,#[λb o e n J C=>?_,λb o e n J C=>?_,I.base.free,λb o e C=>?_,I.base.tups,I.base.frzs,I.base.tbls],#[m,Y.sameBut f (Ne.symm (cne x c B)),λj y v' l F e3=>?_],λy W e=>?_,I.free,I.freeC,λp hp=>?_,g #[oc,x_,I.freeC x c B] f,~~~I.len] #[c,f,.inr B]
  ·show(f.2 b (bP (bU (bG e) (I.ok.cab x c L B)))).trans (I.base.keep b o e n J C)
  ·let⟨sl,l⟩:=I.base.slot b o e n J C;show#[sl,(f.2 b (bP (bU (bG e) (I.ok.cab x c L B)))).trans l]
  ·let⟨o',l⟩:=I.base.there b o e C;show#[o',(f.2 b (bP (bU (bG e) (I.ok.cab x c L B)))).trans l]
  ·by_cases K:j=i
   ·subst K;rw[hi] at l;cases l;rw[gL hiσ] at F;cases F;show#[u,r,.inr #[.inl G,c,B,x6]]
   ·rw[iM (Ne.symm K)] at F;let⟨u',r',q⟩:=hl j y v' l F e3;show#[u',r',?_];rcases q with q | ⟨k,W,e,z'⟩
    ·show .inl q
    ·show .inr #[k,W,e,z'.sameBut f ?_];rintro rfl;show K (Gk hN l (I.ok.inj _ _ _ e B▸hi))
  ·by_cases R:W=c
   ·subst R;show#[_,x6]
   ·let⟨w2,z2⟩:=I.cell y W e;show#[w2,z2.sameBut f R]
  ·let⟨e,n,U,nf,d⟩:=I.pin p hp;show#[(f.2 p.1 ?_).trans e,n,U,nf,d];intro q;rw[q,x_] at e;have q':oc=p.2:=cW e;show d T (by rw[<-q'];show P)
def OH(I:Inv X Φ σ H s)(a:X.N.Nodup)(hi:X.N[i]?=ψ x)(b:Loc X.env.scope x)(r:RelV v u)
  (h:∀s',Inv X Φ (σ.set i (ψ v)) H s'->Q () s') (c:X.fn x=ζ\/X.env.scope.names.lookup x=ψ .local:=by walk_at "loc"):wpAny M A (storeName X.env x u) Q E s:=
 Bf I a hi b r (λs' d _=>h s' d) c
def Inv.call'(I:Inv X Φ σ H s)(d:s'.os=s.os)(u:Un (we X.stack) ch H H' s.heap s'.heap)(a:qb X.prog X.w H' s'.heap)(f:AllBare s'.gens)
  (g:∀b∈ch,(b∈X.ex\/X.s₀.z<=b)/\b≠X.env.locals/\(∀x c,X.env.cells.lookup x=ψ c->c≠b)/\∀p∈X.pn++Φ,p.1≠b):Inv X Φ σ H' s':=by
 let⟨h',g',d',t',h⟩:=s';have e:h=s.os:=d;subst e;show I.call (g':=g') (t':=t') (d':=d') u a f g
end
abbrev XK:=aF->Option Addr->Hp->Prop
abbrev St:=θ (Option V)
abbrev VK:=V->Hp->Prop
abbrev TE:=St->Hp->VK->Prop
abbrev TT:=St->Hp->(Bool->Hp->Prop)->Prop
abbrev TA:=St->Hp->(θ V->Hp->Prop)->Prop
structure ww where
 nx:St->Hp->Prop
 rt:VK
 bk:St->Hp->Prop:=λ_ _=>False
 ct:St->Hp->Prop:=λ_ _=>False
abbrev TS:=ww->St->Hp->Prop
def EP(X:Cx)(Φ:θ (Addr×Obj))(Z:St)(Q:VK)(u:aF)(b:aK):Prop:=∃v a,Inv X Φ Z a b/\RelV v u/\Q v a
def TP(X:Cx)(Φ:θ (Addr×Obj))(Z:St)(Q:Bool->Hp->Prop)(b:Bool)(c:aK):Prop:=∃a,Inv X Φ Z a c/\Q b a
def AP(X:Cx)(Φ:θ (Addr×Obj))(Z:St)(Q:θ V->Hp->Prop)(c:θ aF)(d:aK):Prop:=∃a b,Inv X Φ Z b d/\c9 a c/\Q a b
def SP(X:Cx)(Φ:θ (Addr×Obj))(D:ww)(f:Flow)(c:aK):Prop:=
 match f with
 | .next=>∃b a,Inv X Φ b a c/\D.nx b a
 | .brk=>∃b a,Inv X Φ b a c/\D.bk b a
 | .cont=>∃b a,Inv X Φ b a c/\D.ct b a
 | .ret u=>∃v b a,Inv X Φ b a c/\RelV v u/\D.rt v a
abbrev Δ{α:Type}(X:Cx):=@PySem.wpAny α (PySem.model X.prog X.w) X.A
def PE(X:Cx)(e:Expr)(t:TE):Prop:=
 ∀(Φ:θ (Addr×Obj))(s:aK)(Z:St)(H:Hp)(Q:VK),Inv X Φ Z H s->t Z H Q->Δ X (eval e X.env) (EP X Φ Z Q) X.xe s
def PT(X:Cx)(e:Expr)(t:TT):Prop:=
 ∀(Φ:θ (Addr×Obj))(s:aK)(Z:St)(H:Hp)(Q:Bool->Hp->Prop),Inv X Φ Z H s->t Z H Q->Δ X (isTrue e X.env (eval e X.env)) (TP X Φ Z Q) X.xe s
def PW(X:Cx)(e:Expr)(t:TT):Prop:=
 ∀(a:Sem aF)(Φ:θ (Addr×Obj))(s:aK)(Z:St)(H:Hp)(Q:Bool->Hp->Prop),Inv X Φ Z H s->t Z H Q->Δ X (isTrue e X.env a) (TP X Φ Z Q) X.xe s
def PW.pt{t:TT}(h:PW X e t):PT X e t:=h _
def PA(X:Cx)(es:θ Expr)(t:TA):Prop:=
 ∀(a:Pos)(Φ:θ (Addr×Obj))(s:aK)(Z:St)(H:Hp)(Q:θ V->Hp->Prop),Inv X Φ Z H s->t Z H Q->Δ X (spliced (backTo a (starEach es X.env))) (AP X Φ Z Q) X.xe s
def PS(X:Cx)(st:Stmt)(t:TS):Prop:=
 ∀(Φ:θ (Addr×Obj))(s:aK)(Z:St)(H:Hp)(D:ww),Inv X Φ Z H s->t D Z H->Δ X (exec st X.env) (SP X Φ D) X.xe s
def ue(X:Cx)(st:θ Stmt)(t:TS):Prop:=
 ∀(Φ:θ (Addr×Obj))(s:aK)(Z:St)(H:Hp)(D:ww),Inv X Φ Z H s->t D Z H->Δ X (execs st X.env) (SP X Φ D) X.xe s
def i0{α:Type}{t:Sem α}{Q b:α->aK->Prop}{s:aK}(h:wpAny M A t Q E s)(c:∀a s,Q a s->b a s):wpAny M A t b E s:=iB h c λ_ _ x=>x
section
variable{X:Cx}
def fh(i:Nat):TE:=λZ H Q=>∃v,Z[i]?=ψ (ψ v)/\Q v H
def tC(v:V):TE:=λ_ H Q=>Q v H
def U1{pos:Pos}(j:X.N[i]?=ψ x)(k:vq X.env.scope x)(d:(x == ("__debug__":Str))=χ:=by decide)(n:(x == ("__classdict__":Str))=χ:=by decide):PE X (.Name x pos) (fh i):=by
 intro Φ s Z H Q I h;let⟨v,e,h⟩:=h;let⟨m,o,q⟩:=I.loc;let⟨u,r,l⟩:=q i x v j e k;have a:EP X Φ Z Q u s:=#[v,H,I,r,h];rcases l with⟨b,w⟩ | ⟨b,c,f,g⟩
 ·show CZ (HA I.ok.kind b o w a) d
 ·rcases b with b |b
  ·show CZ (wpAny_loadName_cell I.ok.kind b f g a) d
  ·show CZ (IG I.ok.kind b f g a n) d
def Kl{i j pos}:PE X (.Constant (.int i) j pos) (tC (.int i)):=λ_ _ _ H _ I h=>LQ #[.int i,H,I.tok _,#[_,bg],h]
def ax{b j pos}:PE X (.Constant (.bool b) j pos) (tC (.bl b)):=λ_ _ _ H _ I h=>Constant_bool #[.bl b,H,I,bg,h]
def T7{j pos}:PE X (.Constant .none j pos) (tC .non):=λ_ _ _ H _ I h=>Constant_none #[.non,H,I,bg,h]
def Gl(X:Cx)(x:Str):Prop:=X.env.kindOf x=ψ .globalImplicit
def A8{s:aK}{Z:St}{pos:Pos}(I:Inv X Φ Z H s)(a:Gl X x)(b:X.mg x=ψ u)(h:Q u s)
  (c:(x == ("__debug__":Str))=χ:=by decide):Δ X (eval (.Name x pos) X.env) Q E s:=
 xM I.ok.kind a (Calls.loadGlobal_global (by rw[I.ok.glob];show I.mod.glob.keeps I.bk) b h) c
def oA{E:aF->aK->Prop}{Φ:θ (Addr×Obj)}{s:aK}{Z:St}{H:Hp}{x:Str}{u:aF}{pos:Pos}{Q:aF->aK->Prop}(I:Inv X Φ Z H s)(a:Gl X x)(b:X.mg x=ξ)(c:bootBuiltins x=ψ u)(h:Q u s)
  (d:x≠"__name__":=by decide) (e:(x == ("__debug__":Str))=χ:=by decide):Δ X (eval (.Name x pos) X.env) Q E s:=by
 let⟨i,f,g⟩:=I.mod.blt;show xM I.ok.kind a (Calls.loadGlobal_builtin (by rw[I.ok.glob];show I.mod.glob.keeps I.bk) b (by rw[I.ok.blt];show f.keeps I.bk) ((g x d).trans c) h) e
def D7{pos:Pos}(a:Gl X x)(b:X.mg x=ξ)(c:bootBuiltins x=ψ u)(r:RelV v u)(d:x≠"__name__":=by decide)(e:(x == ("__debug__":Str))=χ:=by decide):PE X (.Name x pos) (tC v):=
 λ_ _ _ H _ I h=>oA I a b c #[v,H,I,r,h] d e
variable{ta tb:TE}{pos:Pos}
def tB(t:TE):TT:=λZ H Q=>t Z H λx a=>∃c,x = .bl c/\Q c a
def U9{t:TE}(h:PE X e t)(a:∀whole,isTrue e X.env whole=(do let v <-whole;standAt e.pos;holding [v] (truthy v)):=by intro _;rfl):PT X e (tB t):=by
 intro Φ s Z H Q I b;show isTrue_plain (i0 (h Φ s Z H _ I b) λv k c=>?_) (a _);let⟨x,f,g,i,j⟩:=c;let⟨d,rfl,q⟩:=j;cases i;show pV #[f,g,q]
variable{rest:θ Expr}
def jc(t u:TT):TT:=λZ H Q=>t Z H λc a=>if c=ζ then u Z a Q else Q χ a
def CD(t u:TT):TT:=λZ H Q=>t Z H λc a=>if c=ζ then Q ζ a else u Z a Q
def jm(t:TT):TT:=λZ H Q=>t Z H λc a=>Q (!c) a
def F0(b:PT X a tA):PW X (.BoolOp .And [a] pos) tA:=by
 intro d Φ s Z H Q I h;show isTrue_and (i0 (b Φ s Z H Q I h) λc f e=>?_);cases c with
 |true=>show isTrue_and_nil e
 |false=>show e
def V3(b:PT X a tA):PW X (.BoolOp .Or [a] pos) tA:=by
 intro d Φ s Z H Q I h;show isTrue_or (i0 (b Φ s Z H Q I h) λc f e=>?_);cases c with
 |false=>show isTrue_or_nil e
 |true=>show e
def V2(g:PT X a tA)(i:PW X (.BoolOp .And (b::rest) pos) kg):PW X (.BoolOp .And (a::b::rest) pos) (jc tA kg):=by
 intro j Φ s Z H Q I h;show isTrue_and (i0 (g Φ s Z H _ I h) λc k l=>?_);let⟨d,e,f⟩:=l;cases c with
 |true=>show i j Φ k Z d Q e f
 |false=>show#[d,e,f]
def bn(g:PT X a tA)(i:PW X (.BoolOp .Or (b::rest) pos) kg):PW X (.BoolOp .Or (a::b::rest) pos) (CD tA kg):=by
 intro j Φ s Z H Q I h;show isTrue_or (i0 (g Φ s Z H _ I h) λc k l=>?_);let⟨d,e,f⟩:=l;cases c with
 |true=>show#[d,e,f]
 |false=>show i j Φ k Z d Q e f
def U8(b:PT X a tA):PT X (.UnaryOp .Not a pos) (jm tA):=by
 intro Φ s Z H Q I h;show isTrue_not (b Φ s Z H (λc d=>Q (!c) d) I h)
def di(ta tb:TE):TE:=λZ H Q=>ta Z H λx a=>∃c,x = .bl c/\if c=ζ then tb Z a Q else Q (.bl χ) a
def fc(ta:TE):TE:=λZ H Q=>ta Z H λx a=>∃c,x = .bl c/\Q (.bl (!c)) a
def T9{op}{t:TE}(h:PE X a t):PE X (.BoolOp op [a] pos) t:=λΦ s Z H Q I b=>BoolOp_one (h Φ s Z H Q I b)
def T5(g:PE X a ta)(i:PE X (.BoolOp .And (b::rest) pos) tb):PE X (.BoolOp .And (a::b::rest) pos) (di ta tb):=by
 intro Φ s Z H Q I h;show BoolOp_and (i0 (g Φ s Z H _ I h) λv j k=>?_);let⟨x,e,f,l,d⟩:=k;let⟨c,rfl,d⟩:=d;cases l;show pV ?_;cases c with
 |true=>show i Φ j Z e Q f d
 |false=>show#[.bl χ,e,f,bg,d]
def T8(d:PE X a ta):PE X (.UnaryOp .Not a pos) (fc ta):=by
 intro Φ s Z H Q I h;show UnaryOp_ (i0 (d Φ s Z H _ I h) λv j e=>?_);let⟨x,f,g,i,b⟩:=e;let⟨c,rfl,b⟩:=b;cases i;show not_of (pV #[.bl (!c),f,g,bg,b])
end
def om(K:aL)(H:Hp)(a:Addr)(xs:θ V):Prop:=
 Rd H a (.lst xs) \/
  ∃(o:Obj)(b:Array aF)(n:Nat),K.lookup a=ψ o/\o.cls = .type "list"/\o.dict=ξ/\o.data = .seq b n/\b.size<=sizeLine/\c9 xs b.toList
def m7(K:aL)(H:Hp)(a:Addr)(xs:θ V):Prop:=
 Rd H a (.tup xs) \/
  ∃(o:Obj)(b:Array aF)(n:Nat),K.lookup a=ψ o/\o.cls = .type "tuple"/\o.data = .seq b n/\b.size<=sizeLine/\c9 xs b.toList
def fu:aF->Option V
 | .none=>ψ .non
 | .bool b=>ψ (.bl b)
 | .int i _=>ψ (.int i)
 | .str x _=>ψ (.str x)
 | .bytes b _=>ψ (.byt b)
 | .float b _=>ψ (.flt b)
 | .ref a=>ψ (.ref a)
 | .type n=>ψ (.ty n)
 |_=>ξ
def RelV.abs(r:RelV x u):fu u=ψ x:=by
 cases x with
 |non=>cases r;rfl
 |bl _=>cases r;rfl
 |int _=>let⟨t,rfl⟩:=r;rfl
 |str _=>let⟨t,rfl⟩:=r;rfl
 |byt _=>let⟨t,rfl⟩:=r;rfl
 |flt _=>let⟨t,rfl⟩:=r;rfl
 |ref _=>cases r;rfl
 |ty _=>cases r;rfl
def RelV.inj(r:RelV x u)(q:RelV y u):x=y:=cW (r.abs.symm.trans q.abs)
def c9.inj(h:c9 xs us)(k:c9 ys us):xs=ys:=by
 induction h generalizing ys with
 |nil=>cases k;rfl
 |cons r t a=>cases k with |cons b c=>rw[r.inj b,a c]
section
variable{σ:St}{H:Hp}{s:aK}{a:Addr}{xs ys:θ V}
def om.of{K:aL}(h:H a=ψ (.lst xs)):om K H a xs:=.inl (.inl h)
def m7.of{K:aL}(h:H a=ψ (.tup xs)):m7 K H a xs:=.inl (.inl h)
def Inv.list(I:Inv X Φ σ H s)(h:om X.K H a xs):∃its:θ aF,c9 xs its/\PlainL s.heap a its.toArray/\xs.length<=sizeLine:=by
 rcases h with h | ⟨o,its,n,b,c,d,f,g,r⟩
 ·let⟨z,its,n,r,e⟩:=h.ok I.hok;show#[its,r,#[_,n,e,bg,bg,bg],z]
 ·show#[its.toList,r,#[o,n,I.kIn a o b,c,d,~~~f],?_];have e:=r.length;erw[dA] at e;lia
def Inv.tuple(I:Inv X Φ σ H s)(h:m7 X.K H a xs):∃its:θ aF,c9 xs its/\IsTup s.heap a its.toArray/\xs.length<=sizeLine:=by
 rcases h with h | ⟨o,its,n,b,c,d,f,r⟩
 ·let⟨z,its,r,p⟩:=h.ok I.hok;show#[its,r,p,z]
 ·show#[its.toList,r,#[o,I.kIn a o b,c,n,~~~d],?_];have e:=r.length;erw[dA] at e;lia
def Inv.list_inj(I:Inv X Φ σ H s)(h:om X.K H a xs)(h':om X.K H a ys):xs=ys:=by
 obtain⟨c,r,⟨o,n,e,_,_,d⟩,_⟩:=I.list h;obtain⟨b,i,⟨j,k,f,_,_,g⟩,_⟩:=I.list h';rw[e] at f;cases f;rw[d] at g;injection g with d1 _;have:c=b:= ~~~Ψ LU d1
 subst this;show r.inj i
def Inv.tuple_inj(I:Inv X Φ σ H s)(h:m7 X.K H a xs)(h':m7 X.K H a ys):xs=ys:=by
 obtain⟨c,r,⟨o,e,_,n,d⟩,_⟩:=I.tuple h;obtain⟨b,i,⟨j,f,_,k,g⟩,_⟩:=I.tuple h';rw[e] at f;cases f;rw[d] at g;injection g with d1 _;have:c=b:= ~~~Ψ LU d1
 subst this;show r.inj i
end
abbrev Cx.wish(X:Cx)(E:aF->aK->Prop):Cx:={X with xe:=E}
abbrev Cx.nox(X:Cx):Cx:=X.wish λ_ _=>False
def Cx.Ok.wish{X:Cx}(ok:X.Ok)(E:aF->aK->Prop):(X.wish E).Ok:=
 #[ok.mod,ok.kind,ok.glob,ok.blt,ok.above,ok.inj,ok.has,ok.cab,ok.hd,ok.frames,ok.stk,ok.exf,ok.bs,ok.bsz,ok.noex,ok.exfs,ok.funs,ok.frf]
def Cx.Ok.unwish{X:Cx}{E:aF->aK->Prop}(ok:(X.wish E).Ok):X.Ok:=
 #[ok.mod,ok.kind,ok.glob,ok.blt,ok.above,ok.inj,ok.has,ok.cab,ok.hd,ok.frames,ok.stk,ok.exf,ok.bs,ok.bsz,ok.noex,ok.exfs,ok.funs,ok.frf]
section
variable{X:Cx}{σ:St}{s:aK}
def Inv.wish(I:Inv X Φ σ H s)(E:aF->aK->Prop):Inv (X.wish E) Φ σ H s:=#[I.ok.wish E,I.os,I.bare,I.base,I.loc,I.cell,I.free,I.freeC,I.pin,I.hok,I.len]
def Inv.unwish(I:Inv (X.wish E) Φ σ H s):Inv X Φ σ H s:=#[I.ok.unwish,I.os,I.bare,I.base,I.loc,I.cell,I.free,I.freeC,I.pin,I.hok,I.len]
def SP.unwish{D:ww}{f:Flow}(h:SP (X.wish E) Φ D f s'):SP X Φ D f s':=by
 cases f with
 |next=>let⟨a,b,I,q⟩:=h;show#[a,b,I.unwish,q]
 |brk=>let⟨a,b,I,q⟩:=h;show#[a,b,I.unwish,q]
 |cont=>let⟨a,b,I,q⟩:=h;show#[a,b,I.unwish,q]
 |ret u=>let⟨v,a,b,I,r,q⟩:=h;show#[v,a,b,I.unwish,r,q]
def ue.nox{st:θ Stmt}{t:TS}(h:ue X.nox st t):ue X st t:=λΦ s σ H D I a=>
 iB (h Φ s σ H D (I.wish _) a) (λ_ _ q=>q.unwish) λ_ _ z=>nM z
end
section
variable{X:Cx}{st:Stmt}{rest:θ Stmt}{t u:TS}{te:TE}{pos:Pos}
def eh:TS:=λD Z H=>D.nx Z H
def jr(t u:TS):TS:=λD Z H=>t {D with nx:=u D} Z H
def E6:ue X [] eh:=λ_ _ Z H _ I h=>vZ #[Z,H,I,h]
def Wx(a:PS X st t)(b:ue X rest u):ue X (st::rest) (jr t u):=by
 intro Φ s Z H D I h;show QU (i0 (a Φ s Z H {D with nx:=u D} I h) λf c q=>?_);cases f with
 |next=>
  let⟨d,e,g,q⟩:=q;show b Φ c d e D g q
 |ret v=>show q
 |brk=>show q
 |cont=>show q
def E7(a:PS X st t):ue X [st] t:=by
 intro Φ s Z H D I h;show QU (i0 (a Φ s Z H D I h) λf b q=>?_);cases f with
 |next=>show vZ q
 |ret v=>show q
 |brk=>show q
 |cont=>show q
def Inv.quiet{Z:St}{s:aK}(I:Inv X Φ Z H s):interactive X.env=χ:=by simp[interactive,I.ok.kind]
def dz(te:TE):TS:=λD Z H=>te Z H λ_ a=>D.nx Z a
def UR(a:PE X e te)(b:swapsWith e ξ pos.line X.env=pure χ:=by rfl):PS X (.Expr e pos) (dz te):=by
 intro Φ s Z H D I h;show wpAny_Expr_any (i0 (a Φ s Z H _ I h) λv g ⟨x,c,d,i,f⟩=>#[Z,c,d,f]) I.quiet b
def jq(te:TE):TS:=λD Z H=>te Z H D.rt
def U7(a:PE X e te):PS X (.Return (ψ e) pos) (jq te):=by
 intro Φ s Z H D I h;show wpAny_Return_some (i0 (a Φ s Z H _ I h) λv g ⟨x,b,c,d,f⟩=>#[x,Z,b,c,d,f])
def jh(c:TT)(t u:TS):TS:=λD Z H=>c Z H λb a=>if b=ζ then t D Z a else u D Z a
def bj{c:Expr}(j:PT X c tc)(k:ue X a t)(l:ue X b u):PS X (.If c a b pos) (jh tc t u):=by
 intro Φ s Z H D I h;show wpAny_If (i0 (j Φ s Z H _ I h) λd e m=>?_);let⟨f,g,i⟩:=m;cases d with
 |true=>show k Φ e Z f D g i
 |false=>show l Φ e Z f D g i
def X7:TS:=λ_ _ _=>False
def Wv:PS X st X7:=λ_ _ _ _ _ _ h=>h.elim
end
abbrev TG:=V->St->Hp->(St->Hp->Prop)->Prop
abbrev zj:=θ V->St->Hp->(St->Hp->Prop)->Prop
def PG(X:Cx)(a:Expr)(t:TG):Prop:=
 ∀(Φ:θ (Addr×Obj))(s:aK)(Z:St)(H:Hp)(v:V)(u:aF)(Q:St->Hp->Prop),Inv X Φ Z H s->RelV v u->t v Z H Q ->
  Δ X (assign a X.env u) (λ_ d=>∃b c,Inv X Φ b c d/\Q b c) X.xe s
def xx(X:Cx)(ts:θ Expr)(t:zj):Prop:=
 ∀(Φ:θ (Addr×Obj))(s:aK)(Z:St)(H:Hp)(a:θ V)(b:θ aF)(Q:St->Hp->Prop),Inv X Φ Z H s->c9 a b->t a Z H Q ->
  Δ X (assignInOrder ((assignEach ts X.env).map (·.2)) b) (λ_ e=>∃c d,Inv X Φ c d e/\Q c d) X.xe s
abbrev N7:=V->V->V->Hp->(Hp->Prop)->Prop
def Y6(X:Cx)(t:N7):Prop:=
 ∀(Φ:θ (Addr×Obj))(s:aK)(Z:St)(H:Hp)(o i v:V)(a b u:aF)(Q:Hp->Prop),Inv X Φ Z H s->RelV o a->RelV i b->RelV v u->t o i v H Q ->
  Δ X (setItem a b u) (λ_ d=>∃c,Inv X Φ Z c d/\Q c) X.xe s
section
variable{X:Cx}{pos:Pos}
def K6(i:Nat):TG:=λv Z H Q=>Q (Z.set i (ψ v)) H
def E1(a:X.N.Nodup)(hi:X.N[i]?=ψ x)(b:Loc X.env.scope x)(c:X.fn x=ζ\/X.env.scope.names.lookup x=ψ .local:=by walk_at "loc"):PG X (.Name x pos) (K6 i):=by
 intro Φ s Z H v u Q I r h;show OI (OH I a hi b r (λe d=>#[_,H,d,h]) c)
def gf:zj:=λa Z H Q=>a=[]/\Q Z H
def Z9(t:TG)(u:zj):zj:=λa Y H Q=>∃v r,a=v::r/\t v Y H λb c=>u r b c Q
def E2:xx X [] gf:=by
 intro Φ s Z H a b Q I r h;let⟨e,h⟩:=h;subst e;cases r;show MT #[Z,H,I,h]
def Wr{t:TG}(a:PG X e t)(b:xx X es u)
  (c:(assignEach (e::es) X.env).map (·.2)=assign e X.env::(assignEach es X.env).map (·.2):=by rfl):xx X (e::es) (Z9 t u):=by
 intro Φ s Y H n o Q I r h;let⟨v,q,d,h⟩:=h;subst d;cases r with
 |cons r f=>
  rw[c];show xT (i0 (a Φ s Y H _ _ _ I r h) λ_ g i=>?_);let⟨j,k,l,m⟩:=i;show b Φ g j k _ _ Q l f m
def gh(K:aL)(n:Nat)(t:zj):TG:=λv Z H Q=>∃a b,v = .ref a/\m7 K H a b/\b.length=n/\t b Z H Q
def U3{es:θ Expr}{k:Nat}{t:zj}{n:Nat}(f:X.calm=ζ)(h:xx X es t)
  (g:(assignEach es X.env).length=n:=by rfl) (i:(assignEach es X.env).findIdx? (·.1)=ξ:=by rfl):PG X (.Tuple es k pos) (gh X.K n t):=by
 intro Φ s Z H v u Q I r c;let⟨a,j,l,m,q,c⟩:=c;subst l;cases r;let⟨w,d,y,C⟩:=I.tuple m;show assign_Tuple_tuple (I.ok.hd f) y (by simp[g,<-q,d.length]) i λz A=>?_;have B:Inv X Φ Z H {s with heap:=z}:=I.kept (t':=s.toks) λb o e=>A b o (bP (bG e)) e;show h Φ _ Z H j _ Q B (~~~d) c
def gg(a b:TE)(t:N7):TG:=λv Z H Q=>a Z H λo c=>b Z c λi d=>t o i v d λe=>Q Z e
def U2{t:N7}(b:PE X o to)(hi:PE X i ti)(c:Y6 X t)
  (d:∀v,assign (.Subscript o i pos) X.env v=(do
   let ov <-holding [v] (eval o X.env)
   let iv <-holding [v,ov] (eval i X.env)
   standAt pos
   holding [v,ov,iv] (setItem ov iv v)
   release [v,ov,iv] []):=by intro _;rfl):PG X (.Subscript o i pos) (gg to ti t):=by
 intro Φ s Z H v u Q I r h;rw[d];show aD (fS (i0 (b Φ s Z H _ I h) λov e a=>?_));let⟨x,f,g,j,k⟩:=a;show aD (fS (i0 (hi Φ e Z f _ g k) λiv l a=>?_));let⟨y,m,n,q,w⟩:=a;show aD (AF (aD (fS (i0 (c Φ l Z m x y v ov iv u _ n j q r w) λ_ C a=>?_))));let⟨z,A,B⟩:=a;show wpAny_release #[Z,z,A,B]
def dk(a:TE)(g:TG):TS:=λD Z H=>a Z H λx b=>g x Z b D.nx
def Wu(a:PE X e te)(b:PG X tg g)(c:swapsWithSole [tg] e pos.line X.env=pure χ:=by rfl)(d:swappedStores [tg] e X.env=pure ξ:=by rfl)
  (f:(assignEach [tg] X.env).map (·.2)=[assign tg X.env]:=by rfl):PS X (.Assign [tg] e pos) (dk te g):=by
 intro Φ s Z H D I h;show wpAny_Assign_stores (i0 (a Φ s Z H _ I h) λv i j=>?_) c d;let⟨x,k,l,m,n⟩:=j;rw[f];show i0 (b Φ i Z k x v _ l m n) λ_ o q=>q
def Di(a:X.N.Nodup)(hi:X.N[i]?=ψ x)(b:Loc X.env.scope x)(c:PE X e te)(d:swapsWith e (ψ (.Name x pos')) pos.line X.env=pure χ:=by rfl)(f:X.fn x=ζ\/X.env.scope.names.lookup x=ψ .local:=by walk_at "loc"):
  PS X (.Assign [.Name x pos'] e pos) (dk te (K6 i)):=by
 intro Φ s Z H D I h;show wpAny_Assign_Name (i0 (c Φ s Z H _ I h) λv o g=>?_) d;let⟨y,j,k,l,m⟩:=g;show OH k a hi b l (λq n=>#[_,j,n,m]) f
def jo(i j:Nat)(a:TA):TS:=λD Z H=>a Z H λb c=>∃v w,b=[v,w]/\D.nx ((Z.set i (ψ v)).set j (ψ w)) c
def U6{g k pt:Pos}{kt k2 bh}(C:X.calm=ζ)(m:X.N.Nodup)(hi:X.N[i]?=ψ x)(E:X.N[j]?=ψ y)(F:i≠j)
  (n:X.env.scope.names.lookup x=ψ .local) (u:X.env.scope.names.lookup y=ψ .local) (G:PA X [a,b] ta)
  (J:swappedStores [.Tuple [.Name x g,.Name y k] kt pt] (.Tuple [a,b] k2 bh) X.env=pure (ψ [x,y]))
  (K:swapsWithSole [.Tuple [.Name x g,.Name y k] kt pt] (.Tuple [a,b] k2 bh) pos.line X.env=pure χ:=by rfl):
  PS X (.Assign [.Tuple [.Name x g,.Name y k] kt pt] (.Tuple [a,b] k2 bh) pos) (jo i j ta):=by
 intro Φ s Z H D I h;rw[exec_Assign_arm];show aD (AF ?_);rw[K];show aD (aP ?_);rw[ω μ];show aD (Tuple_ (i0 (G _ Φ s Z H _ I h) λL c M=>?_));let⟨vs,A,O,P,l⟩:=M;let⟨v,w,Q,l⟩:=l;subst Q;obtain⟨d,f,rfl,R,T⟩:∃d f,L=[d,f]/\RelV v d/\RelV w f:=by
  cases P with
  |cons p q=>
   cases q with
   |cons U V=>
    cases V;show#[_,_,bg,p,U]
 show fD ?_ (by show 2<=sizeLine;decide);have W:Inv X Φ Z A {c with heap:=c.heap.push {cls:=.type "tuple",data:=.seq [d,f].toArray}}:=O.kept (t':=c.toks) λb o e=>aR _ e;rw[J];show aD (aP ?_);show Δ X (do rule "assign.swapped-stores";let items <-unpackItems (.ref c.z) 2 ξ;assignInOrder [λv=>bindName X.env y v,λv=>bindName X.env x v] items.reverse;pure Flow.next) _ _ _;show aD (YO (aD (unpackItems_tuple (items:=(LE [d,f])) (I.ok.hd C) (OT c.heap _) λh' Y=>?_)));have I3:=W.kept (h':=h') (t':=c.toks) λb o e=>Y b o (bP (bG e)) e;show wpAny _ _ (assignInOrder [λv=>bindName X.env y v,λv=>bindName X.env x v] [f,d] >>= λ_=>pure Flow.next) _ _ _;show aD (xT (YN (OH I3 m E (.inl u) T (λs2 I4=>?_) (.inr u))));show xT (YN (OH I4 m hi (.inl n) R (λs3 B=>MT (aP ?_)) (.inr n)));rw[List.set_comm _ _ (Ne.symm F)] at B;show#[_,A,B,l]
end
section
variable{pos:Pos}
def X8(c:TT)(g:TS):TS:=λD Z H=>∃W:Nat->St->Hp->Prop,(∃m,W m Z H)/\∀m Z H,W m Z H ->
 c Z H λb a=>if b=ζ then ∃N:St->Hp->Prop,(∀d e,N d e->∃f,f<m/\W f d e)/\g {D with nx:=N,ct:=N,bk:=D.nx} Z a else D.nx Z a
def Ww{c:Expr}(u:PassesOwn (model X.prog X.w) X.A X.env X.xe)(G:PT X c tc)(J:ue X body tb):PS X (.While c body [] pos) (X8 tc tb):=by
 intro Φ s Z H D I h;obtain⟨W,⟨K,L⟩,a⟩:=h;show wpAny_While (codeAny_whileLoop (λn M=>∃y z,Inv X Φ y z M/\W n y z) ?_ K #[Z,H,I,L]);rintro n O ⟨g,B,P,Q⟩;show mW u (i0 (G Φ O g B _ P (a n g B Q)) λb R T=>?_);let⟨C,E,i⟩:=T;cases b with
 |true=>
  let⟨N,F,i⟩:=i;rw[υ rfl];show mW u (i0 (J Φ R g C _ E i) λf U j=>?_);cases f with
  |next=>
   let⟨d,e,k,l⟩:=j;let⟨m,o,q⟩:=F d e l;show#[m,o,d,e,k,q]
  |cont=>
   let⟨d,e,k,l⟩:=j;let⟨m,o,q⟩:=F d e l;show#[m,o,d,e,k,q]
  |brk=>show j
  |ret v=>show j
 |false=>
  rw[ω cL];show vZ #[g,C,E,i]
end
structure It where
 go:Nat->Hp->Prop
 yld:Nat->Hp->V->Hp->Prop
 stop:Nat->Hp->Prop
def JR(X:Cx)(Φ:θ (Addr×Obj))(H:Hp)(b:Addr):Prop:=
 H b=ξ/\b≠X.env.locals/\b∉X.fs/\(b∈X.ex\/X.s₀.z<=b)/\(∀x c,X.env.cells.lookup x=ψ c->c≠b)/\∀p∈X.pn++Φ,p.1≠b
def Inv.fpOk{Z:St}{s:aK}{b:Addr}(I:Inv X Φ Z H s)(a:s.z<=b)(d:H' b=ξ):JR X Φ H' b:=by
 show#[d,kN (bU I.lt a),I.nofs a,.inr (dY I.sz a),λx c e z=>?_,λp f z=>?_]
 ·let⟨v,q⟩:=I.cell x c e;show Ω (bU q.lt (by rw[z];show a)) (iQ _)
 ·show Ω (bU (bG (I.pin p f).1) (by rw[z];show a)) (iQ _)
structure uf(P:cB)(w:dD)(K:aL)(tg:Expr)(J:It)(fp:List Addr)(it:Addr)(tn:Nat->Heap->Prop):Prop where
 mem:it∈fp
 obj:∀i h,tn i h->∀b∈fp,∃o,h.get? b=ψ o/\∀v,o.data≠.cell v
 keep:∀i h h',tn i h->(∀b∈fp,∀o,h.get? b=ψ o->h'.get? b=ψ o)->tn i h'
 item:∀(X:Cx),X.prog=P->X.w=w->X.K=K->X.calm=ζ->∀(i:Nat)(Φ:θ (Addr×Obj))(s:aK)(σ:St)(H:Hp)(E:aF->aK->Prop),Inv X Φ σ H s->(∀b∈fp,JR X Φ H b)->tn i s.heap->J.go i H ->
  wpAny (model P w) X.A (pyNext (.ref it)) (λr s1=>∃u,r=ψ u /\
   wpAny (model P w) X.A (letOwnedTupleGo tg (.ref it) u) (λ_ s2=>∃x H',Inv X Φ σ H' s2/\RelV x u/\J.yld i H x H'/\tn (i+1) s2.heap/\∀b∈fp,H' b=ξ) E s1) E s
 done:∀(X:Cx),X.prog=P->X.w=w->X.K=K->X.calm=ζ->∀(i:Nat)(Φ:θ (Addr×Obj))(s:aK)(σ:St)(H:Hp)(E:aF->aK->Prop),Inv X Φ σ H s->(∀b∈fp,JR X Φ H b)->tn i s.heap->J.stop i H ->
  wpAny (model P w) X.A (pyNext (.ref it)) (λr s1=>r=ξ/\Inv X Φ σ H s1) E s
 self:∀(A:dG)(i:Nat)(s:aK)(Q:aF->aK->Prop)(E:aF->aK->Prop),tn i s.heap->Q (.ref it) s->wpAny (model P w) A (pyIter (.ref it)) Q E s
abbrev TI:=St->Hp->(It->Hp->Prop)->Prop
def i9(X:Cx)(Φ:θ (Addr×Obj))(Z:St)(h:Expr)(R:It->Hp->Prop)(a:aF)(d:aK):Prop:=
 ∃(e:Addr)(f:θ Addr)(g:Nat->Heap->Prop)(J:It)(c:Hp),a = .ref e/\Inv X Φ Z c d/\uf X.prog X.w X.K h J f e g/\g 0 d.heap/\(∀b∈f,JR X Φ c b)/\R J c
def PI(X:Cx)(a iter:Expr)(b:TI):Prop:=
 ∀(Φ:θ (Addr×Obj))(s:aK)(Z:St)(H:Hp)(R:It->Hp->Prop),Inv X Φ Z H s->b Z H R ->
  Δ X (eval iter X.env) (λv c=>Δ X (pyIter v) (i9 X Φ Z a R) X.xe c) X.xe s
def Fv{s:aK}(b:s.heap.get? it=ψ o)(c:o.cls = .type n)(d:o.data = .fields vs)
  (e:["enumerate","zip","dict_itemiterator","dict_reverseitemiterator","odict_iterator","itertools.zip_longest","itertools.pairwise"].contains n=χ) (a:Q () s):wpAny M A (letOwnedTupleGo tg (.ref it) u) Q E s:=by
 unfold letOwnedTupleGo;cases tg <;> first
  |show aP a
  | (cases u <;> first
    |show aP a
    | (show aD (wpAny_load b ?_);rw[c,d];show wpAny M A (if(["enumerate","zip","dict_itemiterator","dict_reverseitemiterator","odict_iterator","itertools.zip_longest","itertools.pairwise"].contains n && vs[0]? == ψ (rawInt _))=ζ then _ else _) Q E s;rw[ω (by intro h;rw[e,xJ] at h;cases h)];show aP a))
def km(K:aL)(a:Addr):It:=
 #[λi H=>∃b x,om K H a b/\b[i]?=ψ x,λi H x c=>c=H/\∀b,om K H a b->b[i]?=ψ x,λi H=>∃b,om K H a b/\b.length<=i]
def kn(K:aL)(a:Addr):It:=
 #[λi H=>∃b x,m7 K H a b/\b[i]?=ψ x,λi H x c=>c=H/\∀b,m7 K H a b->b[i]?=ψ x,λi H=>∃b,m7 K H a b/\b.length<=i]
def Cb(lo:Int)(n:Nat):It:=#[λi _=>i<n,λi H x a=>a=H/\x = .int (lo+i),λi _=>n<=i]
def Ry{P:cB}{w:dD}{K:aL}{Q:Expr}(a f:Addr):uf P w K Q (km K a) [f] f (λi h=>h.IsListIter f a i) where
 mem:=η
 obj:=λi h st b g=>by
  have e:b=f:= ~~~g
  subst e;let⟨o,e,c,d⟩:=st;show#[o,e,λv z=>by rw[d] at z;cases z]
 keep:=λi h j st k=>st.at λo e=>k f η o e
 item:=by
  intro X n q y N i Φ s Z H E I l st A;subst n q y;let⟨R,x,m,B⟩:=A;let⟨C,D,p,T⟩:=I.list m;let⟨u,U,V⟩:=D.get B;let⟨F,G,W,J,L,M⟩:=l f η;show wpAny_pyNext_list_item st p.isList (x:=u) (~~~U) λj O Y=>?_;have I1:Inv X Φ Z H {s with heap:=j}:=I.turned (t':=s.toks) (λb o g e=>(Y.2 b g).trans e) F G J L M;let⟨o,e,c,d⟩:=id O;show#[u,bg,Fv (s:={s with heap:=j}) e c d μ #[x,H,I1,V,#[bg,λys hy=>by rw[I.list_inj hy m];show B],O,λb g=>(l b g).1]]
 done:=by
  intro X n q y N i Φ s Z H E I l st A;subst n q y;let⟨R,m,B⟩:=A;let⟨C,D,p,T⟩:=I.list m;let⟨F,G,W,J,L,M⟩:=l f η;have hl:=D.length;show wpAny_pyNext_list_end (I.ok.hd N) st p.isList ε λj eb=>#[bg,I.turned (t':=s.toks) (λb o g e=>eb b o g e) F G J L M]
 self:=λ_ _ _ _ _ st h=>wpAny_pyIter_listiter st h
def Lr{P:cB}{w:dD}{K:aL}{Q:Expr}(a f:Addr):uf P w K Q (kn K a) [f] f (λi h=>h.IsTupleIter f a i) where
 mem:=η
 obj:=λi h st b g=>by
  have e:b=f:= ~~~g
  subst e;let⟨o,e,c,d⟩:=st;show#[o,e,λv z=>by rw[d] at z;cases z]
 keep:=λi h l st k=>st.at λo e=>k f η o e
 item:=by
  intro X q y A N i Φ s Z H E I m st B;subst q y A;let⟨R,x,n,C⟩:=B;let⟨j,D,p,T⟩:=I.tuple n;let⟨u,U,V⟩:=D.get C;let⟨F,G,W,J,L,M⟩:=m f η;show wpAny_pyNext_tuple_item st (show s.heap.IsTuple a j.toArray from p) (x:=u) (~~~U) λl O Y=>?_;have I1:Inv X Φ Z H {s with heap:=l}:=I.turned (t':=s.toks) (λb o g e=>(Y.2 b g).trans e) F G J L M;let⟨o,e,c,d⟩:=id O;show#[u,bg,Fv (s:={s with heap:=l}) e c d μ #[x,H,I1,V,#[bg,λys hy=>by rw[I.tuple_inj hy n];show C],O,λb g=>(m b g).1]]
 done:=by
  intro X q y A N i Φ s Z H E I m st B;subst q y A;let⟨R,n,C⟩:=B;let⟨j,D,p,T⟩:=I.tuple n;let⟨F,G,W,J,L,M⟩:=m f η;have hl:=D.length;show wpAny_pyNext_tuple_end (I.ok.hd N) st (show s.heap.IsTuple a j.toArray from p) ε λl eb=>#[bg,I.turned (t':=s.toks) (λb o g e=>eb b o g e) F G J L M]
 self:=λ_ _ _ _ _ st h=>wpAny_pyIter_tupleiter st h
def YF{P:cB}{w:dD}{K:aL}{G:Expr}(a:Addr)(lo:Int)(n:Nat):uf P w K G (Cb lo n) [a] a (λi h=>IsRangeIter h a (lo+(i:Nat)*1) ((n:Int)-(i:Nat)) 1) where
 mem:=η
 obj:=λi h st b c=>by
  have e:b=a:= ~~~c
  subst e;show#[_,st,λv z=>by
   have J:ER _=ZT v:=z;cases J]
 keep:=λi h d st k=>k a η _ st
 item:=by
  intro X g j l m i Φ s Z H E I f st q;subst g j l;let⟨u,y,L,A,B,C⟩:=f a η;have W:=Walks.range (prog:=X.prog) (w:=X.w) (I.ok.hd m) a lo 1 n;show W.item i s _ _ q st λv d D M F N=>?_;let⟨t,rfl⟩:=M;have O:Inv X Φ Z H {s with heap:=d,toks:=D}:=I.turned (λb o c e=>N b o (~~~c) e) u y A B C;show#[_,bg,Fv (s:={s with heap:=d,toks:=D}) (n:="range_iterator") F rfl rfl μ #[.int (lo+i),H,O,#[t,?_],#[bg,bg],F,λb c=>(f b c).1]];rw[QX]
 done:=by
  intro X g j l m i Φ s Z H E I f st q;subst g j l;let⟨u,y,L,A,B,C⟩:=f a η;show DC (I.ok.hd m) st (by have:n<=i:=q;lia) λd Q=>#[bg,I.turned (t':=s.toks) (λb o c e=>Q b o c e) u y A B C]
 self:=λ_ _ _ _ _ st h=>tS st h
section
variable{X:Cx}{tg:Expr}
def aa(K:aL)(c:TE):TI:=λZ H R=>c Z H λx b=>∃a,x = .ref a/\(∃d,om K b a d)/\R (km K a) b
def gi(K:aL)(c:TE):TI:=λZ H R=>c Z H λx b=>∃a,x = .ref a/\(∃d,m7 K b a d)/\R (kn K a) b
def E3(f:PE X l tl):PI X tg l (aa X.K tl):=by
 intro Φ s Z H R I h;show i0 (f Φ s Z H _ I h) λv c g=>?_;let⟨x,i,d,j,k⟩:=g;obtain⟨a,e,⟨w,m⟩,q⟩:=k;subst e;cases j;let⟨n,y,p,A⟩:=d.list m;show tR p.isList ?_;show#[c.z,[c.z],_,_,i,bg,d.kept (t':=c.toks) λb o e=>aR _ e,Ry a _,#[_,bT _ rfl,bg,bg],λb u=>?_,q];have e:b=c.z:= ~~~u
 subst e;show d.fpOk (aY _) (d.hok.fresh (aY _))
def U4(g:PE X l tl):PI X tg l (gi X.K tl):=by
 intro Φ s Z H R I h;show i0 (g Φ s Z H _ I h) λv c i=>?_;let⟨x,j,d,k,m⟩:=i;obtain⟨a,e,⟨w,n⟩,q⟩:=m;subst e;cases k;let⟨f,y,p,A⟩:=d.tuple n;show yI (show c.heap.IsTuple a f.toArray from p) ?_;show#[c.z,[c.z],_,_,j,bg,d.kept (t':=c.toks) λb o e=>aR _ e,Lr a _,#[_,bT _ rfl,bg,bg],λb u=>?_,q];have e:b=c.z:= ~~~u
 subst e;show d.fpOk (aY _) (d.hok.fresh (aY _))
def Hi{Z:St}{s:aK}{lo hi:Int}{t u v:Tok}(I:Inv X Φ Z H s)(c:-(2 ^ 62)<=lo)(d:lo<2 ^ 62)(f:-(2 ^ 62)<=hi)(g:hi<2 ^ 62)
  (q:R (Cb lo (hi-lo).toNat) H):Δ X (pyIter (.ref s.z)) (i9 X Φ Z tg R) E {s with heap:=s.heap.push {cls:=.type "range",data:=.fields (LE [.int lo t,.int hi u,.int 1 v])},toks:=tk}:=by
 show LS (QY ..) (small_one c d f g) ?_;have a:Inv X Φ Z H {s with heap:=s.heap.push {cls:=.type "range",data:=.fields (LE [.int lo t,.int hi u,.int 1 v])},toks:=tk}:=I.kept λb o e=>aR _ e;show#[(s.heap.push {cls:=.type "range",data:=.fields (LE [.int lo t,.int hi u,.int 1 v])}).objs.size,[(s.heap.push {cls:=.type "range",data:=.fields (LE [.int lo t,.int hi u,.int 1 v])}).objs.size],_,_,H,bg,
  a.kept (t':=tk) λb o e=>aR _ e,YF _ lo (hi-lo).toNat,?_,λb h=>?_,q]
 ·have i:lo+((0:Nat):Int)*1=lo:=η
  have j:(((hi-lo).toNat:Nat):Int)-((0:Nat):Int)=fJ lo hi 1:=by rw[ZN];split <;> lia
  show IsRangeIter _ _ (lo+((0:Nat):Int)*1) ((((hi-lo).toNat:Nat):Int)-((0:Nat):Int)) 1;rw[i,j];show bT _ rfl
 ·have e:b=(s.heap.push {cls:=.type "range",data:=.fields (LE [.int lo t,.int hi u,.int 1 v])}).objs.size:= ~~~h
  subst e;show a.fpOk (aY _) (a.hok.fresh (aY _))
def ad(a:TA):TI:=λZ H R=>a Z H λb c=>∃j:Int,b=[.int j]/\-(2 ^ 62)<=j/\j<2 ^ 62/\R (Cb 0 j.toNat) c
def ae(a:TA):TI:=λZ H R=>a Z H λb c=>∃i j:Int,b=[.int i,.int j]/\(-(2 ^ 62)<=i/\i<2 ^ 62/\-(2 ^ 62)<=j/\j<2 ^ 62)/\R (Cb i (j-i).toNat) c
def Qw{p pos:Pos}(c:Gl X "range")(d:X.mg "range" = ξ)(f:PA X [a] ta)(g:starEach [a] X.env=[(χ,eval a X.env)]:=by rfl):PI X tg (.Call (.Name "range" p) [a] [] pos) (ad ta):=by
 intro Φ s Z H R I h;show Call_ (oA I c d KL (dE (i0 (f pos Φ s Z H _ I h) λo u i=>?_) g rfl));let⟨v,w,k,l,b⟩:=i;let⟨j,e,b,m,q⟩:=b;subst e;cases l with
 |cons r n=>
  cases n;let⟨t,rfl⟩:=r;show call_range_1 (Hi k ν ν b m (~~~q))
def Qx{a b:Expr}{f:TA}{p pos:Pos}(k:Gl X "range")(l:X.mg "range" = ξ)(m:PA X [a,b] f)(n:starEach [a,b] X.env=[(χ,eval a X.env),(χ,eval b X.env)]:=by rfl)(g:starEach [b] X.env=[(χ,eval b X.env)]:=by rfl):
  PI X tg (.Call (.Name "range" p) [a,b] [] pos) (ae f):=by
 intro Φ s Z H R I h;show Call_ (oA I k l KL (dE (i0 (m pos Φ s Z H _ I h) λA B ⟨C,D,o,u,c⟩=>?_) (by rw[n,g]) (by rw[g];rfl)));obtain⟨i,j,e,⟨c,v,w,y⟩,q⟩:=c;subst e;cases u with
 |cons r d=>
  cases d with
  |cons z d=>
   cases d;let⟨t,rfl⟩:=r;let⟨E,rfl⟩:=z;show call_range_2 (Hi o c v w y q)
def jg(d:TI)(g:TG)(e:TS):TS:=λD Z H=>d Z H λJ f=>∃W:Nat->Nat->St->Hp->Prop,(∃m,W 0 m Z f)/\∀i m Z H,W i m Z H ->
 (J.stop i H/\D.nx Z H)\/(J.go i H/\∃N:St->Hp->Prop,(∀b a,N b a->∃c,c<m/\W (i+1) c b a)/\∀x a,J.yld i H x a->g x Z a λh j=>e {D with nx:=N,ct:=N,bk:=D.nx} h j)
def Dg(a:θ Addr)(h:Heap):θ (Addr×Obj):=a.filterMap λb=>(h.get? b).map λo=>(b,o)
def uO(a:b∈fp)(e:h.get? b=ψ o):(b,o)∈Dg fp h:=oG.mpr #[b,a,by rw[e];rfl]
def Qq(a:p∈Dg fp h):p.1∈fp/\h.get? p.1=ψ p.2:=by
 let⟨b,c,e⟩:=oG.mp a;cases q:h.get? b with
 |none=>rw[q] at e;cases e
 |some o=>
  rw[q] at e;have d:(b,o)=p:=cW e;subst d;show#[c,q]
def Inv.pinned{Z:St}{s:aK}(I:Inv X Φ Z H s)(f:∀b∈fp,JR X Φ H b)(g:∀b∈fp,∃o,s.heap.get? b=ψ o/\∀v,o.data≠.cell v):Inv X (Φ++Dg fp s.heap) Z H s:=
 I.pins_of λp h=>(bQ.mp h).elim (λz=>I.pin p (cN _ z)) λz=>by
  let⟨a,e⟩:=Qq z;let⟨i,j,k,_⟩:=f p.1 a;let⟨o,c,d⟩:=g p.1 a;rw[e] at c;cases c;show#[e,i,j,k,d]
def Inv.unpinned{Z:St}{s:aK}(I:Inv X (Φ++pl) Z H s):Inv X Φ Z H s:=I.pins_of λp a=>I.pin p (cN _ (eY _ a))
def U5{pos:Pos}(B:PassesOwn (model X.prog X.w) X.A X.env X.xe)(Y:X.calm=ζ)(hi:PI X tg iter wi)(hg:PG X tg g)(a:ue X body tb)
  (hs:∀x,foldedSetIterable iter X.env x=pure x:=by intro _;rfl):PS X (.For tg iter body [] pos) (jg wi g tb):=by
 intro Φ s Z H D I h;show wpAny_For (i0 (hi Φ s Z H _ I h) λv s1 h1=>i0 h1 λmd s2 h2=>?_) hs;obtain⟨it,C,tn,J,H2,e,I2,T,yc,f2,W,⟨m0,w0⟩,E⟩:=h2;subst e;have c:∀{q:Hp},(∀b∈C,q b=ξ)->∀b∈C,JR X Φ q b:=λhn b a=>#[hn b a,(f2 b a).2];show codeAny_forLoop_any (λn s'=>∃i F q,Inv X Φ F q s'/\tn i s'.heap/\(∀b∈C,q b=ξ)/\W i n F q) ?_ m0 #[0,Z,H2,I2,yc,λb a=>(f2 b a).1,w0];rintro n s3 ⟨i,G,O,I3,K,L,w3⟩;rcases E i n G O w3 with⟨stop,qn⟩ | ⟨go,N,hN,step⟩
 ·show mW B (i0 (T.done X rfl rfl rfl Y i Φ s3 G O X.xe I3 (c L) K stop) λr s4 z=>?_);let⟨P,I4⟩:=z;subst P;show vZ #[G,O,I4,qn]
 ·show mW B (i0 (T.item X rfl rfl rfl Y i Φ s3 G O X.xe I3 (c L) K go) λr s4 z=>?_);let⟨u,P,h4⟩:=z;subst P;show mW B (i0 h4 λ_ s5 z=>?_);let⟨x,H5,I5,r5,y5,Q,R⟩:=z;have U:=I5.pinned (c R) (T.obj _ _ Q);show mW B (i0 (hg _ s5 G H5 x u _ U r5 (step x H5 y5)) λ_ s6 z=>?_);let⟨Z6,H6,I6,q6⟩:=z;show mW B (i0 (a _ s6 Z6 H6 _ I6 q6) λf V y=>?_);have again:∀{j:St}{k:Hp},Inv X (Φ++Dg C s5.heap) j k V->N j k->∃m,m<n/\∃i F q,Inv X Φ F q V/\tn i V.heap/\(∀b∈C,q b=ξ)/\W i m F q:=λ{j k} l M=>by
   let⟨m',hm,w7⟩:=hN j k M;show#[m',hm,i+1,j,k,l.unpinned,T.keep _ _ _ Q λb a o e=>(l.pin (b,o) (cN _ (cN _ (uO a e)))).1,λb a=>?_,w7];let⟨o,e,d⟩:=T.obj _ _ Q b a;show(l.pin (b,o) (cN _ (cN _ (uO a e)))).2.1
  cases f with
  |next=>let⟨j,k,l,M⟩:=y;show again l M
  |cont=>let⟨j,k,l,M⟩:=y;show again l M
  |brk=>let⟨j,k,l,y⟩:=y;show#[j,k,l.unpinned,y]
  |ret v=>let⟨x7,j,k,l,r7,y⟩:=y;show#[x7,j,k,l.unpinned,r7,y]
end
abbrev R2:=V->V->Hp->VK->Prop
def sr(X:Cx)(f:aF->aF->Sem aF)(r:R2):Prop:=
 ∀(Φ:θ (Addr×Obj))(s:aK)(Z:St)(H:Hp)(x y:V)(v u:aF)(Q:VK),Inv X Φ Z H s->RelV x v->RelV y u->r x y H Q ->
  Δ X (f v u) (EP X Φ Z Q) X.xe s
def h6(X:Cx)(f:aF->Sem aF)(r:V->Hp->VK->Prop):Prop:=
 ∀(Φ:θ (Addr×Obj))(s:aK)(Z:St)(H:Hp)(x:V)(v:aF)(Q:VK),Inv X Φ Z H s->RelV x v->r x H Q ->
  Δ X (f v) (EP X Φ Z Q) X.xe s
def yO(X:Cx)(f:aF)(r:θ V->Hp->VK->Prop):Prop:=
 ∀(Φ:θ (Addr×Obj))(s:aK)(Z:St)(H:Hp)(a:θ V)(b:θ aF)(Q:VK),Inv X Φ Z H s->c9 a b->r a H Q ->
  Δ X (call f b) (EP X Φ Z Q) X.xe s
def gq(r:R2)(a b:TE):TE:=λZ H Q=>a Z H λx c=>b Z c λy d=>r x y d Q
def ED(r:V->Hp->VK->Prop)(a:TE):TE:=λZ H Q=>a Z H λx b=>r x b Q
def rI(C:Int->Int->Prop)(g:Int->Int->V):R2:=λx y H Q=>∃i j,x = .int i/\y = .int j/\C i j/\Q (g i j) H
def eH(g:Int->Int->V):R2:=λx y H Q=>∃i j,x = .int i/\y = .int j/\Q (g i j) H
def rU(g:Int->V):V->Hp->VK->Prop:=λx H Q=>∃i,x = .int i/\Q (g i) H
section
variable{a b c:Expr}{pos:Pos}
def N9(e:PE X a ta)(g:PE X b tb){s:aK}{Z:St}{R:V->V->Hp->Prop}(I:Inv X Φ Z H s)
  (h:ta Z H λx H1=>tb Z H1 λy H2=>R x y H2) {Q:aF->aK->Prop} {f:aF->aF->Sem aF}
  (i:∀v u s2 x y H2,Inv X Φ Z H2 s2->RelV x v->RelV y u->R x y H2->Δ X (f v u) Q X.xe s2):
  Δ X (eval a X.env) (λv s₁=>Δ X (eval b X.env) (λu s₂=>Δ X (f v u) Q X.xe s₂) X.xe s₁) X.xe s:=by
 show i0 (e Φ s Z H _ I h) λv j d=>?_;let⟨x,H1,k,l,m⟩:=d;show i0 (g Φ j Z H1 _ k m) λu s2 d=>?_;let⟨y,H2,n,o,q⟩:=d;show i v u s2 x y H2 n l o q
def az(d:sr X (binaryOp op) r)(e:PE X a ta)(f:PE X b tb):PE X (.BinOp a op b pos) (gq r ta tb):=by
 intro Φ s Z H Q I h;show wpAny_BinOp (N9 e f I h λv u g x y i j k l q=>d Φ g Z i x y v u Q j k l q)
def bi(d:h6 X (unaryOp op) r)(e:PE X a ta):PE X (.UnaryOp op a pos) (ED r ta):=by
 intro Φ s Z H Q I h;show UnaryOp_ (i0 (e Φ s Z H _ I h) λv f ⟨x,g,i,j,k⟩=>d Φ f Z g x v Q i j k)
def et{f:aF->aF->Sem aF}{g:Int->Int->Int}
  (rule:∀(i j:Int)(t u:Tok)(s:aK)(Q:aF->aK->Prop)(E:aF->aK->Prop),C i j->Q (.int (g i j) s.toks) {s with toks:=s.toks+1}->Δ X (f (.int i t) (.int j u)) Q E s):
  sr X f (rI C λi j=>.int (g i j)):=by
 intro Φ s Z H x y v u Q I d e h;let⟨i,j,rfl,rfl,k,q⟩:=h;let⟨t,rfl⟩:=d;let⟨l,rfl⟩:=e;show rule i j t l s _ _ k #[.int (g i j),H,I.tok _,#[_,bg],q]
def C6{f:aF->aF->Sem aF}{g:Int->Int->Bool}
  (rule:∀(i j:Int)(t u:Tok)(s:aK)(Q:aF->aK->Prop)(E:aF->aK->Prop),Q (.bool (g i j)) s->Δ X (f (.int i t) (.int j u)) Q E s):
  sr X f (eH λi j=>.bl (g i j)):=by
 intro Φ s Z H x y v u Q I d e h;let⟨i,j,rfl,rfl,q⟩:=h;let⟨t,rfl⟩:=d;let⟨k,rfl⟩:=e;show rule i j t k s _ _ #[.bl (g i j),H,I,bg,q]
def G'{f:aF->Sem aF}{g:Int->Int}
  (rule:∀(i:Int)(t:Tok)(s:aK)(Q:aF->aK->Prop)(E:aF->aK->Prop),Q (.int (g i) s.toks) {s with toks:=s.toks+1}->Δ X (f (.int i t)) Q E s):
  h6 X f (rU λi=>.int (g i)):=by
 intro Φ s Z H x v Q I d h;let⟨i,rfl,q⟩:=h;let⟨t,rfl⟩:=d;show rule i t s _ _ #[.int (g i),H,I.tok _,#[_,bg],q]
def Y1:h6 X (unaryOp .USub) (rU λi=>.int (-i)):=G' λ_ _ _ _ _ q=>neg_int q
end
def df:V->V->Bool
 | .non,.non=>ζ | .non,.int _=>ζ | .int _,.non=>ζ | .non,.bl _=>ζ | .bl _,.non=>ζ | .non,.str _=>ζ | .str _,.non=>ζ
 | .int _,.int _=>ζ | .bl _,.bl _=>ζ | .str _,.str _=>ζ | .byt _,.byt _=>ζ
 | .int _,.str _=>ζ | .str _,.int _=>ζ | .bl _,.str _=>ζ | .str _,.bl _=>ζ
 |_,_=>χ
def zI:R2:=λx y H Q=>df x y=ζ/\Q (.bl (decide (x=y))) H
def z6:R2:=λx y H Q=>df x y=ζ/\Q (.bl (!decide (x=y))) H
def Mx:decide (V.int i=V.int j)=(i == j):=by
 rw[rO];simp
def Ui:decide (V.bl i=V.bl j)=(i == j):=by
 rw[rO];simp
def My:decide (V.str i=V.str j)=(i == j):=by
 rw[rO];simp
def Mw:decide (V.byt i=V.byt j)=(i.toList == j.toList):=by
 rw[rO];cases i;cases j;simp
section
variable{a b c:Expr}{pos:Pos}
def jA{Z:St}{s:aK}(I:Inv X Φ Z H s)(q:Q (.bl k) H)(e:k=k'):EP X Φ Z Q (.bool k') s:=by
 subst e;show#[.bl k,H,I,bg,q]
def L4:sr X (compareOp .Eq) zI:=by
 intro Φ s Z H x y v u Q I g d h;let⟨f,q⟩:=h;cases x with
 |non=>
  cases g;cases y with
  |non=>cases d;show PySem.EqNone.eq_none_none (jA I q η)
  |bl j=>cases d;show PySem.EqNone.eq_none_bool (jA I q η)
  |int j=>let⟨e,rfl⟩:=d;show PySem.EqNone.eq_none_int (jA I q η)
  |str j=>let⟨e,rfl⟩:=d;show PySem.EqNone.eq_none_str (jA I q η)
  |_=>show Ω (show χ=ζ from f) cL
 |bl i=>
  cases g;cases y with
  |non=>cases d;show PySem.EqNone.eq_bool_none (jA I q η)
  |bl j=>cases d;show eq_bool (jA I q Ui)
  |str j=>let⟨e,rfl⟩:=d;show PySem.EqMixed.eq_bool_str (jA I q η)
  |_=>show Ω (show χ=ζ from f) cL
 |int i=>
  let⟨t,rfl⟩:=g;cases y with
  |non=>cases d;show PySem.EqNone.eq_int_none (jA I q η)
  |int j=>let⟨e,rfl⟩:=d;show eq_int (jA I q Mx)
  |str j=>let⟨e,rfl⟩:=d;show PySem.EqMixed.eq_int_str (jA I q η)
  |_=>show Ω (show χ=ζ from f) cL
 |str i=>
  let⟨t,rfl⟩:=g;cases y with
  |non=>cases d;show PySem.EqNone.eq_str_none (jA I q η)
  |bl j=>cases d;show PySem.EqMixed.eq_str_bool (jA I q η)
  |int j=>let⟨e,rfl⟩:=d;show PySem.EqMixed.eq_str_int (jA I q η)
  |str j=>let⟨e,rfl⟩:=d;show eq_str (jA I q My)
  |_=>show Ω (show χ=ζ from f) cL
 |byt i=>
  let⟨t,rfl⟩:=g;cases y with
  |byt j=>let⟨e,rfl⟩:=d;show PySem.W.eq_bytes (jA I q Mw)
  |_=>show Ω (show χ=ζ from f) cL
 |_=>cases y <;> show Ω (show χ=ζ from f) cL
def L9:sr X (compareOp .NotEq) z6:=by
 intro Φ s Z H x y v u Q I g d h;let⟨f,q⟩:=h;cases x with
 |non=>
  cases g;cases y with
  |non=>cases d;show PySem.EqNone.ne_none_none (jA I q η)
  |bl j=>cases d;show PySem.EqNone.ne_none_bool (jA I q η)
  |int j=>let⟨e,rfl⟩:=d;show PySem.EqNone.ne_none_int (jA I q η)
  |str j=>let⟨e,rfl⟩:=d;show PySem.EqNone.ne_none_str (jA I q η)
  |_=>show Ω (show χ=ζ from f) cL
 |bl i=>
  cases g;cases y with
  |non=>cases d;show PySem.EqNone.ne_bool_none (jA I q η)
  |bl j=>cases d;show ne_bool (jA I q (Ψ not Ui))
  |str j=>let⟨e,rfl⟩:=d;show PySem.EqMixed.ne_bool_str (jA I q η)
  |_=>show Ω (show χ=ζ from f) cL
 |int i=>
  let⟨t,rfl⟩:=g;cases y with
  |non=>cases d;show PySem.EqNone.ne_int_none (jA I q η)
  |int j=>let⟨e,rfl⟩:=d;show ne_int (jA I q (Ψ not Mx))
  |str j=>let⟨e,rfl⟩:=d;show PySem.EqMixed.ne_int_str (jA I q η)
  |_=>show Ω (show χ=ζ from f) cL
 |str i=>
  let⟨t,rfl⟩:=g;cases y with
  |non=>cases d;show PySem.EqNone.ne_str_none (jA I q η)
  |bl j=>cases d;show PySem.EqMixed.ne_str_bool (jA I q η)
  |int j=>let⟨e,rfl⟩:=d;show PySem.EqMixed.ne_str_int (jA I q η)
  |str j=>let⟨e,rfl⟩:=d;show ne_str (jA I q (Ψ not My))
  |_=>show Ω (show χ=ζ from f) cL
 |byt i=>
  let⟨t,rfl⟩:=g;cases y with
  |byt j=>let⟨e,rfl⟩:=d;show PySem.W.ne_bytes (jA I q (Ψ not Mw))
  |_=>show Ω (show χ=ζ from f) cL
 |_=>cases y <;> show Ω (show χ=ζ from f) cL
def L8:sr X (compareOp .Lt) (eH λi j=>.bl (decide (i<j))):=C6 λ_ _ _ _ _ _ _ q=>lt_int q
def L7:sr X (compareOp .LtE) (eH λi j=>.bl (decide (i<=j))):=C6 λ_ _ _ _ _ _ _ q=>le_int q
def L6:sr X (compareOp .Gt) (eH λi j=>.bl (decide (j<i))):=C6 λ_ _ _ _ _ _ _ q=>gt_int q
def L5:sr X (compareOp .GtE) (eH λi j=>.bl (decide (j<=i))):=C6 λ_ _ _ _ _ _ _ q=>ge_int q
def T0:sr X (compareOp .Is) (λx y H Q=>y = .non/\Q (.bl (decide (x = .non))) H):=by
 intro Φ s Z H x y v u Q I d e h;let⟨rfl,q⟩:=h;cases e;show is_none_gen (jA I q ?_);cases x <;> first
  | (cases d;rfl)
  | (let⟨t,rfl⟩:=d;rfl)
def D5:sr X (compareOp .IsNot) (λx y H Q=>y = .non/\Q (.bl (!decide (x = .non))) H):=by
 intro Φ s Z H x y v u Q I d e h;let⟨rfl,q⟩:=h;cases e;show isnot_none_gen (jA I q ?_);cases x <;> first
  | (cases d;rfl)
  | (let⟨t,rfl⟩:=d;rfl)
def Vz(b:Expr)(h:op≠.In:=by decide)(d:op≠.NotIn:=by decide):behindInMarks op b=χ:=by
 have e:(op == CmpOp.In)=χ:=by cases op <;> first |rfl |show Ω rfl h
 have f:(op == CmpOp.NotIn)=χ:=by cases op <;> first |rfl |show Ω rfl d
 cases b <;> simp[behindInMarks,e,f]
def D9(d:sr X (compareOp op) r)(e:PE X a ta)(f:PE X b tb)(g:behindInMarks op b=χ):PE X (.Compare a [op] [b] pos) (gq r ta tb):=by
 intro Φ s Z H Q I h;show wpAny_Compare1 (N9 e f I h λv u i x y j k l m q=>d Φ i Z j x y v u Q k l m q) g
def fg(t:TE):TT:=λZ H Q=>t Z H λx d=>∃k,x = .bl k/\Q k d
def E8(d:sr X (compareOp op) r)(f:PE X a ta)(g:PE X b tb)(i:behindInMarks op b=χ):PT X (.Compare a [op] [b] pos) (fg (gq r ta tb)):=by
 intro Φ s Z H Q I h;show wpAny_isTrue_Compare1 (i0 (f Φ s Z H _ I h) λv j ⟨x,l,m,n,o⟩=>i0 (g Φ j Z l _ m o) λu q ⟨y,w,A,B,C⟩=>
  i0 (d Φ q Z w x y v u _ A n B C) λc J ⟨z,D,E,F,k,e,G⟩=>?_) i
 subst e;cases F;show pV #[D,E,G]
def WT:(sizeLine:Nat)<2 ^ 63:=by rw[gX];decide
def vals1(r:c9 [x] us):∃u,us=[u]/\RelV x u:=by
 cases r with
 |cons d e=>cases e;show#[_,bg,d]
def vals2(r:c9 [x,y] us):∃u w',us=[u,w']/\RelV x u/\RelV y w':=by
 cases r with
 |cons d e=>
  cases e with
  |cons f g=>cases g;show#[_,_,bg,d,f]
def Sw:yO X (.builtin "abs") (λxs H Q=>∃i,xs=[.int i]/\Q (.int (if i<0 then -i else i)) H):=by
 intro Φ s Z H xs d Q I r h;let⟨i,rfl,q⟩:=h;let⟨u,rfl,t,rfl⟩:=vals1 r;show call_abs_int λu e=>#[.int (if i<0 then -i else i),H,I.tok _,#[_,bg],q]
def Pf(e:X.calm=ζ):yO X (.builtin "max") (λxs H Q=>∃i j,xs=[.int i,.int j]/\Q (.int (if j > i then j else i)) H):=by
 intro Φ s Z H xs f Q I r h;let⟨i,j,rfl,q⟩:=h;obtain⟨u,g,rfl,⟨t,rfl⟩,⟨l,rfl⟩⟩:=vals2 r;show max_two_ints (I.ok.hd e) λm n k=>#[_,H,I.kept k,?_,q];by_cases d:j > i
 ·rw[υ d,υ d];show#[_,bg]
 ·rw[ω d,ω d];show#[_,bg]
def Ph(e:X.calm=ζ):yO X (.builtin "min") (λxs H Q=>∃i j,xs=[.int i,.int j]/\Q (.int (if j<i then j else i)) H):=by
 intro Φ s Z H xs f Q I r h;let⟨i,j,rfl,q⟩:=h;obtain⟨u,g,rfl,⟨t,rfl⟩,⟨l,rfl⟩⟩:=vals2 r;show min_two_ints (I.ok.hd e) λm n k=>#[_,H,I.kept k,?_,q];by_cases d:j<i
 ·rw[υ d,υ d];show#[_,bg]
 ·rw[ω d,ω d];show#[_,bg]
def Ae:yO X (.type "int") (λxs H Q=>(∃i,xs=[.int i]/\Q (.int i) H)\/∃k,xs=[.bl k]/\Q (.int (if k then 1 else 0)) H):=by
 intro Φ s Z H xs e Q I r h;rcases h with⟨i,rfl,q⟩ | ⟨k,rfl,q⟩
 ·let⟨u,rfl,t,rfl⟩:=vals1 r;show call_int_int #[.int i,H,I,#[_,bg],q]
 ·let⟨u,rfl,d⟩:=vals1 r;cases d;show call_int_bool #[.int (if k then 1 else 0),H,I.tok _,#[_,bg],q]
end
structure D_(h:Heap)(x dx C:Addr)(mA:Str->Option aF):Prop where
 obj:h.get? x=ψ (DL C dx)
 ns:h.Ns1 dx mA
 ne:dx≠x
def Qm{h:Heap}{c:Addr}{d:Str->Option aF}(n:h.Ns1 c d):∃od,h.get? c=ψ od/\∀name,FC name od=ψ (d name):=by
 let⟨o,f,s,g,i,j,_,k⟩:=n;show#[o,g,λname=>?_];have e:=k name;unfold nsFind findBy at e;rw[<-Array.find?_toList] at e;unfold FC;rw[i];fail;split
 ·rename_i y q;rw[q] at e;show Ψ ψ e
 ·rename_i q;rw[q] at e;have a:f.toList.any (·.refKey)=χ:=by
   rw[MB];intro y l;let⟨z,t,b⟩:=j y (pW.mp l);simp[DictEntry.refKey,b]
  have m:¬f.toList.any (·.refKey)=ζ:=by rw[a];show cL
  rw[ω m];show Ψ ψ e
def D_.look(I:D_ h x dx C mA):∃od,PySem.W.InstAt h x (DL C dx) C (ψ od)/\∀name,FC name od=ψ (mA name):=
 let ⟨od,ho,hl⟩:=Qm I.ns
 #[od,#[I.obj,bg,bg,ho],hl]
def ss.some_of(r:ss (ψ v) o):∃u,o=ψ u/\RelV v u:=by
 cases o with
 |none=>show(show False from r).elim
 |some u=>show#[u,bg,r]
section
variable{fs sn:θ (Str×V)}
def Zz(b:qb P w H h)(e:H a=ψ (.ins C dx fs)):∃mA,D_ h a dx C mA/\(∀f,ss (fs.lookup f) (mA f))/\PySem.Within mA (fs.map (·.1))/\fs.length<=1000/\H dx=ψ (.own a):=by
 let⟨d,z,c,g,mA,n,r,q⟩:=(show g9 P w H h a (.ins C dx fs) from b a _ e);show#[mA,#[g,n,c],r,q,z,d]
end
structure i5(K:aL)(C:Addr):Prop where
 pg:PF K C Str.empty=ζ
 hd:PySem.W.hasDictIn K C=ζ
 po:PySem.W.plainOver K C=ζ
 sa:FB K (.ref C) "__setattr__" = ψ (ψ (.builtin "object.__setattr__"))
def i5.get{K:aL}{C:Addr}(c:i5 K C)(f:Str):PF K C f=ζ:=c.pg
section
variable{σ:St}{H:Hp}{s:aK}{c:aF}
inductive q8(K:aL)(H:Hp):V->aF->Prop where
 |non:q8 K H .non (.type "NoneType")
 |bl (x:Bool):q8 K H (.bl x) (.type "bool")
 |int (i:Int):q8 K H (.int i) (.type "int")
 |str (x:Str):q8 K H (.str x) (.type "str")
 |flt (x:UInt64):q8 K H (.flt x) (.type "float")
 |lst {a:Addr} {xs:List V} (e:H a=ψ (.lst xs)):q8 K H (.ref a) (.type "list")
 |frz {a:Addr} {o:Obj} {xs:List V} (e:H a=ψ (.frz o (.lst xs))):q8 K H (.ref a) (.type "list")
 |tup {a:Addr} {xs:List V} (e:H a=ψ (.tup xs)):q8 K H (.ref a) (.type "tuple")
 |dK {a:Addr} {kvs:List (jl×V)} (e:H a=ψ (.dK kvs)):q8 K H (.ref a) (.type "dict")
 |dT {a:Addr} {kvs:List (List jl×V)} (e:H a=ψ (.dT kvs)):q8 K H (.ref a) (.type "dict")
 |ins {a C dx:Addr} {fs:List (Str×V)} (e:H a=ψ (.ins C dx fs)) (cl:i5 K C) (ha:FB K (.ref C) "__class__" = ψ (ψ (.builtin "object.__class__")))
   (hn:PySem.W.specialIn K (.builtin "object.__class__") "__get__" = ψ (ψ (.builtin "getset_descriptor.__get__"))) (htk:PySem.W.takesIn K (.builtin "object.__class__")=ψ ζ)
   (hm:PySem.W.mroIn K C (.type "object")=ψ ζ):q8 K H (.ref a) (.ref C)
def Qd{u t:aF}(I:Inv X Φ σ H s)(d:RelV x u)(B:q8 X.K H x t)(e:mJ X.K t c=ψ b)(h:∀tk,Q (.bool b) {s with toks:=tk}):
  wpAny (model X.prog X.w) A (call (.builtin "isinstance") [u,c]) Q E s:=by
 cases B with
 |non=>cases (show u=eU from d);show gP PySem.W.kitx_none I.kIn oJ e (λz=>nomatch z) h
 |bl y=>cases (show u=CK y from d);show gP PySem.W.kitx_bool I.kIn oJ e (λz=>nomatch z) h
 |int i=>let⟨t,q⟩:=(show ∃t,u=AV i t from d);cases q;show gP PySem.W.kitx_int I.kIn oJ e (λz=>nomatch z) h
 |str y=>let⟨t,q⟩:=(show ∃t,u=PH y t from d);cases q;show gP PySem.W.kitx_str I.kIn oJ e (λz=>nomatch z) h
 |flt y=>let⟨t,q⟩:=(show ∃t,u=Value.float y t from d);cases q;show gP PySem.W.kitx_float I.kIn oJ e (λz=>nomatch z) h
 | @lst a k f=>
  cases (show u=eO a from d);let⟨_,_,n,_,g⟩:=(show g9 X.prog X.w H s.heap a (.lst k) from I.hok a _ f);show gP yQ I.kIn #[_,g,bg] e (λz=>nomatch z) h
 | @frz a D k f=>
  cases (show u=eO a from d);let⟨_,_,_,n,_,g⟩:=(show g9 X.prog X.w H s.heap a (.frz D (.lst k)) from I.hok a _ f);show gP yQ I.kIn #[_,g,bg] e (λz=>nomatch z) h
 | @tup a k f=>
  cases (show u=eO a from d);let⟨_,_,_,p⟩:=(show g9 X.prog X.w H s.heap a (.tup k) from I.hok a _ f);let⟨o,g,l,_⟩:=p;show gP PySem.W.kitx_tuple I.kIn #[o,g,l] e (λz=>nomatch z) h
 | @dK a j f=>
  cases (show u=eO a from d);let⟨_,_,P,_,p⟩:=(show g9 X.prog X.w H s.heap a (.dK j) from I.hok a _ f);let⟨o,F,G,g,l,_⟩:=p;show gP MN I.kIn #[o,g,l.1] e (λz=>nomatch z) h
 | @dT a j f=>
  cases (show u=eO a from d);let⟨_,_,k,_,o,F,G,g,l,_⟩:=(show g9 X.prog X.w H s.heap a (.dT j) from I.hok a _ f);show gP MN I.kIn #[o,g,l.1] e (λz=>nomatch z) h
 | @ins a C R fs f v L M m N=>
  cases (show u=eO a from d);let⟨T,O,_⟩:=Zz I.hok f;let⟨U,J,_⟩:=O.look;show gP (PySem.W.kitx_own (v.get _) v.hd L M m N) I.kIn J e (λz=>nomatch z) h
end
structure g_(k:Nat)(A:dG):Prop where
 hd:A.handled=ξ
 dp:A.depth+3*k+5<recursionLimit
 un:A.units+16*k+200<cLine
def g_.mono(r:g_ k A)(h:j<=k:=by decide):g_ j A:=#[r.hd,by have:=r.dp;lia,by have:=r.un;lia]
def g_.deeper(r:g_ (k+1) A)(env:Env):g_ k (A.deeper env):=
 #[r.hd,by have:=r.dp;show A.depth+1+3*k+5<_;lia,by have:=r.un;show A.units+3+16*k+200<_;lia]
def g_.in1(r:g_ (k+1) A):g_ k A.in1:=
 #[r.hd,by have:=r.dp;show A.depth+3*k+5<_;lia,by have:=r.un;show A.units+1+16*k+200<_;lia]
def g_.depth(r:g_ k A):A.depth<recursionLimit:=by have:=r.dp;lia
def g_.units(r:g_ k A):A.units+64<cLine:=by have:=r.un;lia
def jj:TA:=λ_ H Q=>Q [] H
def du(a:TE)(b:TA):TA:=λZ H Q=>a Z H λx c=>b Z c λd e=>Q (x::d) e
section
variable{t:TA}{pos:Pos}
def QG:PA X [] jj:=λ_ _ _ _ H Q I h=>sP #[[],H,I,.nil,h]
def yW(a:PE X e te)(b:PA X es t)(c:starEach (e::es) X.env=(χ,eval e X.env)::starEach es X.env:=by rfl):PA X (e::es) (du te t):=by
 intro pos Φ s Z H Q I h;rw[c];show wpAny _ _ (spliced ((χ,eval e X.env)::backTo pos (starEach es X.env))) _ _ s;show rY (i0 (a Φ s Z H _ I h) λu d f=>?_);let⟨x,g,i,j,k⟩:=f;show i0 (b pos Φ d Z g _ i k) λv w ⟨l,m,n,o,q⟩=>#[x::l,m,n,.cons j o,q]
def js(t:TA):TE:=λZ H Q=>t Z H λa b=>a.length<=sizeLine/\∀p,b p=ξ->Q (.ref p) (f_ b p (.tup a))
def ji(t:TA):TE:=λZ H Q=>t Z H λa b=>a.length<=sizeLine/\∀p,b p=ξ->Q (.ref p) (f_ b p (.lst a))
def U0{x1}(h:PA X es t):PE X (.Tuple es x1 pos) (js t):=by
 intro Φ s Z H Q I f;show wpAny_Tuple_spliced (i0 (h pos Φ s Z H _ I f) λg a ⟨i,c,d,r,z,q⟩=>#[by rw[<-r.length];show z,?_]);have j:c a.z=ξ:=d.hok.fresh (aY _);show#[.ref a.z,f_ c a.z (.tup i),d.laid (t':=a.toks) (λb u e=>aR _ e) (aY _) ?_,bg,q _ j];show#[z,g,r,#[_,bT _ rfl,bg,_,bg]]
def Wq(h:PA X es t):PE X (.List es pos) (ji t):=by
 intro Φ s Z H Q I f;show wpAny_List_spliced (i0 (h pos Φ s Z H _ I f) λg a ⟨i,c,d,r,z,q⟩=>#[by rw[<-r.length];show z,?_]);have j:c a.z=ξ:=d.hok.fresh (aY _);show#[.ref a.z,f_ c a.z (.lst i),d.laid (t':=a.toks) (λb u e=>aR _ e) (aY _) ?_,bg,q _ j];show#[z,g,0,r,bT _ rfl]
end
abbrev Sp:=θ V->Hp->VK->XK->Prop
abbrev B_:=θ Env->Hp->aK->XK->aF->aK->Prop
structure ye(P:cB)(w:dD)(K:aL)(mg:Str->Option aF)(base:Heap)(A:dG)(outer:List Env)(s:aK)(H:Hp):Prop where
 frames:A.frames=ψ outer
 mod:Mod K mg base
 bs:∀b o,base.get? b=ψ o->s.heap.get? b=ψ o/\H b=ξ
 bsz:base.objs.size<=s.z
 funs:s.heap.FunFrames base outer
 frf:∀b∈we outer,H b=ξ
 hok:qb P w H s.heap
 bare:AllBare s.gens
def CE(outer:θ Env)(P:cB)(w:dD)(H:Hp)(s:aK)(Q:VK)(u:aF)(a:aK):Prop:=
 ∃v b,a.os=s.os/\AllBare a.gens/\Un (we outer) [] H b s.heap a.heap/\qb P w b a.heap/\RelV v u/\Q v b
def CR(b:B_)(outer:θ Env)(P:cB)(w:dD)(H:Hp)(s:aK)(Q:VK)(E:XK)(r:Result)(a:aK):Prop:=
 match r with
 | .ok (.ret u)=>CE outer P w H s Q u a
 | .ok _=>False
 | .error e=>b outer H s E e a
structure qa(P:cB)(w:dD)(K:aL)(mg:Str->Option aF)(base:Heap)(CX:B_)(k:Nat)(f:Addr)(fd:mB)(ps:List Str)(sp:Sp):Prop where
 len:∀vs H Q E,sp vs H Q E->vs.length=ps.length
 run:∀(A:dG)(outer:θ Env)(s:aK)(H:Hp)(args:Args)(us:θ aF)(vs:θ V)(Q:VK)(E:XK),g_ k A->ye P w K mg base A outer s H->BindsTo s fd args (ps.zip us)->c9 vs us->sp vs H Q E ->
  codeAny (model P w) A (.call (.ref f) args) (CR CX outer P w H s Q E) s
section
variable{σ:St}{s s':aK}
def Inv.env0(I:Inv X Φ σ H s):ye X.prog X.w X.K X.mg X.base X.A X.stack s H:=
 #[I.ok.frames,I.ok.mod,I.bs,dY I.ok.bsz I.sz,I.stack,I.stkFree,I.hok,I.bare]
def Inv.after(I:Inv X Φ σ H s)(h:CE X.stack X.prog X.w H s Q u s'):EP X Φ σ Q u s':=by
 let⟨v,f,os,a,un,c,r,q⟩:=h;let⟨i,g,d,t,e⟩:=s';obtain rfl:e=s.os:=os;show#[v,f,I.call (h':=i) (g':=g) (d':=d) (t':=t) (ch:=[]) un c a (λb z=>Ω z η),r,q]
end
def dm(a:Sp)(b:θ V)(E:XK)(t:TA):TE:=λZ H Q=>t Z H λc d=>a (c++b) d Q E
def Binds(K:aL)(d:mB)(b:θ Str)(c:θ aF):Prop:=
 ∀(s:aK)(a:θ aF),K.In s.heap->(a++c).length=b.length->BindsTo s d #[a,[]] (b.zip (a++c))
def Binds.all{K:aL}{b:mB}{a:θ Str}(h:∀us:θ aF,us.length=a.length->bindArgs b ⟨us,[]⟩=pure (a.zip us)):Binds K b a []:=λs us _ c=>by
 rw[cQ] at c⊢;show .of_eq (h us c)
def Jb(b:B_)(X:Cx)(E:XK):Prop:=∀(Φ:θ (Addr×Obj))(Z:St)(H:Hp)(s:aK)(e:aF)(a:aK),Inv X Φ Z H s->b X.stack H s E e a->X.xe e a
section
variable{f C:Addr}{sp:Sp}{p pos apos:Pos}{t:TA}
def W6{Z:St}{s:aK}(F:qa X.prog X.w X.K X.mg X.base CX k f fd ps sp)(c:g_ k X.A)(d:Binds X.K fd ps ds)(g:c9 HE ds)(i:Jb CX X E)
  (I:Inv X Φ Z H s) (r:c9 vs us) (h:sp (vs++HE) H Q E):Δ X (call (.ref f) us) (EP X Φ Z Q) X.xe s:=by
 have b:c9 (vs++HE) (us++ds):=r.append g;have j:(us++ds).length=ps.length:=by rw[<-b.length];show F.len _ _ _ _ h
 show LR (oM (F.run X.A X.stack s H #[us,[]] (us++ds) (vs++HE) Q E c I.env0 (d s us I.kIn j) b h) λr l a=>?_);cases r with
 |error e=>show i Φ Z H s e l I a
 |ok m=>
  cases m with
  |ret u=>show I.after a
  |next=>show nM a
  |brk=>show nM a
  |cont=>show nM a
def D8(F:qa X.prog X.w X.K X.mg X.base CX k f fd ps sp)(b:g_ k X.A)(c:Gl X x)(d:X.mg x=ψ (.ref f))(g:mI X.K (.ref f)=ζ)(i:Binds X.K fd ps ds)(j:c9 HE ds)(l:Jb CX X E)
  (m:PA X (e::es) t) (n:(x == ("__debug__":Str))=χ:=by decide) (o:starEach (e::es) X.env=(χ,eval e X.env)::starEach es X.env:=by rfl) (u:(backTo pos (starEach es X.env)).any (·.1)=χ:=by rfl):
  PE X (.Call (.Name x p) (e::es) [] pos) (dm sp HE E t):=by
 intro Φ s Z H Q I h;show fF (A8 I c d ?_ n);show PySem.W.callWith_K (h₀:=X.base) I.ok.mod.kin g (i0 (m pos Φ s Z H _ I h) λv y ⟨z,B,a,r,q⟩=>#[a.kIn,?_]) o u;show W6 F b i j l a r q
structure Mk(K:aL)(C f:Addr):Prop where
 makes:PySem.W.makesIn K C=ζ
 init:FB K (.ref C) "__init__" = ψ (ψ (.ref f))
 fn:PySem.W.isFn K (.ref f)=ζ
 kp:mI K (.ref C)=ζ
end
structure m6(N P:List Str)(sc:Scope):Prop where
 kind:sc.kind = .function
 co:sc.isCoroutine=χ
 gen:sc.isGenerator=χ
 nd:N.Nodup
 pre:N.take P.length=P
 par:∀x∈P,sc.names.lookup x=ψ .local\/sc.names.lookup x=ψ .cell
 nofree:∀y∈sc.names,y.2≠.free
theorem Ac{kindOf:Str->Option NameKind}{x:Str}:∀{binds:θ (Str×aF)}{m:Str->Option aF},(∀v,(x,v)∉binds)->bindL kindOf binds m x=m x
 | [],_,_=>rfl
 | (n,v)::r,m,h=>by
  unfold bindL;rw[Ac λw a=>h w (cR _ a)];split
  ·have:x≠n:=(by rintro rfl;show h v dL);simp[this]
  ·rfl
theorem Aa{kindOf:Str->Option NameKind}{x:Str}:∀{binds:θ (Str×aF)}{m:Str->Option aF},(∀v,(x,v)∉binds)->bindC kindOf binds m x=m x
 | [],_,_=>rfl
 | (n,v)::r,m,h=>by
  unfold bindC;rw[Aa λw a=>h w (cR _ a)];split
  ·rfl
  ·have:x≠n:=(by rintro rfl;show h v dL);simp[this]
theorem Ab{kindOf:Str->Option NameKind}{x:Str}{v:aF}:∀{P:θ Str}{vs:θ aF}{i:Nat}{m:Str->Option aF},P.Nodup->P[i]?=ψ x->vs[i]?=ψ v->kindOf x=ψ .local ->
  bindL kindOf (P.zip vs) m x=ψ v
 | [],_,_,_,_,h,_,_=>by simp at h
 |_::_,[],_,_,_,_,h,_=>by simp at h
 |p::P,w::vs,0,m,c,a,b,d=>by
  simp at a b;subst a;subst b;show bindL kindOf ((p,w)::P.zip vs) m p=_;unfold bindL;rw[Ac λv e=>(jY.mp c).1 (DK e).1,υ d];simp
 |p::P,w::vs,i+1,m,c,a,b,d=>by
  show bindL kindOf ((p,w)::P.zip vs) m x=_;unfold bindL;show Ab (i:=i) (jY.mp c).2 (~~~a) (~~~b) d
theorem ZZ{kindOf:Str->Option NameKind}{x:Str}{v:aF}:∀{P:θ Str}{vs:θ aF}{i:Nat}{m:Str->Option aF},P.Nodup->P[i]?=ψ x->vs[i]?=ψ v->kindOf x≠ψ .local ->
  bindC kindOf (P.zip vs) m x=ψ v
 | [],_,_,_,_,h,_,_=>by simp at h
 |_::_,[],_,_,_,_,h,_=>by simp at h
 |p::P,w::vs,0,m,c,a,b,d=>by
  simp at a b;subst a;subst b;show bindC kindOf ((p,w)::P.zip vs) m p=_;unfold bindC;rw[Aa λv e=>(jY.mp c).1 (DK e).1,ω d];simp
 |p::P,w::vs,i+1,m,c,a,b,d=>by
  show bindC kindOf ((p,w)::P.zip vs) m x=_;unfold bindC;show ZZ (i:=i) (jY.mp c).2 (~~~a) (~~~b) d
def start(N:θ Str)(vs:θ V):St:=vs.map ψ++eQ (N.length-vs.length) ξ
def MV(d:B_)(P:cB)(w:dD)(K:aL)(mg:Str->Option aF)(base:Heap)(N:θ Str)(a:Str)(scope:Scope)(f:Addr)(c:aF)(A:dG)(outer:θ Env)(s:aK)(H:Hp)(E:XK):Cx where
 prog:=P
 w:=w
 K:=K
 mg:=mg
 base:=base
 A:=A.deeper (envOfC a scope s.z f c)
 N:=N
 s₀:=s
 H₀:=H
 env:=envOfC a scope s.z f c
 outer:=outer
 stack:=envOfC a scope s.z f c::outer
 ex:=[]
 calm:=ζ
 fn:=λ_=>ζ
 pn:=[]
 xe:=λe g=>wpAny (model P w) (A.deeper (envOfC a scope s.z f c)) (leaving (envOfC a scope s.z f c) e) (λ_ b=>d outer H s E e b) (λh b=>d outer H s E h b) g
def Eh{a:Scope}{n:Nat}{x:Str}(h:a.names.lookup x=ψ .cell):∃c,(cellsFrom n a.names []).lookup x=ψ c:=by
 have q:=CI a.names n [] (.inl h);show Option.isSome_iff_exists.mp q
def Qc{J:B_}{P:cB}{w:dD}{K:aL}{mg:Str->Option aF}{base:Heap}{N l:θ Str}{d:Str}{scope:Scope}{f:Addr}{C:aF}{A:dG}{outer:θ Env}{s L:aK}{H:Hp}{E:XK}{G:θ aF}{vs:θ V}
  (S:m6 N l scope) (Q:A.handled=ξ) (j:ye P w K mg base A outer s H) (U:vs.length=l.length) (r:c9 vs G)
  (x:InCallC s s.z (bindL (envOfC d scope s.z f C).kindOf (l.zip G) λ_=>ξ) (cellsFrom (s.z+1) scope.names []) (bindC (envOfC d scope s.z f C).kindOf (l.zip G) λ_=>ξ) L):
  Inv (MV J P w K mg base N d scope f C A outer s H E) [] (start N vs) H L:=by
 have W:l.length<=N.length:=by have:=Ψ jE S.pre;rw[jF] at this;lia
 let⟨D,X,rfl,M⟩:=x.done;have I:∀b:Addr,b∉(MV J P w K mg base N d scope f C A outer s H E).ex:=λb z=>Ω (show b∈([]:θ Addr) from z) η;show#[#[j.mod,S.kind,bg,bg,aY _,λy z c D g=>?_,λy m=>?_,λy c _ h=>?_,λ_=>Q,Around.frames_deeper j.frames,.inr #[bg,bg],λb z=>Ω z (I b),j.bs,j.bsz,λb _ _=>I b,λb z=>Ω z (I b),j.funs,j.frf],
  rfl,j.bare,Un.kept M,#[_,x.toInCall.ns,λi y v D g Y=>?_],λy c h=>#[_,x.cell y c h],j.hok.fresh (aY _),λy c h=>?_,λp o=>Ω (show p∈([]:θ (Addr×Obj)) from o) η,j.hok.kept M,?_]
 ·show name_of_addr x.apart (jX D) (jX g)
 ·have m:scope.names.lookup y=ψ .cell\/scope.names.lookup y=ψ .free:=m;rcases m with m |m
  ·show Eh m
  ·show Ω rfl (S.nofree _ (jX m))
 ·show kM (x.above y c (jX h))
 ·have F:i<vs.length:=by
   unfold start at g;by_cases F:i<vs.length
   ·show F
   ·rw[dJ (~~~F)] at g;rw[jD] at g;split at g <;> cases g
  have R:vs[i]?=ψ v:=by
   unfold start at g;rw[dB (~~~F),bC] at g;cases e:vs[i]? with
   |none=>rw[e] at g;cases g
   |some a=>rw[e] at g;cases g;rfl
  let⟨u,O,T⟩:=r.get R;have o:l[i]?=ψ y:=by
   rw[<-S.pre,List.getElem?_take_of_lt ν];show D
  have B:l.Nodup:=by rw[<-S.pre];show S.nd.sublist (MF _ _)
  show#[u,T,?_];rcases S.par y (bJ o) with k |k
  ·show .inl #[k,Ab B o O k]
  ·let⟨c,e⟩:=Eh (n:=s.z+1) k;show .inr #[.inl k,c,e,?_];have q:=x.cell y c e;rw[ZZ B o O (by show scope.names.lookup y≠_;rw[k];decide)] at q;show q
 ·show j.hok.fresh (kM (x.above y c (jX h)))
 ·unfold start;show _=N.length;rw[bI,aJ,mN];lia
def K4{C:B_}{P:cB}{w:dD}{K:aL}{mg:Str->Option aF}{base:Heap}{k:Nat}{f:Addr}{name a:Str}{c:Arguments}{d:θ Stmt}{scope:Scope}{T kV j U g ct oc:aF}{X od:Option Addr}
  {uq:Array (Option aF)} {N D:θ Str} {G:Sp} (lk:K.lookup f=ψ #[oc,od,.func (nB name a c d scope T kV j U X g ct),uq]) (nq:nY K g a=ζ) (S:m6 N D scope)
  (len:∀vs H Q E,G vs H Q E->vs.length=D.length)
  (nk:∀(A:dG)(outer:θ Env)(s:aK)(H:Hp)(vs:θ V)(Q:VK)(E:XK),g_ k (A.deeper (envOfC a scope s.z f g))->G vs H Q E ->
   ∃t,ue (MV C P w K mg base N a scope f g A outer s H E) d t/\t {nx:=λ_ H'=>Q .non H',rt:=Q} (start N vs) H):
  qa P w K mg base C (k+1) f (nB name a c d scope T kV j U X g ct) D G:=by
 show#[len,λA outer s H Y us vs Q E L l hb r m=>?_];have hl:=len _ _ _ _ m;have Z:K.In s.heap:=l.mod.kin.keeps λb o e=>(l.bs b o e).1;have M:s.heap.NoLimit:=l.mod.nolimit.keeps λb o e=>(l.bs b o e).1;have h:∀y∈D.zip us,scope.names.lookup y.1=ψ .local\/(scope.names.lookup y.1=ψ .cell/\((cellsFrom (s.z+1) scope.names []).lookup y.1).isSome=ζ):=λ⟨n,v⟩ hy=>by
  rcases S.par n (DK hy).1 with q |q
  ·show .inl q
  ·show .inr #[q,CI _ _ _ (.inl q)]
 show codeAny_call_function L.depth (Z _ _ lk) rfl S.co S.gen rfl (PySem.W.codeRec_of Z nq) (hb _ _ _ _ ?_);show wpAny_newFunctionEnv_cells S.kind h λenv he s1 x=>?_;subst he;show#[M.keeps x.toInCall.keep,codeAny_func ?_];let⟨t,ht,hq⟩:=nk A outer s H vs Q E (L.deeper _) m;have I:Inv (MV C P w K mg base N a scope f g A outer s H E) [] (start N vs) H s1:=Qc S L.hd l hl r x;show iB (ht [] s1 (start N vs) H _ I hq) (λfl O i=>?_) λe O i=>i;have B:∀{F:St}{H':Hp}{v:V}{u:aF},Inv (MV C P w K mg base N a scope f g A outer s H E) [] F H' O->RelV v u->Q v H'->CE outer P w H s Q u O:=
  λ{F H' v u} J R q=>#[v,H',J.os,J.bare,J.base,J.hok,R,q]
 cases fl with
 |ret u=>
  let⟨v,F,H',J,R,q⟩:=i;show B J R q
 |next=>
  let⟨F,H',J,q⟩:=i;show B (v:=V.non) (u:=eU) J rfl q
 |brk=>
  let⟨_,_,_,q⟩:=i;show nM q
 |cont=>
  let⟨_,_,_,q⟩:=i;show nM q
section
variable{p pos:Pos}{t:TA}{id T:String}{r:θ V->Hp->VK->Prop}
def nC(r:θ V->Hp->VK->Prop)(t:TA):TE:=λZ H Q=>t Z H λa b=>r a b Q
def BG(a:yO X (.builtin id) r)(b:Gl X x)(c:X.mg x=ξ)(d:bootBuiltins x=ψ (.builtin id))(f:PA X (e::es) t)(g:x≠"__name__":=by decide)(i:(x == ("__debug__":Str))=χ:=by decide)
  (j:starEach (e::es) X.env=(χ,eval e X.env)::starEach es X.env:=by rfl) (k:(backTo pos (starEach es X.env)).any (·.1)=χ:=by rfl):PE X (.Call (.Name x p) (e::es) [] pos) (nC r t):=by
 intro Φ s Z H Q I h;show fF (oA I b c d ?_ g i);show kJ (i0 (f pos Φ s Z H _ I h) λl m ⟨n,o,q,u,v⟩=>a Φ m Z o n l Q q u v) j k
def QH(a:yO X (.type T) r)(b:Gl X x)(c:X.mg x=ξ)(d:bootBuiltins x=ψ (.type T))(f:PA X (e::es) t)(g:x≠"__name__":=by decide)(i:(x == ("__debug__":Str))=χ:=by decide)
  (j:starEach (e::es) X.env=(χ,eval e X.env)::starEach es X.env:=by rfl) (k:(backTo pos (starEach es X.env)).any (·.1)=χ:=by rfl):PE X (.Call (.Name x p) (e::es) [] pos) (nC r t):=by
 intro Φ s Z H Q I h;show fF (oA I b c d ?_ g i);show dE (i0 (f pos Φ s Z H _ I h) λl m ⟨n,o,q,u,v⟩=>a Φ m Z o n l Q q u v) j k
end
end L2
namespace HT
open PySem PyProof.Rows
def lexLt:θ Int->θ Int->Bool
 | [],[]=>χ
 | [],_::_=>ζ
 |_::_,[]=>χ
 |x::a,y::b=>if x=y then lexLt a b else decide (x<y)
def lexLt_cons(x y:Int)(xs a:θ Int):lexLt (x::xs) (y::a)=if x=y then lexLt xs a else decide (x<y):=rfl
def IT:lexLt [] []=χ:=rfl
def FP(y:Int)(a:θ Int):lexLt [] (y::a)=ζ:=rfl
def FO(x:Int)(xs:θ Int):lexLt (x::xs) []=χ:=rfl
def Fp(A:dG)(s:aK)(a:Int)(t:Tok)(c:Int)(u:Tok):∃e,KG A s (.int a t) (.int c u) e/\(e=ζ↔a=c):=
 #[(a == c),xS a t c u,η]
def Xp(A:dG)(s:aK)(a:Int)(t:Tok)(c:Int)(u:Tok)(prog:cB)(w:dD)(E:aF->aK->Prop)(Q:aF->aK->Prop)(h:Q (.bool (decide (a<c))) s):
  Γ prog w A (richCompare .Lt (.int a t) (.int c u)) Q E s:=
 (PyProof.Rows.lt_int h:Γ prog w A (compareOp .Lt (.int a t) (.int c u)) Q E s)
section
open PySem.SeqAt
open PySem.AutoSeq1 (wpAny_loadPart')
open PySem.MeetsSeq PySem.MeetsSeq2 PySem.MeetsSeq3
def ZR(l b:Addr)(items o:Array aF)(n N:Nat)(O P:Option Addr)(Q T:Array (Option aF))(ns z:θ Int)(hi:IntsAre items.toList ns)(K:IntsAre o.toList z):
  Meets (Builtin.«tuple.__lt__» #[[.ref l,.ref b],[]])
   (λ_ R s=>s.heap.get? l=ψ {cls:=.type "tuple",dict:=O,data:=.seq items n,slots:=Q}/\s.heap.get? b=ψ {cls:=.type "tuple",dict:=P,data:=.seq o N,slots:=T} /\
    R (.ok (.ret (.bool (lexLt ns z)))) s):=
 .of_wp λk w A R s h=>by
  let⟨B,g,d,C,os⟩:=s;let⟨U,V,h⟩:=h;have f2:=zK;have z1:items.size=ns.length:=by rw[<-hi.length];simp
  have z2:o.size=z.length:=by rw[<-K.length];simp
  wp_walk using oZ U,oZ V,qX _ (λrest b G=>b.1=ξ/\G=#[B,g,d,C,os]/\∃(D E:θ aF)(i v:θ Int),rest=D.zip E /\
   IntsAre D i/\IntsAre E v/\i.length+o.size=v.length+items.size/\R (.ok (.ret (.bool (lexLt i v)))) #[B,g,d,C,os]) _
  case turn=>
   rintro⟨y,x⟩ rest b G ⟨H,rfl,D,E,i,v,j,I,F,f,m⟩;cases I with
   |nil=>rw[MG] at j;cases j
   |cons a t W=>
    cases F with
    |nil=>rw[JZ] at j;cases j
    |cons c u X=>
     rw[oH] at j;injection j with j7 xj;injection j7 with hy hx;subst hy hx;rw[lexLt_cons] at m;erw[aT] at f;let⟨e,Y,L⟩:=Fp A.in1 #[B,g,d,C,os] a t c u;show aD (Y k w _ _ ?_);cases e with
     |true=>
      rw[υ (L.mp rfl)] at m
      wp_walk
      show#[bg,bg,_,_,_,_,xj,W,X,ν,m]
     |false=>
      rw[ω (λq=>Ω (L.mpr q) cL)] at m;have J:=Xp A.in1 #[B,g,d,C,os] a t c u k w
      wp_walk using J
      show#[_,bg,~~~m]
  case fin=>
   rintro⟨b1,b2⟩ G ⟨H,rfl,D,E,i,v,j,I,F,f,m⟩;simp only at H;subst H;have M:lexLt i v=decide (items.size<o.size):=by
    cases I with
    |nil=>
     cases F with
     |nil=>
      erw[cK] at f;rw[IT];show(decide_eq_false ν).symm
     |cons c u Z=>
      erw[cK,aT] at f;rw[FP];show(decide_eq_true ν).symm
    |cons a t M=>
     cases F with
     |nil=>
      erw[cK,aT] at f;rw[FO];show(decide_eq_false ν).symm
     |cons c u Z=>
      rw[oH] at j;cases j
   rw[M] at m
   wp_walk
   show#[_,bg,by simpa [tU] using m]
  case h=>
   show#[bg,bg,items.toList,o.toList,ns,z,bg,hi,K,ν,h]
end
section
variable{prog:cB}{w:dD}{A:dG}{E:aF->aK->Prop}{s:aK}
def lt_tupInts{ns a:θ Int}(m:IsTup s.heap l items)(o:IsTup s.heap b g8)(hi:IntsAre items.toList ns)(q:IntsAre g8.toList a)
  (u:A.units<cLine) (h:Q (.bool (lexLt ns a)) s):Γ prog w A (compareOp .Lt (.ref l) (.ref b)) Q E s:=by
 obtain⟨⟨v,y,d,z⟩,e,f,n,g⟩:=id m;obtain⟨⟨i,B,data2,C⟩,j,k,D,c⟩:=id o;simp only at f g k c;subst f g k c;show CW (op:=.Lt) #[_,e,bg] #[_,j,bg] PySem.F.slot_tuple_lt PySem.F.entry_tuple_lt (PySem.F.args_tuple_lt_2 _ _) (ZR l b items g8 n D y B z C ns a hi q)
  #[e,j,show CK (lexLt ns a)≠FF/\Q (.bool (lexLt ns a)) s from#[(λx=>nomatch x),h]] u
def cat_tup{t b:Addr}(v:IsTup s.heap t vs.toArray)(y:IsTup s.heap b ws.toArray)(g:vs≠[])
  (B:ws=[]->Q (.ref t) s) (C:ws≠[]->Q (.ref s.z) {s with heap:=s.heap.push {cls:=.type "tuple",data:=.seq (vs++ws).toArray}})
  (hsz:vs.length+ws.length<=sizeLine):Γ prog w A (binaryOp .Add (.ref t) (.ref b)) Q E s:=by
 obtain⟨⟨cls,h,data,i⟩,c,j,n,k⟩:=id v;obtain⟨⟨l,m,data2,o⟩,d,q,u,a⟩:=id y;simp only at j k q a;subst j k q a;have e:vs.toArray++ws.toArray=(vs++ws).toArray:=η
 by_cases f:ws=[]
 ·show MU #[_,c,bg] #[_,d,bg] QA ZO CH AT (zR _ _)
   (tuple_addW1 t b vs.toArray ws.toArray n u h m i o (~~~g) (by simp[f])) #[c,d,B f]
 ·show MU #[_,c,bg] #[_,d,bg] QA ZO CH AT (zR _ _)
   (tuple_addW2 t b vs.toArray ws.toArray n u h m i o (~~~g) (~~~f) (by rw[aZ,aZ];show hsz)) #[c,d,?_]
  rw[e];show C f
def sIx(n d:Nat):Option Int->Nat
 |none=>d
 |some v=>if v<0 then(v+(n:Int)).toNat else min v.toNat n
def sIx_none(n d:Nat):sIx n d ξ=d:=rfl
def sIx_nat(n d k:Nat):sIx n d (ψ (k:Int))=min k n:=by
 show(if(k:Int)<0 then((k:Int)+(n:Int)).toNat else min (k:Int).toNat n)=min k n;rw[ω ν,gF]
def W7(n d:Nat)(b:d<=n)(o:Option Int):sIx n d o<=n:=by
 cases o with
 |none=>show b
 |some v=>
  show(if v<0 then(v+(n:Int)).toNat else min v.toNat n)<=n;by_cases a:v<0
  ·rw[υ a];lia
  ·rw[ω a];show OZ _ _
def Mh(v:Int)(n d:Nat):(if v<0 then max (v+(n:Int)) 0 else min v (n:Int))=((sIx n d (ψ v):Nat):Int):=by
 show(if v<0 then max (v+(n:Int)) 0 else min v (n:Int))=(((if v<0 then(v+(n:Int)).toNat else min v.toNat n):Nat):Int);by_cases a:v<0
 ·erw[υ a];lia
 ·erw[ω a];lia
def Jd(lo hi:Option Int)(n:Nat):qY lo hi 1 (n:Int)=(((sIx n 0 lo:Nat):Int),((sIx n n hi:Nat):Int)):=by
 have a:¬((1:Int)<0):=ν
 unfold qY;erw[a,if_false];show nX ?_ ?_
 ·cases lo with
  |none=>rfl
  |some v=>show Mh v n 0
 ·cases hi with
  |none=>rfl
  |some v=>show Mh v n n
def Km(i j:Nat):mS (i:Int) (j:Int) 1=j-i:=by
 unfold mS;have a:(1:Int) > 0:=ν
 erw[a,if_true,Int.ediv_one];split <;> lia
def YC(p:IsPart v o)(h:Q o s):Γ prog w A (Builtin.Slice.slicePartIndex v) Q E s:=by
 cases p with
 |none=>show YD h
 |int i t=>show slicePart_int h
def QQ{e:Addr}{a b:aF}{lo hi:Option Int}{n:Nat}{Q:Int×Int×Nat->aK->Prop}(f:s.heap.IsSliceOf e a b .none)(g:IsPart a lo)(i:IsPart b hi)
  (h:Q (((sIx n 0 lo:Nat):Int),1,sIx n n hi-sIx n 0 lo) s):Γ prog w A (xL (.ref e) (pure (n:Int))) Q E s:=by
 let⟨os,c,j,d⟩:=id f;unfold xL Builtin.Slice.sliceFields;show aD (aD (SS c d (x:=a) rfl (aD (SS c d (x:=b) rfl (aD (SS c d (x:=.none) rfl (aP ?_)))))));show aD (YD ?_);show wpAny _ _ (if((1:Int) == 0)=ζ then _ else _) _ _ s;rw[ω μ];show aD (YC g (aD (YC i (aD (aP ?_)))));show wpAny _ _ (match qY lo hi 1 (n:Int) with | (lo,hi)=>pure (lo,(1:Int),mS lo hi 1)) _ _ s;rw[Jd lo hi n];show wpAny _ _ (pure (((sIx n 0 lo:Nat):Int),(1:Int),mS ((sIx n 0 lo:Nat):Int) ((sIx n n hi:Nat):Int) 1)) _ _ s;rw[Km];show aP h
def Wt(xs:Array aF)(i k:Nat):((cF k).filterMap λ(m:Nat)=>xs[((i:Int)+(m:Int)*1).toNat]?).toArray=((xs.toList.drop i).take k).toArray:=by
 have e:(λ(m:Nat)=>xs[((i:Int)+(m:Int)*1).toNat]?)=λm=>xs[i+m]?:=by
  funext m;have:((i:Int)+(m:Int)*1).toNat=i+m:=ν
  rw[this]
 rw[e];have:=pick_run xs i k;rw[List.filterMap_map] at this;have a:((λx=>xs[x]?) ∘ λx=>i+x)=λm=>xs[i+m]?:=rfl;rw[a] at this;rw[this]
def getItem_tuple_cut{t c:Addr}{lo hi:Option Int}(a:IsTup s.heap t items)(g:s.heap.IsSliceOf c vl vu .none)(i:IsPart vl lo)(j:IsPart vu hi)
  (k:¬(sIx items.size 0 lo=0/\sIx items.size items.size hi=items.size))
  (h:Q (.ref s.z) {s with heap:=s.heap.push {cls:=.type "tuple",data:=.seq ((items.toList.drop (sIx items.size 0 lo)).take (sIx items.size items.size hi-sIx items.size 0 lo)).toArray}})
  (hsz:items.size<=sizeLine):Γ prog w A (getItem (.ref t) (.ref c)) Q E s:=by
 have b:sizeOk (.seq ((items.toList.drop (sIx items.size 0 lo)).take (sIx items.size items.size hi-sIx items.size 0 lo)).toArray):=by
  show((items.toList.drop (sIx items.size 0 lo)).take (sIx items.size items.size hi-sIx items.size 0 lo)).toArray.size<=sizeLine;rw[aZ,jF,gR,dA];lia
 have n:sIx items.size items.size hi<=items.size:=W7 _ _ (aY _) hi;let⟨os,l,d,o⟩:=id g;have e:s.TypeIs (.ref c) "slice":=#[os,l,d];unfold getItem
 try with_reducible show fS ?_
 first |show aD (aP ?_) |skip
 show aD (wpAny_sequenceKey a.typeIs μ ?_);show aD (kX (name:=iG "__getitem__") a.typeIs tV
  (jJ tV a.typeIs entry_tuple_getitem ?_ (args_tuple_getitem _ _)))
 show wpAny _ _ (Builtin.Tuple.tupleItemsOf (.ref t) >>= _) _ _ s;show aD (tupleItemsOf_ a ?_);show aD (xB e ?_);rw[υ μ];show aD (QQ g i j ?_);have f:¬((((sIx items.size 0 lo:Nat):Int) == 0 && (1:Int) == 1 && (sIx items.size items.size hi-sIx items.size 0 lo) == items.size)=ζ):=by
  intro q;rw[kG,kG] at q;have u:((sIx items.size 0 lo:Nat):Int)=0:=eq_of_beq q.1.1;have v:sIx items.size items.size hi-sIx items.size 0 lo=items.size:=eq_of_beq q.2;show k #[ν,ν]
 show wpAny _ _ (if(((sIx items.size 0 lo:Nat):Int) == 0 && (1:Int) == 1 && (sIx items.size items.size hi-sIx items.size 0 lo) == items.size)=ζ then _ else _) _ _ s;rw[ω f,Wt]
 first
  |show aD (m:=nK _) (fD (aP ⟨_,rfl,aP h⟩) b)
  |show aD (m:=nK _) (fD (aD (aP (aP ⟨_,rfl,aP h⟩))) b)
  |show aD (aD (m:=nK _) (fD (aP (aP ⟨_,rfl,aP h⟩)) b))
  |show aD (aD (m:=nK _) (fD (aP ⟨_,rfl,aP h⟩) b))
end
end HT
namespace L2
open PySem PySem.Spec PyProof.Rows
abbrev TO:=St->Hp->(Option Int->Hp->Prop)->Prop
def PO(X:Cx)(e:Option Expr)(t:TO):Prop:=
 ∀(Φ:θ (Addr×Obj))(s:aK)(Z:St)(H:Hp)(Q:Option Int->Hp->Prop),Inv X Φ Z H s->t Z H Q ->
  Δ X (evalPart e X.env) (λu b=>∃o a,Inv X Φ Z a b/\IsPart u o/\Q o a) X.xe s
def G5:TO:=λ_ H Q=>Q ξ H
def fe(t:TE):TO:=λZ H Q=>t Z H λx a=>∃i,x = .int i/\Q (ψ i) a
def intsAre_of{ns:θ Int}:∀{us:θ aF},c9 (ns.map V.int) us->IntsAre us ns:=by
 induction ns with
 |nil=>intro us r;rw[cD] at r;cases r;show .nil
 |cons n ns a=>
  intro us r;rw[aN] at r;cases r with
  |cons b c=>
   let⟨t,e⟩:=b;subst e;show .cons n t (a c)
section
variable{X:Cx}{te:TE}{lo hi:Option Expr}{tl th:TO}{pos p2:Pos}
def Oa:PO X ξ G5:=by
 intro Φ s Z H Q I h;rw[IN];show aP #[ξ,H,I,.none,h]
def Dh(h:PE X e te):PO X (ψ e) (fe te):=by
 intro Φ s Z H Q I a;rw[evalPart_some];show i0 (h Φ s Z H _ I a) λu j b=>?_;let⟨x,c,d,f,g⟩:=b;let⟨i,rfl,q⟩:=g;let⟨t,rfl⟩:=f;show#[ψ i,c,d,.int i t,q]
def Fn(X:Cx)(r:V->Option Int->Option Int->Hp->VK->Prop):Prop:=
 ∀(Φ:θ (Addr×Obj))(s:aK)(Z:St)(H:Hp)(x:V)(v a b:aF)(lo hi:Option Int)(c:Addr)(Q:VK),Inv X Φ Z H s->RelV x v->s.heap.IsSliceOf c a b .none->IsPart a lo->IsPart b hi->r x lo hi H Q ->
  ∃T id,typeLookup (.type T) "__getitem__" = pure (ψ (.builtin id))/\s.TypeIs v T/\Δ X (getItem v (.ref c)) (EP X Φ Z Q) X.xe s
def Fn.or(h:Fn X r)(h':Fn X r'):Fn X (λx lo hi H Q=>r x lo hi H Q\/r' x lo hi H Q):=by
 intro Φ s Z H x v a b lo hi c Q I d e f g q;rcases q with q |q
 ·show h Φ s Z H x v a b lo hi c Q I d e f g q
 ·show h' Φ s Z H x v a b lo hi c Q I d e f g q
def C'(r:V->Option Int->Option Int->Hp->VK->Prop)(te:TE)(tl th:TO):TE:=λZ H Q=>te Z H λx a=>tl Z a λl b=>th Z b λu c=>r x l u c Q
def Gw(i:Fn X r)(j:PE X e te)(k:PO X lo tl)(m:PO X hi th):PE X (.Subscript e (.Slice lo hi ξ p2) pos) (C' r te tl th):=by
 intro Φ s Z H Q I h;show Subscript_ (i0 (j Φ s Z H _ I h) λv n f=>?_);let⟨x,o,w,y,A⟩:=f;show wpAny_Slice (i0 (k Φ n Z o _ w A) λc B ⟨l,C,D,E,F⟩=>i0 (m Φ B Z C _ D F) λd a f=>?_);let⟨u,g,G,J,K⟩:=f;rw[IN];show aP ?_;have L:Inv X Φ Z g {a with heap:=a.heap.push {cls:=.type "slice",data:=.fields (LE [c,d,.none])}}:=G.kept (t':=a.toks) λb P q=>aR _ q;let⟨T,id,M,N,O⟩:=i Φ {a with heap:=a.heap.push {cls:=.type "slice",data:=.fields (LE [c,d,.none])}} Z g x v c d l u a.z Q L y (JS ..) E J K;show Δ X (subscriptTail e (.Slice lo hi ξ p2) v (.ref a.z)) (EP X Φ Z Q) X.xe {a with heap:=a.heap.push {cls:=.type "slice",data:=.fields (LE [c,d,.none])}};show tail_any (ops:=[.ref a.z,v]) N M O (by with_unfolding_all rfl)
def ZB(xs:θ V)(lo hi:Option Int):θ V:=(xs.drop (HT.sIx xs.length 0 lo)).take (HT.sIx xs.length xs.length hi-HT.sIx xs.length 0 lo)
def RC(xs:θ V)(lo hi:Option Int):(ZB xs lo hi).length<=xs.length:=by
 unfold ZB;rw[jF,gR];lia
def ik(K:aL):V->Option Int->Option Int->Hp->VK->Prop:=λx lo hi H Q=>∃a b,x = .ref a/\m7 K H a b /\
 ¬(HT.sIx b.length 0 lo=0/\HT.sIx b.length b.length hi=b.length)/\∀p,H p=ξ->Q (.ref p) (f_ H p (.tup (ZB b lo hi)))
def X3:Fn X (ik X.K):=by
 intro Φ s Z H x v u w lo hi y Q I i j k l h;let⟨a,d,rfl,m,n,q⟩:=h;cases i;let⟨e,r,f,g⟩:=I.tuple m;have c:e.toArray.size=d.length:=by rw[aZ];show r.length.symm
 show#["tuple",_,PyProof.Rows.slot_tuple_getitem.lookup,f.typeIs,?_];show HT.getItem_tuple_cut f j k l (by rw[c];show n) ?_ (by rw[c];show g);rw[c];show#[.ref s.z,_,I.laid (t':=s.toks) (o:=.tup (ZB d lo hi)) (λb A q=>aR _ q) (aY _) ?_,bg,q _ (I.hok.fresh (aY _))];show#[dY (RC d lo hi) g,_,(r.drop (HT.sIx d.length 0 lo)).take (HT.sIx d.length d.length hi-HT.sIx d.length 0 lo),OT _ _]
def gz(K:aL):R2:=λx y H Q=>∃a b c d,x = .ref a/\y = .ref b/\m7 K H a (c.map V.int)/\m7 K H b (d.map V.int)/\Q (.bl (HT.lexLt c d)) H
def T3(f:X.A.units<cLine):sr X (compareOp .Lt) (gz X.K):=by
 intro Φ s Z H x y v u Q I g i h;let⟨a,b,d,e,rfl,rfl,j,k,q⟩:=h;cases g;cases i;let⟨c,l,m,_⟩:=I.tuple j;let⟨n,o,p2,_⟩:=I.tuple k;have w:IntsAre c.toArray.toList d:=intsAre_of l;have z:IntsAre n.toArray.toList e:=intsAre_of o;show HT.lt_tupInts m p2 w z f #[.bl (HT.lexLt d e),H,I,bg,q]
def ci(K:aL):R2:=λx y H Q=>∃a b d c,x = .ref a/\y = .ref b/\m7 K H a d/\m7 K H b c/\d≠[]/\d.length+c.length<=sizeLine /\
 (c=[]->Q (.ref a) H)/\(c≠[]->∀p,H p=ξ->Q (.ref p) (f_ H p (.tup (d++c))))
def c9.nil_iff(r:c9 xs us):us=[]↔xs=[]:=by
 cases r with
 |nil=>simp
 |cons _ _=>simp
def C9:sr X (binaryOp .Add) (ci X.K):=by
 intro Φ s Z H x y v u Q I f g h;let⟨a,b,i,j,rfl,rfl,k,l,m,e,n,A⟩:=h;cases f;cases g;let⟨B,d,C,_⟩:=I.tuple k;let⟨D,c,p2,_⟩:=I.tuple l;show HT.cat_tup C p2 (λz=>m (d.nil_iff.mp z)) (λz=>#[.ref a,H,I,bg,n (c.nil_iff.mp z)]) (λz=>?_) (by rw[<-d.length,<-c.length];show e);show#[.ref s.z,_,I.laid (t':=s.toks) (o:=.tup (i++j)) (λb E q=>aR _ q) (aY _) ?_,bg,A (λw=>z (c.nil_iff.mpr w)) _ (I.hok.fresh (aY _))];show#[by rw[bI];show e,_,d.append c,OT _ _]
end
def uj(n:Nat)(i:Int):Option Nat:=if 0<=i then(if i<n then ψ i.toNat else ξ) else if -(n:Int)<=i then ψ (i+n).toNat else ξ
def qe{α:Type}(xs:θ α)(i:Int):Option α:=(uj xs.length i).bind λj=>xs[j]?
def Nn(h:uj n i=ψ j):seqIndex? i n=ψ j/\j<n/\-(n:Int)<=i/\i<n:=by
 unfold uj at h;by_cases b:0<=i
 ·rw[υ b] at h;by_cases a:i<n
  ·rw[υ a] at h;have e:i.toNat=j:=cW h;show#[by rw[SQ b a,e],ν,ν,a]
  ·rw[ω a] at h;cases h
 ·rw[ω b] at h;by_cases a:-(n:Int)<=i
  ·rw[υ a] at h;have e:(i+n).toNat=j:=cW h;show#[by rw[seqIndex_neg ν a,e],ν,a,ν]
  ·rw[ω a] at h;cases h
def Bs{α:Type}{xs:θ α}{v:α}(h:qe xs i=ψ v):∃j,seqIndex? i xs.length=ψ j/\xs[j]?=ψ v/\j<xs.length/\-(xs.length:Int)<=i/\i<xs.length:=by
 unfold qe at h;cases e:uj xs.length i with
 |none=>rw[e] at h;cases h
 |some j=>
  rw[e] at h;let⟨a,b,c,d⟩:=Nn e;show#[j,a,h,b,c,d]
def qQ{α:Type}{xs:θ α}{j:Nat}{v:α}(h:xs[j]?=ψ v):qe xs (j:Int)=ψ v:=by
 have a:j<xs.length:=(bF.mp h).1;have e:uj xs.length (j:Int)=ψ j:=by
  unfold uj;rw[υ ν,υ ν];simp
 unfold qe;rw[e];show h
def Br(b:Expr):Prop:=∀o i,subscripted b χ o i=operate [o,i] (getItem o i)
def C_(X:Cx)(r:R2):Prop:=
 ∀(b a:Expr)(Φ:θ (Addr×Obj))(s:aK)(Z:St)(H:Hp)(x y:V)(v u:aF)(Q:VK),Inv X Φ Z H s->RelV x v->RelV y u->r x y H Q ->
  subscripted a χ v u=operate [v,u] (getItem v u)->Δ X (subscriptTail b a v u) (EP X Φ Z Q) X.xe s
def hQ(X:Cx)(id:String)(r:V->θ V->Hp->VK->Prop):Prop:=
 ∀(Φ:θ (Addr×Obj))(s:aK)(Z:St)(H:Hp)(x:V)(a:θ V)(v:aF)(b:θ aF)(Q:VK),Inv X Φ Z H s->RelV x v->c9 a b->r x a H Q ->
  Δ X (call (.builtin id) (v::b)) (EP X Φ Z Q) X.xe s
section
variable{X:Cx}{a b:Expr}{pos:Pos}
def C_.or(h:C_ X r)(h':C_ X r'):C_ X (λx y H Q=>r x y H Q\/r' x y H Q):=by
 intro c d Φ s Z H x y v u Q I e f q g;rcases q with q |q
 ·show h c d Φ s Z H x y v u Q I e f q g
 ·show h' c d Φ s Z H x y v u Q I e f q g
def ay(c:C_ X r)(d:PE X a ta)(e:PE X b tb)(f:Br b):PE X (.Subscript a b pos) (gq r ta tb):=by
 intro Φ s Z H Q I h;show Subscript_ (N9 d e I h λv u g x y i j k l q=>c a b Φ g Z i x y v u Q j k l q (f _ _))
def gv(K:aL):R2:=λx y H Q=>∃p c i v,x = .ref p/\y = .int i/\om K H p c/\qe c i=ψ v/\Q v H
def gw(K:aL):R2:=λx y H Q=>∃p c i v,x = .ref p/\y = .int i/\m7 K H p c/\qe c i=ψ v/\Q v H
def A4:C_ X (gv X.K):=by
 intro e f Φ s Z H x y v u Q I A B h m;let⟨p,N,i,z,rfl,rfl,C,D,q⟩:=h;cases A;let⟨t,rfl⟩:=B;let⟨g,r,k,O⟩:=I.list C;let⟨j,d,E,P,F,G⟩:=Bs D;let⟨w,n,J⟩:=r.get E;have L:=r.length;have R:=WT;have c:EP X Φ Z Q w s:=#[z,H,I,J,q];by_cases o:0<=i
 ·have l:i.toNat=j:=by
   rw[SQ o G] at d;show cW d
  show item_listR k.isList o ν (by rw[l];simpa using n) c m
 ·have l:(i+(g.toArray.size:Int)).toNat=j:=by
   rw[seqIndex_neg ν F] at d;rw[aZ,<-L];show cW d
  show tN (x:=w) k.isList.typeIs slot_list_getitem.lookup
   (wpAny_getItem_list_neg (Q:=λr M=>r=w/\EP X Φ Z Q r M) k.isList ν (by rw[aZ] <;> lia) ν (by rw[l];simpa using n) #[bg,c]) m
def Q7:C_ X (gw X.K):=by
 intro c d Φ s Z H x y v u Q I g k h l;let⟨p,G,i,z,rfl,rfl,m,n,q⟩:=h;cases g;let⟨t,rfl⟩:=k;let⟨o,r,f,J⟩:=I.tuple m;let⟨j,A,B,L,M,N⟩:=Bs n;let⟨w,C,D⟩:=r.get B;have E:=r.length;have O:=WT;have e:EP X Φ Z Q w s:=#[z,H,I,D,q];show tN (x:=w) f.typeIs slot_tuple_getitem.lookup
  (ZC (j:=j) (Q:=λr F=>r=w/\EP X Φ Z Q r F) f ν ν (by rw[aZ,<-E];show A) (~~~C) #[bg,e]) l
def Kc(its:θ aF)(n j:Nat)(u:aF):fE (·.setIfInBounds j u) {cls:=.type "list",data:=.seq its.toArray n} = {cls:=.type "list",data:=.seq (its.set j u).toArray n}:=by
 simp[fE]
def Inv.lst{Z:St}{s:aK}(I:Inv X Φ Z H s)(h:H p=ψ (.lst xs)):
  ∃(its:θ aF)(n:Nat),c9 xs its/\s.heap.get? p=ψ {cls:=.type "list",data:=.seq its.toArray n}/\xs.length<=sizeLine:=by
 let⟨z,its,n,r,e⟩:=I.hok p _ h;show#[its,n,r,e,z]
def Inv.lstUpd{Φ:θ (Addr×Obj)}{Z:St}{H:Hp}{s:aK}{p:Addr}{xs c:θ V}{its its':θ aF}{n d:Nat}{f:Obj->Obj}(I:Inv X Φ Z H s)(h:H p=ψ (.lst xs))
  (i:s.heap.get? p=ψ {cls:=.type "list",data:=.seq its.toArray n}) (g:f {cls:=.type "list",data:=.seq its.toArray n} = {cls:=.type "list",data:=.seq its'.toArray d}) (r:c9 c its') (hz:c.length<=sizeLine) (t:Nat):
  Inv X Φ Z (f_ H p (.lst c)) {s with heap:=s.heap.update p f,toks:=t}:=by
 have e:(s.heap.update p f).get? p=ψ {cls:=.type "list",data:=.seq its'.toArray d}:=by
  rw[fM f i (by rw[g] <;> rfl),g]
 show I.write (x:=p) (e:=p) (by rw[h];trivial) (.inl rfl) (λb u j q=>(dU _ _ (Ne.symm j)).trans q) #[_,e] ?_;show#[hz,its',d,r,e]
def cu:V->V->V->Hp->(Hp->Prop)->Prop:=λo i v H Q=>∃p c k j,o = .ref p/\i = .int k/\H p=ψ (.lst c)/\uj c.length k=ψ j/\Q (f_ H p (.lst (c.set j v)))
def Yh:Y6 X cu:=by
 intro Φ s Z H o i v G J u Q I A B C h;let⟨p,D,k,j,rfl,rfl,l,E,q⟩:=h;cases A;let⟨t,rfl⟩:=B;let⟨c,n,r,e,F⟩:=I.lst l;let⟨d,K,m,w⟩:=Nn E;have f:=r.length;have L:=WT;have y:Inv X Φ Z (f_ H p (.lst (D.set j v))) {s with heap:=s.heap.update p (fE (·.setIfInBounds j u))}:=
  I.lstUpd l e (Kc c n j u) (r.set C j) (by rw[List.length_set];show F) s.toks
 by_cases z:0<=k
 ·have g:k.toNat=j:=by
   rw[SQ z w] at d;show cW d
  show PySem.W.ki_setAt e z ν (by rw[aZ,<-f];show w) (by rw[g];show#[_,y,q])
 ·have g:(k+(c.toArray.size:Int)).toNat=j:=by
   rw[seqIndex_neg ν m] at d;rw[aZ,<-f];show cW d
  show PySem.W.ki_setBack e ν (by rw[aZ,<-f];show m) ν (by rw[g];show#[_,y,q])
def Dv(lo hi:Option Int)(n:Nat):(sliceBounds lo hi ξ n).1=((HT.sIx n 0 lo:Nat):Int)/\(sliceBounds lo hi ξ n).2.1=((HT.sIx n n hi:Nat):Int)/\(sliceBounds lo hi ξ n).2.2=1:=by
 show#[?_,?_,bg]
 ·cases lo with
  |none=>simp[sliceBounds,HT.sIx]
  |some i=>
   erw[sliceBounds,HT.sIx,PB,show(1:Int) > 0 by decide,if_true];by_cases h:i<0
   ·erw[h,if_true] <;> lia
   ·erw[h,if_false] <;> lia
 ·cases hi with
  |none=>simp[sliceBounds,HT.sIx]
  |some i=>
   erw[sliceBounds,HT.sIx,PB,show(1:Int) > 0 by decide,if_true];by_cases h:i<0
   ·erw[h,if_true] <;> lia
   ·erw[h,if_false] <;> lia
def ZP(its:θ aF)(lo hi:Option Int):slicePick its.toArray lo hi ξ=((its.drop (HT.sIx its.length 0 lo)).take (HT.sIx its.length its.length hi-HT.sIx its.length 0 lo)).toArray:=by
 let⟨c,d,e⟩:=Dv lo hi its.toArray.size;unfold slicePick;rw[c,d,e];erw[sliceRange_one,pick_run,aZ] <;> rfl
def ij(K:aL):V->Option Int->Option Int->Hp->VK->Prop:=λx lo d H Q=>∃a c,x = .ref a/\om K H a c/\∀p,H p=ξ->Q (.ref p) (f_ H p (.lst (ZB c lo d)))
def Op:Fn X (ij X.K):=by
 intro Φ s Z H x v u w lo e y Q I g i j k h;let⟨a,c,rfl,l,q⟩:=h;cases g;let⟨m,r,f,n⟩:=I.list l;have d:=r.length;show#["list",_,slot_list_getitem.lookup,f.isList.typeIs,?_];show AE f.isList i j k .none η ?_ (by rw[aZ] <;> lia);rw[ZP,<-d];show#[.ref s.z,_,I.laid (t':=s.toks) (o:=.lst (ZB c lo e)) (λb A q=>aR _ q) (aY _) ?_,bg,q _ (I.hok.fresh (aY _))];show#[dY (RC c lo e) n,_,0,(r.drop (HT.sIx c.length 0 lo)).take (HT.sIx c.length c.length e-HT.sIx c.length 0 lo),bT _ rfl]
def Bx:yO X (.builtin "len") (λxs H Q=>∃p ys,xs=[.ref p]/\(om X.K H p ys\/m7 X.K H p ys)/\Q (.int ys.length) H):=by
 intro Φ s Z H xs k Q I r h;let⟨p,ys,rfl,d,q⟩:=h;let⟨u,rfl,i⟩:=vals1 r;cases i;have l:=WT;rcases d with d |d
 ·let⟨e,f,g,j⟩:=I.list d;have c:=f.length;show Calls.call_len_list g.isList (by erw[aZ] <;> lia) #[.int ys.length,H,I.tok _,#[s.toks+1,by rw[aZ,c]],q]
 ·let⟨e,f,g,j⟩:=I.tuple d;have c:=f.length;show len_tuple g (by erw[aZ] <;> lia) #[.int ys.length,H,I.tok _,#[s.toks+1,by rw[aZ,c]],q]
def By:yO X (.type "list") (λxs H Q=>∃p ys,xs=[.ref p]/\(om X.K H p ys\/m7 X.K H p ys)/\∀l,H l=ξ->Q (.ref l) (f_ H l (.lst ys))):=by
 intro Φ s Z H xs F Q I r h;let⟨p,ys,rfl,i,q⟩:=h;let⟨u,rfl,E⟩:=vals1 r;cases E;have j:∀(c:θ aF),c9 ys c->ys.length<=sizeLine->∀(d:Heap)(f:Nat),(∀b D,s.heap.get? b=ψ D->d.get? b=ψ D) ->
   d.get? s.z=ψ {cls:=.type "list",dict:=ξ,data:=.seq c.toArray f,slots:=(LE [])}->EP X Φ Z Q (.ref s.z) {s with heap:=d}:=λc g k d f m e=>
  #[.ref s.z,_,I.laid (t':=s.toks) m (aY _) (show g9 X.prog X.w _ d _ (.lst ys) from#[k,c,f,g,e]),bg,q _ (I.hok.fresh (aY _))]
 rcases i with i |i
 ·let⟨c,g,y,k⟩:=I.list i;have v:=g.length;let⟨o,A,B,n,C⟩:=y.isList;show YY p (.inl rfl) A B C (λd f m e=>j c g k d f m e) (by erw[aZ] <;> lia)
 ·let⟨c,g,y,k⟩:=I.tuple i;have v:=g.length;let⟨o,A,B,n,C⟩:=y;show YY p (.inr rfl) A B C (λd f m e=>j c g k d f m e) (by erw[aZ] <;> lia)
def ZA:yO X (.type "tuple") (λxs H Q=>∃p ys,xs=[.ref p]/\((om X.K H p ys/\∀l,H l=ξ->Q (.ref l) (f_ H l (.tup ys)))\/(m7 X.K H p ys/\Q (.ref p) H))):=by
 intro Φ s Z H xs z Q I r h;let⟨p,ys,rfl,h⟩:=h;let⟨u,rfl,n⟩:=vals1 r;cases n;rcases h with⟨f,q⟩ | ⟨f,q⟩
 ·let⟨c,g,i,j⟩:=I.list f;have k:=g.length;show call_tuple_list i.isList (λd v=>?_) (by erw[aZ] <;> lia);have m:Inv X Φ Z H {s with heap:=d}:=I.kept (t':=s.toks) v;have y:Inv X Φ Z (f_ H d.objs.size (.tup ys)) {s with heap:=d.push {cls:=.type "tuple",data:=.seq c.toArray}}:=
   m.laid (t':=s.toks) (λb o e=>aR _ e) (aY _) (show g9 X.prog X.w _ _ _ (.tup ys) from#[j,c,g,OT _ _])
  show#[.ref d.objs.size,_,y,bg,q _ (m.hok.fresh (aY _))]
 ·let⟨c,g,i,j⟩:=I.tuple f;show call_tuple_same i #[.ref p,H,I,bg,q]
def iD(K:aL)(T:String)(x:V)(H:Hp):Prop:=match x with
 | .str _=>T = "str"
 | .int _=>T = "int"
 | .ref p=>(T = "list"/\∃d,om K H p d)\/(T = "tuple"/\∃o,K.lookup p=ψ o/\o.cls = .type "tuple"/\o.dict=ξ) \/
   (T = "dict"/\((∃c,H p=ψ (.dK c))\/∃c,H p=ψ (.dT c)))\/(T = "set"/\∃S n,H p=ψ (.set S n))
 |_=>False
def Ys{Z:St}{s:aK}{T:String}(I:Inv X Φ Z H s)(r:RelV x v)(g:iD X.K T x H):
  s.TypeIs v T/\∀a,v = .ref a->∃ob,s.heap.get? a=ψ ob/\ob.dict=ξ:=by
 cases x with
 |str z=>
  let⟨t,rfl⟩:=r;cases (show T = "str" from g);show#[typeIs_str s z t,λ_ e=>nomatch e]
 |int i=>
  let⟨t,rfl⟩:=r;cases (show T = "int" from g);show#[typeIs_int s i t,λ_ e=>nomatch e]
 |ref p=>
  cases r;rcases g with⟨rfl,w,m⟩ | ⟨rfl,o,d,q,h⟩ | ⟨rfl,d⟩ | ⟨rfl,S,n,d⟩
  ·let⟨u,_,l,_⟩:=I.list m;show#[l.isList.typeIs,λa e=>?_];cases e;let⟨o,n,e,c,h,_⟩:=l;show#[o,e,h]
  ·show#[#[o,I.kIn p o d,q],λa e=>?_];cases e;show#[o,I.kIn _ o d,h]
  ·have z:∃o,s.heap.get? p=ψ o/\o.ExactDict:=by
    rcases d with⟨j,d⟩ | ⟨j,d⟩
    ·let⟨_,_,_,_,o,_,_,e,f,_⟩:=I.hok p _ d;show#[o,e,f]
    ·let⟨_,_,_,_,o,_,_,e,f,_⟩:=I.hok p _ d;show#[o,e,f]
   let⟨o,e,f⟩:=z;show#[#[o,e,f.1],λa k=>?_];cases k;show#[o,e,f.2.1]
  ·let⟨o,_,_,_,e,f,_⟩:=I.hok p _ d;show#[#[o,e,f.1],λa k=>?_];cases k;show#[o,e,f.2.1]
 |_=>show nM g
def jd(K:aL)(T:String)(r:V->θ V->Hp->VK->Prop)(d:TE):TE:=λZ H Q=>d Z H λx c=>iD K T x c/\r x [] c Q
def B3(K:aL)(T:String)(r:V->θ V->Hp->VK->Prop)(d:TE)(t:TA):TE:=λZ H Q=>d Z H λx c=>iD K T x c/\t Z c λe f=>r x e f Q
variable{o e:Expr}{es:θ Expr}{to:TE}{t:TA}{name:Str}{apos cpos:Pos}{T id:String}{r:V->θ V->Hp->VK->Prop}
def T6(g:PlainAttrs T)(slot:Slot T name id)(c:typeOf (.builtin id)=pure (.type "method_descriptor"))(i:hQ X id r)(j:PE X o to)
  (k:attributeBase o name X.env (eval o X.env)=eval o X.env:=by rfl) (l:(apos.endLine == cpos.line)=ζ:=by rfl):PE X (.Call (.Attribute o name apos) [] [] cpos) (jd X.K T r to):=by
 intro Φ s Z H Q I h;show wpAny_Call_method0_late k l (i0 (j Φ s Z H _ I h) λv m n=>?_);let⟨x,q,d,f,u,w⟩:=n;let⟨y,z⟩:=Ys d f u;show#[T,id,g,slot,c,y,z,BV rfl (PySem.evalArgs_none (i Φ m Z q x [] v [] Q d f .nil w))]
def Gv(i:PlainAttrs T)(slot:Slot T name id)(c:typeOf (.builtin id)=pure (.type "method_descriptor"))(j:hQ X id r)(k:PE X o to)(l:PA X (e::es) t)
  (m:attributeBase o name X.env (eval o X.env)=eval o X.env:=by rfl)
  (n:((backTo cpos (starEach (e::es) X.env)).all (λx=>!x.1) && (backToKw cpos (keywordEach [] X.env)).all (λx=>x.1.isSome)
   && decide ((e::es).length+([]:θ nQ).length+(if([]:θ nQ).isEmpty then 0 else 1)<30))=ζ:=by rfl)
  (q:(apos.endLine == cpos.line)=ζ:=by rfl) (u:starEach (e::es) X.env=(χ,eval e X.env)::starEach es X.env:=by rfl) (w:(backTo cpos (starEach es X.env)).any (·.1)=χ:=by rfl):
  PE X (.Call (.Attribute o name apos) (e::es) [] cpos) (B3 X.K T r to t):=by
 intro Φ s Z H Q I h;show wpAny_Call_method_late m n q rfl (i0 (k Φ s Z H _ I h) λv y z=>?_);let⟨x,A,d,f,B,C⟩:=z;let⟨D,E⟩:=Ys d f B;show#[T,id,i,slot,c,D,E,?_];have g:=l cpos Φ y Z A _ d C;rw[u] at g⊢;show BV (by show(χ || (backTo cpos (starEach es X.env)).any (·.1))=χ;rw[w] <;> rfl) (Calls.evalArgs_plain ?_);show i0 g λF G ⟨J,L,M,N,O⟩=>j Φ G Z L x J v F Q M f N O
end
def i7(X:Cx)(id:String)(r:V->θ V->Hp->VK->Prop):Prop:=
 ∀(Φ:θ (Addr×Obj))(s:aK)(Z:St)(H:Hp)(x:V)(a:θ V)(v:aF)(b:θ aF)(Q:VK),Inv X Φ Z H s->RelV x v->c9 a b->r x a H Q ->
  Δ X (call (.builtin id) (v::b)) (EP X Φ Z Q) X.xe s
def c9.one(h:c9 [x] us):∃u,us=[u]/\RelV x u:=by
 cases h with
 |cons r t=>cases t;show#[_,bg,r]
def c9.two(h:c9 [x,y] us):∃u v,us=[u,v]/\RelV x u/\RelV y v:=by
 cases h with
 |cons r t=>
  let⟨_,rfl,q⟩:=c9.one t;show#[_,_,bg,r,q]
theorem c9.zero:∀{us:θ aF},c9 [] us->us=[]
 |_,.nil=>rfl
def c9.dropLast(h:c9 xs us):c9 xs.dropLast us.dropLast:=by
 induction h with
 |nil=>show .nil
 |cons r t a=>
  cases t with
  |nil=>show .nil
  |cons q b=>show .cons r a
def Js{α:Type}(l:θ α):l.eraseIdx (l.length-1)=l.dropLast:=by
 induction l with
 |nil=>rfl
 |cons a r c=>
  cases r with
  |nil=>rfl
  |cons b r=>
   have e:(a::b::r).length-1=((b::r).length-1)+1:=by
    have d:(a::b::r).length=r.length+2:=rfl;have f:(b::r).length=r.length+1:=rfl;lia
   rw[e,List.eraseIdx_cons_succ,c]
   all_goals rfl
section
variable{X:Cx}{Φ:θ (Addr×Obj)}{σ:St}{H:Hp}{s:aK}{l b:Addr}{xs ys zs:θ V}
def Inv.lset{its its':θ aF}{n:Nat}{f:Array aF->Array aF}{t':Nat}(I:Inv X Φ σ H s)(a:H l=ψ (.lst xs))
  (e:s.heap.get? l=ψ {cls:=.type "list",data:=.seq its.toArray n}) (c:f its.toArray=its'.toArray) (d:c9 ys its') (hz:ys.length<=sizeLine):
  Inv X Φ σ (f_ H l (.lst ys)) {s with heap:=s.heap.update l (fE f),toks:=t'}:=by
 have q:=PC e f;rw[c] at q;show I.write (x:=l) (e:=l) (by rw[a];show trivial) (.inl rfl) (λi u g h=>(dU s.heap (fE f) (Ne.symm g)).trans h) #[_,q] ?_;show#[hz,its',_,d,q]
def Inv.lnew(I:Inv X Φ σ H s)(a:c9 ys its)(hz:ys.length<=sizeLine):
  Inv X Φ σ (f_ H s.z (.lst ys)) {s with heap:=s.heap.push {cls:=.type "list",data:=.seq its.toArray},toks:=t'}:=
 I.laid (λ_ _ q=>aR _ q) (aY _) #[hz,its,0,a,bT _ rfl]
def Inv.fresh(I:Inv X Φ σ H s):H s.z=ξ:=I.hok.fresh (aY _)
def Inv.lstM(I:Inv X Φ σ H s)(a:H l=ψ (.lst xs)):xs.length<=sizeLine/\∃(its:θ aF)(n:Nat),c9 xs its/\xs.length=its.length/\s.heap.get? l=ψ {cls:=.type "list",data:=.seq its.toArray n}:=by
 let⟨z,its,n,r,e⟩:=I.hok l _ a;show#[z,its,n,r,r.length,e]
def Wb(h:n<=sizeLine):nJ n=χ:=by
 unfold nJ;show decide_eq_false ν
end
def Of:V->θ V->Hp->VK->Prop:=λx b H Q=>∃l a y,x = .ref l/\b=[y]/\H l=ψ (.lst a)/\a.length<sizeLine/\Q .non (f_ H l (.lst (a++[y])))
def Au:i7 X "list.append" Of:=by
 intro Φ s Z H x g v i Q I c d h;let⟨l,j,y,rfl,rfl,b,k,q⟩:=h;cases c;let⟨u,rfl,f⟩:=d.one;let⟨z,a,n,r,m,e⟩:=I.lstM b;show xU F.slot_list_append #[_,e,bg] F.entry_list_append (F.args_list_append_2 _ _) (MO l a.toArray n u (by rw[aZ];lia)) #[e,?_];show#[.non,_,I.lset (its':=a++[u]) b e η (r.append (.cons f .nil)) ?_,bg,q];rw[bI,kE];lia
def ig:V->θ V->Hp->VK->Prop:=λx b H Q=>∃l a y,x = .ref l/\b=[]/\H l=ψ (.lst a)/\a[a.length-1]?=ψ y/\Q y (f_ H l (.lst a.dropLast))
def S2:i7 X "list.pop" ig:=by
 intro Φ s Z H x o v w Q I f g h;let⟨l,A,y,rfl,rfl,d,i,q⟩:=h;cases f;have b:=g.zero;subst b;let⟨z,a,n,r,j,e⟩:=I.lstM d;let⟨u,k,m⟩:=r.get i;have c:a.toArray[a.toArray.size-1]?=ψ u:=by
  show a.toArray[a.length-1]?=ψ u;rw[<-tW,<-j];show k
 show xU F.slot_list_pop #[_,e,bg] F.entry_list_pop (F.args_list_pop_1 _) (MeetsSeq.list_pop_last l a.toArray n u c (by rw[aZ];lia)) #[e,?_];show#[y,_,I.lset (its':=a.dropLast) d e ?_ r.dropLast ?_,m,q]
 ·show a.toArray.eraseIdxIfInBounds (a.toArray.size-1)=a.dropLast.toArray;rw[aZ,List.eraseIdxIfInBounds_toArray,Js]
 ·rw[EV];lia
end L2
namespace kh
open PySem PySem.W PySem.Calls PyProof.Rows
def TR:∀(ns:θ Int)(vs:θ aF),WellAll P h vs (ns.map WData.int)->IntsAre vs ns:=by
 intro ns
 induction ns with
 |nil=>
  intro vs w;rw[cD] at w;cases w;show .nil
 |cons n ns c=>
  intro vs w;rw[aN] at w;cases w with
  |cons a b=>
   cases a;show .cons _ _ (c _ b)
def Rq{l:OpenLaw}{n:Nat}(m:l.most=ψ n){P:Params}{h:Heap}{args:θ WData}{b:θ aF}
  (j:l.row.toRowW.claim.pre args=ζ) (g:WellAll P h b args):
  ∃a vs ns,b=[eO a]/\args=[WData.list (ns.map WData.int)]/\h.get? a=ψ {cls:=.type "list",data:=.seq vs.toArray}/\IntsAre vs ns/\ns.length<=n:=by
 have i:WShape.hasAll [] args [.list .int]=ζ:=(pre_splitW j).1;have k:l.pre.holds [] {args:=args} = ζ:=(pre_splitW j).2;let⟨d,r,rfl,o,s⟩:=hasAllW_cons i;obtain rfl:=hasAllW_nil s;let⟨B,rfl,u⟩:=hasW_list o;let⟨ns,rfl⟩:=items_int u;have c:ns.length<=n:=by
  unfold OpenLaw.pre at k;have e:(WTm.not (.lt (.lit (.int (n:Int))) (.len (.arg 0)))).holds [] {args:=[.list (ns.map .int)]} = ζ:=by
   have e:=(holds_andW k).1;rw[m] at e;show e
  have f:=condW_of e (w_not (w_lt w_lit (w_len_list (w_arg rfl))));rw[aJ] at f;show Nat.le_of_not_lt λq=>?_;have v:(n:Int)<((ns.length:Nat):Int):=ν
  first
   | (rw[decide_eq_true v] at f;show Ω f μ)
   | (simp at f;lia)
 cases g with
 |cons w y=>
  cases y;cases w with
  |list z A=>show#[_,_,ns,bg,bg,z,TR ns _ A,c]
def Qz(l:OpenLaw)(args:θ WData):l.row.toRowW.claim.post args (.bool ζ) args=ζ:=
 postW_of (r:=l.row.toRowW) (X:=(ζ == ζ))
  (show WShape.has [] (.bool ζ) .bool=ζ by first |rfl |decide |simp[WShape.has,WShape.arms,WShape.armsAll])
  (show(WTm.eq .res (.lit (.bool ζ))).value [] {args:=args,res:=ψ (.bool ζ),after:=args} = ψ (.bool (ζ == ζ)) from w_eq_bool (w_res rfl) w_lit) rfl
def attach_call{l:OpenLaw}{n:Nat}{q:cB}{b:θ Str}{j:(Str->Option aF)->Heap->Prop}{k:dD->Heap->Prop}{d:DefRec}
  (y:l.most=ψ n) (g:d.params.defaults=[])
  (call:∀(w:dD)(s₀ s₁:aK)(mg mb:Str->Option aF)(fa:Addr)(o:Obj)(pm cd doc:aF)(a:Addr)(vs:θ aF)(ns:θ Int),
   Ground q b [] j w s₀ mg mb s₁.heap->k w s₁.heap ->
   s₁.heap.get? fa=ψ o->o.data = .func (docDef d.name d.params d.body d.scope pm cd doc)->s₁.heap.CodeRec cd d.name->mg d.name=ψ (.ref fa) ->
   s₁.heap.get? a=ψ {cls:=.type "list",data:=.seq vs.toArray}->IntsAre vs ns->ns.length<=n->s₁.gens = (LE []) ->
   codeAny (model l.prog w) callerA (.call (.ref fa) #[[.ref a],[]]) (λr s'=>r = .ok (.ret (.bool ζ))/\OldK s₁.heap s'.heap/\s'.os=s₁.os/\AllBare s'.gens) s₁):
  WalkO q b j k l.row.toRowW d [] (λf vs=>PySem.call f vs):=by
 intro w s₀ s₁ mg mb G Y fa o pm cd doc z kV A B C m h D s u N E v F i O;obtain rfl:z = .none:=Dflts.none m g;obtain rfl:kV = .none:=Dflts.noKw m;let⟨a,vs,ns,rfl,rfl,H,c,e⟩:=Rq y E i;show enter_call (oM (call w s₀ s₁ mg mb fa o pm cd doc a vs ns G Y A (fd_plain B) C h H c e D) λr s' I=>?_);let⟨rfl,J,K,L⟩:=I;show#[.inl #[.bool ζ,.bool ζ,[],bg,λ_=>rfl,.bool ζ,Qz l _,λ_=>#[pN,λ_ M=>(nomatch M)]],J,K,L]
end kh
namespace L2
open PySem PySem.Spec PyProof.Rows
theorem HS:∀{vs:θ aF}{ns:θ Int},IntsAre vs ns->c9 (ns.map V.int) vs
 |_,_,.nil=>.nil
 |_,_,.cons n t h=>.cons #[t,bg] (HS h)
abbrev KOf{K:aL}{h:Heap}(_:K.In h):aL:=K
def CN(s:Stmt):Arguments:=match s with
 | .FunctionDef _ a _ _ _ _ _ _ _ _=>a
 |_=>{posonlyargs:=[],args:=[],vararg:=ξ,kwonlyargs:=[],kw_defaults:=[],kwarg:=ξ,defaults:=[]}
def pQ(s:Stmt):θ Stmt:=match s with
 | .FunctionDef _ _ b _ _ _ _ _ _ _=>b
 |_=>[]
def fU(s:Stmt):Scope:=match s with
 | .FunctionDef _ _ _ _ _ _ a _ _ _=>a
 |_=>{kind:=.function,names:=[],isGenerator:=χ,isCoroutine:=χ}
abbrev sw:B_:=λ_ _ _ _ _ _=>False
abbrev E0:XK:=λ_ _ _=>False
def aw:Jb sw X E0:=λ_ _ _ _ _ _ _ h=>h.elim
structure wz(K:aL)(x qual:Str)(st:Stmt)(f:Addr)(fd:mB):Prop where
 ex:∃(oc:aF)(od:Option Addr)(kV doc pm:aF)(an:Option Addr)(j9 ct:aF)(uq:Array (Option aF)),
  fd=nB x qual (CN st) (pQ st) (fU st) .none kV doc pm an j9 ct/\K.lookup f=ψ #[oc,od,.func fd,uq]/\nY K j9 qual=ζ
 kp:mI K (.ref f)=ζ
section
variable{P:cB}{w:dD}{K:aL}{mg:Str->Option aF}{base:Heap}
def wz.ok{x a:Str}{st:Stmt}{f:Addr}{e:mB}{N b:θ Str}{k:Nat}{c:Sp}(F:wz K x a st f e)(S:m6 N b (fU st))(len:∀vs H Q E,c vs H Q E->vs.length=b.length)
  (g:∀(j9:aF)(A:dG)(outer:θ Env)(s:aK)(H:Hp)(vs:θ V)(Q:VK)(E:XK),g_ k (A.deeper (envOfC a (fU st) s.z f j9))->c vs H Q E ->
   ∃t,ue (MV sw P w K mg base N a (fU st) f j9 A outer s H E).nox (pQ st) t/\t {nx:=λ_ H'=>Q .non H',rt:=Q} (start N vs) H):qa P w K mg base sw (k+1) f e b c:=by
 let⟨n,o,kV,i,u,v,j9,y,B,rfl,j,l⟩:=F.ex;show K4 j l S len λA outer s H vs Q E m d=>?_;let⟨t,h,q⟩:=g j9 A outer s H vs Q E m d;show#[t,h.nox,q]
def P8{x a:Str}{st:Stmt}{f:Addr}{h:aF}{i e:Option Addr}{j:Array (Option aF)}{kV b g d ct:aF}(l:K.lookup f=ψ ⟨h,i,.func (nB x a (CN st) (pQ st) (fU st) .none kV b g e d ct),j⟩)
  (c:nY K d a=ζ) (k:mI K (.ref f)=ζ):wz K x a st f (nB x a (CN st) (pQ st) (fU st) .none kV b g e d ct):=#[#[h,i,kV,b,g,e,d,ct,j,bg,l,c],k]
end
section
variable{X:Cx}
def pv(i:Nat){x:Str}{pos:Pos}(a:X.N[i]?=ψ x:=by rfl)(b:vq X.env.scope x:=by walk_at "vis")(c:(x == ("__debug__":Str))=χ:=by decide)
  (d:(x == ("__classdict__":Str))=χ:=by decide):PE X (.Name x pos) (fh i):=U1 a b c d
end
end L2
namespace L2.R2
abbrev Pt:=Int×Int
def eC(a b c:Pt):Int:=(b.1-a.1)*(c.2-a.2)-(b.2-a.2)*(c.1-a.1)
def j4(a b:Pt):Prop:=a.1<b.1\/(a.1=b.1/\a.2<b.2)
instance (a b:Pt):Decidable (j4 a b):=by unfold j4;infer_instance
def UP:¬j4 a a:=λh=>h.elim (uS _) λh=>uS _ h.2
def xG{a b c:Pt}(h:j4 a b)(k:j4 b c):j4 a c:=by
 rcases h with h | ⟨h,d⟩
 ·show iH (k.elim (Int.lt_trans h) λk=>k.1▸h)
 ·show k.elim (λk=>iH (h▸k)) λk=>gI #[h.trans k.1,Int.lt_trans d k.2]
def CP(a b:Pt):j4 a b\/a=b\/j4 b a:=by
 rcases pL a.1 b.1 with h |h |h
 ·show iH (iH h)
 ·rcases pL a.2 b.2 with k |k |k
  ·show iH (gI #[h,k])
  ·show gI (iH (nX h k))
  ·show gI (gI (gI #[h.symm,k]))
 ·show gI (gI (iH h))
def At(h:j4 a b):¬j4 b a:=λk=>UP (xG h k)
def oB(p:Pt):θ Pt->θ Pt
 |b::a::r=>if eC a b p<=0 then oB p (a::r) else b::a::r
 |s=>s
def mR(L:θ Pt):θ Pt:=L.foldl (λs p=>p::oB p s) []
def nT(s:θ Pt):Prop:=s.Pairwise λx y=>j4 y x
def um(s:θ Pt):Prop:=s.Pairwise j4
theorem SA(p:Pt):∀s,∃l,s=l++oB p s
 | []=>#[[],bg]
 | [_]=>#[[],bg]
 |b::a::r=>by
  unfold oB;split
  ·let⟨l,e⟩:=SA p (a::r);show#[b::l,by rw[bK,<-e]]
  ·show#[[],bg]
def XN(p:Pt)(s:θ Pt):(oB p s).Sublist s:=by
 let⟨l,e⟩:=SA p s
 conv=>rhs;rw[e]
 show List.sublist_append_right _ _
theorem Ob(p:Pt):∀s,s≠[]->oB p s≠[]
 | [],h=>h
 | [_],_=>by simp[oB]
 |b::a::r,_=>by
  unfold oB;split
  ·show Ob p (a::r) η
  ·simp
theorem Nk:∀(A B:θ Pt),um A->um B->(∀q,q∈A↔q∈B)->A=B
 | [],[],_,_,_=>rfl
 | [],b::B,_,_,h=>Ω ((h b).mpr η) η
 |a::A,[],_,_,h=>Ω ((h a).mp η) η
 |a::A,b::B,i,j,h=>by
  have c:=iO.mp i;have d:=iO.mp j;have e:a=b:=by
   rcases aV.mp ((h a).mp η) with e |k
   ·show e
   ·rcases aV.mp ((h b).mpr η) with e |l
    ·show e.symm
    ·show Ω (d.1 a k) (At (c.1 b l))
  subst e;congr 1;show Nk A B c.2 d.2 λq=>#[λf=>?_,λf=>?_]
  ·rcases aV.mp ((h q).mp (cR _ f)) with rfl |g
   ·show Ω (c.1 q f) UP
   ·show g
  ·rcases aV.mp ((h q).mpr (cR _ f)) with rfl |g
   ·show Ω (d.1 q f) UP
   ·show g
namespace K33
end K33
abbrev lF:=Pt×Pt
def sd(a b:Pt):θ lF:=if a.1<b.1 then[(a,b)] else if b.1<a.1 then[(b,a)] else[]
def jU:Pt->θ Pt->θ lF
 |_,[]=>[]
 |a,b::r=>sd a b++jU b r
def oD:θ Pt->θ lF
 | []=>[]
 |a::r=>jU a (r++[a])
def cov(c:Int)(s:lF):Bool:=decide (s.1.1<=c) && decide (c<s.2.1)
def AY:Pt->θ Pt->Pt
 |a,[]=>a
 |_,b::r=>AY b r
theorem HI:∀(a:Pt)(r:θ Pt)(b:Pt),AY a (r++[b])=b
 |_,[],_=>rfl
 |_,x::r,b=>HI x r b
def vK{α:Type}:θ α->θ (α×α)
 |x::y::r=>(x,y)::vK r
 |_=>[]
def o8(s:lF):Int:=s.2.1-s.1.1
def hB(B:Int)(s:lF)(t:Int):Int:=(s.1.2*o8 s+(s.2.2-s.1.2)*(t-s.1.1))*B.fdiv (o8 s)
def Zx{B w:Int}(a:0<w)(h:w∣B):∃q,B=w*q/\B.fdiv w=q:=by
 let⟨q,rfl⟩:=h;show#[q,bg,by rw[jO];show HW _ (CA a)]
def Ea(S:θ lF)(c:Int):Prop:=∀s∈S,∀a∈S,cov c s=ζ->cov c a=ζ->hB 60 s c<hB 60 a c->hB 60 s (c+1)<=hB 60 a (c+1)
def HG{c:Int}{s:lF}:cov c s=ζ↔s.1.1<=c/\c<s.2.1:=by unfold cov;simp
def X0{s:lF}(h:s∈sd a b):(s=(a,b)\/s=(b,a))/\0<o8 s:=by
 unfold sd at h;split at h
 ·rw[bR] at h;subst h;show#[.inl rfl,by unfold o8;fail;lia]
 ·split at h
  ·rw[bR] at h;subst h;show#[.inr rfl,by unfold o8;fail;lia]
  ·cases h
theorem Ii:∀{r:θ Pt}{a:Pt}{s:lF},s∈jU a r->∃p q,p∈a::r/\q∈a::r/\s∈sd p q
 | [],_,_,h=>by cases h
 |b::r,a,s,h=>by
  rw[jU] at h;rcases bQ.mp h with h |h
  ·show#[a,b,.head _,.tail _ (.head _),h]
  ·let⟨p,q,c,d,e⟩:=Ii h;show#[p,q,.tail _ c,.tail _ d,e]
def Rt{s:lF}(h:s∈oD g):(s.1∈g/\s.2∈g)/\0<o8 s:=by
 cases g with
 |nil=>cases h
 |cons a r=>
  let⟨p,q,c,d,f⟩:=Ii h;have m:∀x∈a::(r++[a]),x∈a::r:=λx b=>by
   rcases aV.mp b with rfl |b
   ·show .head _
   ·rcases bQ.mp b with b |b
    ·show .tail _ b
    ·rw[bR.mp b];show .head _
  let⟨e,k⟩:=X0 f;show#[?_,k];rcases e with rfl |rfl
  ·show#[m _ c,m _ d]
  ·show#[m _ d,m _ c]
abbrev IP:=Int×Int
def tz(B c:Int)(s:lF):IP:=(hB B s c,hB B s (c+1))
def tD(M:θ IP):Prop:=M.Pairwise λx y=>x.1<=y.1/\x.2<=y.2
def Xw(h:M.Pairwise λx y=>¬j4 y x)(u:∀x∈M,∀y∈M,x.1<y.1->x.2<=y.2):tD M:=by
 show h.imp_of_mem λ{x y} a b n=>?_;unfold j4 at n;by_cases k:x.1<y.1
 ·show#[dO k,u x a y b k]
 ·lia
def vV(p:Pt):Pt:=(-p.1,-p.2)
def Vv(p:Pt):vV (vV p)=p:=by unfold vV;simp
def Rw(a b c:Pt):eC (vV a) (vV b) (vV c)=eC a b c:=by unfold eC vV;grind
def Nt:j4 (vV a) (vV b)↔j4 b a:=or_congr JU (and_congr (Int.neg_inj.trans eq_comm) JU)
theorem Gz(p:Pt):∀s,oB (vV p) (s.map vV)=(oB p s).map vV
 | []=>rfl
 | [_]=>rfl
 |b::a::r=>by
  have c:=Gz p (a::r);erw[aN] at c⊢;rw[oB,oB,Rw];split
  ·show c
  ·rfl
theorem Ij:∀(L s:θ Pt),(L.map vV).foldl (λs p=>p::oB p s) (s.map vV)=(L.foldl (λs p=>p::oB p s) s).map vV
 | [],_=>rfl
 |p::L,s=>by
  erw[aN,oU];rw[Gz,<-aN];show Ij L (p::oB p s)
def Fx(L:θ Pt):mR (L.map vV)=(mR L).map vV:=Ij L []
def Ju(h:nT L):um (L.map vV):=by
 unfold um;rw[gG];show h.imp λk=>Nt.mpr k
def wF(L:θ Pt):θ Pt:=(mR L).reverse.dropLast
def Jc(L:θ Pt):Prop:=L.Pairwise λx y=>¬j4 y x
theorem Ax(p:Pt):∀s,oB p (oB p s)=oB p s
 | []=>rfl
 | [_]=>rfl
 |b::a::r=>by
  by_cases h:eC a b p<=0
  ·rw[oB,υ h];show Ax p (a::r)
  ·have e:oB p (b::a::r)=b::a::r:=(by rw[oB,ω h]);rw[e,e]
def Sa(a p:Pt):eC a p p<=0:=by
 unfold eC;have:(p.1-a.1)*(p.2-a.2)-(p.2-a.2)*(p.1-a.1)=0:=δ
 lia
def YG(a p:Pt):eC a a p<=0:=by
 unfold eC;have:(a.1-a.1)*(p.2-a.2)-(a.2-a.2)*(p.1-a.1)=0:=δ
 lia
def uM(L:θ Pt)(p:Pt):mR (L++[p])=p::oB p (mR L):=by unfold mR;rw[yP];rfl
def Vb:∀(L:θ Pt),(mR L).length<=L.length:=by
 have sub:∀(L s:θ Pt),(L.foldl (λs p=>p::oB p s) s).length<=L.length+s.length:=by
  intro L
  induction L with
  |nil=>intro s;simp
  |cons y L a=>
   intro s;have b:=a (y::oB y s);have:=(XN y s).length_le;erw[oU,aT] at b⊢;lia
 intro L;simpa [mR] using sub L []
structure eN(L D:List Pt):Prop where
 inc:um D
 mem:∀z,z∈D↔z∈L
 many:2<=D.length->mR L=mR D
 one:∀c,D=[c]->mR L=[c]\/mR L=[c,c]
 none:D=[]->mR L=[]
def F5{α:Type}{P:θ α->Prop}(h0:P [])(a:∀l x,P l->P (l++[x])):∀l,P l:=by
 intro l;have:∀m:θ α,P m.reverse:=by
  intro m
  induction m with
  |nil=>show h0
  |cons x m b=>rw[pP];show a _ _ b
 have:=this l.reverse
 rwa [List.reverse_reverse] at this
def Uy:∀(L:θ Pt),Jc L->∃D,eN L D:=by
 show F5 ?_ ?_
 ·intro _;show#[[],pN,λz=>Iff.rfl,λh=>Ω h η,λc h=>by simp at h,λ_=>rfl]
 ·intro L p B o;have A:=jG.mp o;let⟨D,H⟩:=B A.1;have q:∀z∈L,¬j4 p z:=λz i=>A.2.2 z i p η;rcases pE D with k | ⟨b,c,k⟩
  ·-- nothing so far
   have C:L=[]:=by
    apply List.eq_nil_iff_forall_not_mem.mpr;intro z i;have:=(H.mem z).mpr i;rw[k] at this;cases this
   subst C;show#[[p],by simp[um],λz=>by simp,λh=>Ω h η,λc h=>?_,λh=>by simp at h];simp at h;subst h;show iH rfl
  ·have k:D=b++[c]:=(~~~k);subst k;have l:c∈L:=(H.mem c).mp η;have E:∀z∈b++[c],z=c\/j4 z c:=by
    intro z i;rcases bQ.mp i with h |h
    ·show gI ((jG.mp H.inc).2.2 z h c η)
    ·show iH (~~~h)
   by_cases m:p=c
   ·subst m;show#[b++[p],H.inc,λz=>?_,λj=>?_,λc s=>?_,λh=>by simp at h]
    ·rw[H.mem z];erw[bQ,bR];show#[iH,λh=>h.elim id λe=>e▸l]
    ·rw[uM,H.many j,uM];have F:mR b≠[]:=by
      rcases pE b with h | ⟨v,d,h⟩
      ·rw[h] at j;simp at j
      ·have:b=v++[d]:=(~~~h);rw[this,uM];simp
     have f:=Ob p _ F;generalize G:oB p (mR b)=u at f;cases u with
     |nil=>show Ω rfl f
     |cons a r=>
      rw[oB,υ (Sa a p)];congr 1;rw[<-G,Ax]
    ·have y:b=[]/\p=c:=by
      cases b with
      |nil=>simp at s;show#[bg,s]
      |cons x b=>simp at s
     let⟨rfl,rfl⟩:=y;rw[uM];rcases H.one p rfl with e |e
     ·rw[e];show gI rfl
     ·rw[e,oB,υ (YG p p)];show gI rfl
   ·have g:j4 c p:=by
     rcases CP c p with h |h |h
     ·show h
     ·show Ω h.symm m
     ·show Ω h (q c l)
    have n:um ((b++[c])++[p]):=by
     show jG.mpr #[H.inc,η,λz i w o=>?_];have:w=p:=(~~~o);subst this;rcases E z i with rfl |h
     ·show g
     ·show xG h g
    show#[(b++[c])++[p],n,λz=>?_,λ_=>?_,λd I=>by have:=Ψ jE I;simp at this,λh=>by simp at h]
    ·rw[bQ,H.mem z,bQ]
    ·rw[uM,uM (b++[c])];by_cases j:2<=(b++[c]).length
     ·rw[H.many j]
     ·have:b=[]:=by
       cases b with
       |nil=>rfl
       |cons x b=>simp at j
      subst this;rcases H.one c rfl with e |e
      ·rw[e];rfl
      ·rw[e,oB,υ (YG c p)];rfl
def Fl{L D:θ Pt}(b:Jc L)(d:um D)(f:∀z,z∈D↔z∈L):(2<=D.length->mR L=mR D)/\(D.length<=1->(mR L).length<=2):=by
 let⟨a,H⟩:=Uy L b;have:a=D:=Nk _ _ H.inc d λq=>(H.mem q).trans (f q).symm;subst this;show#[H.many,λh=>?_]
 match a,H,h with
 | [],H,_=>rw[H.none rfl];simp
 | [c],H,_=>rcases H.one c rfl with e |e <;> rw[e] <;> simp
 |_::_::_,_,h=>simp at h
def yV(L:θ Pt):θ Pt:=wF L++wF L.reverse
def Fm{L D:θ Pt}(g:Jc L)(i:um D)(d:∀z,z∈D↔z∈L):(2<=D.length->yV L=yV D)/\(D.length<=1->(yV L).length<3):=by
 have a:=Fl g i d;have j:Jc (L.reverse.map vV):=by
  unfold Jc;rw[gG,EF];show g.imp λh k=>h (Nt.mp k)
 have l:um (D.reverse.map vV):=Ju (EF.mpr i);have b:=Fl j l λz=>by erw[bD,uJ];constructor <;> (rintro⟨w,c,f⟩;show#[w,by first |show(d w).mp c |show(d w).mpr c,f])
 rw[Fx,Fx] at b;erw[aJ,lE] at b;have inj:∀(X Y:θ Pt),X.map vV=Y.map vV->X=Y:=by
  intro X Y h;have:=Ψ (pY vV) h;rw[cO,cO] at this;have e:vV ∘ vV=id:=by funext p;show Vv p
  rwa [e,vA,vA] at this
 constructor
 ·intro h;unfold yV wF;rw[a.1 h,inj _ _ (b.1 h)]
 ·intro h;have c:=a.2 h;have f:=b.2 h;unfold yV wF;erw[bI,EV,lE];show sB (Nat.add_le_add (FA c 1) (FA f 1)) μ
def rf(L:θ Pt)(a b:Pt):Prop:=∃l r,L=l++a::b::r
def rf.cons(x:Pt)(h:rf L a b):rf (x::L) a b:=by
 let⟨l,r,rfl⟩:=h;show#[x::l,r,bg]
def rf.left(B:θ Pt)(h:rf A a b):rf (A++B) a b:=by
 let⟨l,r,rfl⟩:=h;show#[l,r++B,η]
def rf.right(A:θ Pt)(h:rf B a b):rf (A++B) a b:=by
 let⟨l,r,rfl⟩:=h;show#[A++l,r,η]
theorem XA:∀(A B:θ Pt)(a b:Pt),rf (A++B) a b->rf A a b\/((∃A',A=A'++[a])/\∃B',B=b::B')\/rf B a b
 | [],B,a,b,h=>gI (gI h)
 | [x],B,a,b,⟨l,r,e⟩=>by
  cases l with
  |nil=>
   simp at e;let⟨rfl,e⟩:=e;show gI (iH #[#[[],bg],r,e])
  |cons y l=>simp at e;show gI (gI #[l,r,e.2])
 |x::y::A,B,a,b,⟨l,r,e⟩=>by
  cases l with
  |nil=>
   simp at e;let⟨rfl,rfl,e⟩:=e;show iH #[[],A,bg]
  |cons u l=>
   simp at e;let⟨rfl,e⟩:=e;rcases XA (y::A) B a b ⟨l,r,~~~e⟩ with h | ⟨⟨A',c⟩,d⟩ |h
   ·show iH (h.cons x)
   ·show gI (iH #[#[x::A',by rw[c];rfl],d])
   ·show gI (gI h)
def C2{f:Pt->Pt}(h:rf (L.map f) a b):∃x y,rf L x y/\a=f x/\b=f y:=by
 let⟨l,r,e⟩:=h;let⟨c,j,rfl,rfl,d⟩:=CC.mp e;let⟨x,k,rfl,rfl,g⟩:=pZ.mp d;let⟨y,i,rfl,rfl,m⟩:=pZ.mp g;show#[x,y,#[c,i,bg],bg,bg]
def rf.mem(h:rf L a b):a∈L/\b∈L:=by
 let⟨l,r,rfl⟩:=h;simp
def nI(cs:θ Pt)(a b:Pt):Prop:=rf (cs++cs.take 1) a b
structure ou(cs:List Pt):Prop where
 len:3<=cs.length
 nodup:cs.Nodup
 strict:∀a b,nI cs a b->∀q∈cs,q≠a->q≠b->0<eC a b q
def X9(a b:Pt):eC a b a=0:=by unfold eC;grind
def Y0(a b:Pt):eC a b b=0:=by unfold eC;grind
def ou.side(h:ou cs)(e:nI cs a b)(f:q∈cs):0<=eC a b q:=by
 by_cases c:q=a
 ·subst c;rw[X9];decide
 ·by_cases d:q=b
  ·subst d;rw[Y0];decide
  ·show dO (h.strict a b e q f c d)
def ou.map(h:ou cs){f:Pt->Pt}(i:0<k)(j:∀a b c,eC (f a) (f b) (f c)=k*eC a b c)(inj:∀a b,f a=f b->a=b):ou (cs.map f):=by
 show#[~~~h.len,?_,λa b d q l m n=>?_]
 ·show sT f (λa b o e=>o (inj a b e)) h.nodup
 ·unfold nI at d;rw[<-uT,<-aX] at d;let⟨x,y,g,rfl,rfl⟩:=C2 d;let⟨p,s,rfl⟩:=bD.mp l;rw[j];show aW i (h.strict x y g p s (λe=>m (by rw[e])) λe=>n (by rw[e]))
def Ey(h:nI (Y++X) a b):nI (X++Y) a b:=by
 unfold nI at *;cases Y with
 |nil=>simpa using h
 |cons y Y=>
  cases X with
  |nil=>simpa using h
  |cons x X=>
   erw[bK,List.take_succ_cons,mG] at h⊢;have e:y::(Y++x::X++[y])=(y::Y)++((x::X)++[y]):=η;rw[e] at h;have c:∀{a b},rf ((x::X)++[y]) a b->rf (x::(X++y::Y++[x])) a b:=by
    intro a b h;have:=h.left (Y++[x]);simpa using this
   have d:∀{a b},rf ((y::Y)++[x]) a b->rf (x::(X++y::Y++[x])) a b:=by
    intro a b h;have:=h.right (x::X);simpa using this
   rcases XA _ _ a b h with h | ⟨⟨g,i⟩,j,f⟩ |h
   ·show d (h.left _)
   ·simp at f;show d ?_;rw[i,<-f.1];show#[g,[],η]
   ·show c h
def ou.swap(h:ou (X++Y)):ou (Y++X):=by
 show#[by have:=h.len;simp at this⊢;lia,?_,λa b d q c=>h.strict a b (Ey d) q (by simp at c⊢;show c.symm)];have:=h.nodup;rw[pO] at this⊢;show#[this.2.1,this.1,λa f b g e=>this.2.2 b g a f e.symm]
def nI.mem(h:nI cs a b):a∈cs/\b∈cs:=by
 have k:∀x,x∈cs++cs.take 1->x∈cs:=λx c=>(bQ.mp c).elim id qA;show#[k a (rf.mem h).1,k b (rf.mem h).2]
theorem len_sub{α:Type}[DecidableEq α]:∀(l m:θ α),l.Nodup->(∀x∈l,x∈m)->l.length<=m.length
 | [],_,_,_=>dZ _
 |x::l,m,f,a=>by
  have b:=a x (.head _);have c:=jY.mp f;have:=len_sub l (m.erase x) c.2 λy d=>(vC λ(e:y=x)=>c.1 (e▸d)).mpr (a y (.tail _ d));rw[rG b] at this;show dY (AO this) (MJ (AQ (sV b)))
def ou.third(c:ou cs)(u v:Pt):∃w∈cs,w≠u/\w≠v:=by
 apply mT;intro d;have:=len_sub cs [u,v] c.nodup λw e=>by
  by_cases a:w=u
  ·show a▸.head _
  ·by_cases b:w=v
   ·show b▸.tail _ (.head _)
   ·show Ω #[w,e,a,b] d
 show Ω (dY c.len this) (show ¬ 3<=2 by decide)
def ou.ne(c:ou cs)(h:nI cs u v):u≠v:=by
 let⟨w,a,b,d⟩:=c.third u v;rintro rfl;have:=c.strict u u h w a b d;rw[show eC u u w=0 by unfold eC;grind] at this;show uS _ this
abbrev H3:=Int×Int×Int
def KP(p q r:H3):Int:=p.1*(q.2.1*r.2.2-q.2.2*r.2.1)-p.2.1*(q.1*r.2.2-q.2.2*r.1)+p.2.2*(q.1*r.2.1-q.2.1*r.1)
abbrev qt(z:Pt):H3:=(z.1,z.2,1)
abbrev fv(α:Int)(p:H3)(β:Int)(q:H3):H3:=(α*p.1+β*q.1,α*p.2.1+β*q.2.1,α*p.2.2+β*q.2.2)
structure wo where
 a:Int
 b:Int
 k:Int
section
variable(L:wo)
def n_(z:Pt):Int:=L.a*z.1+L.b*z.2-L.k
def ju(u v:Pt):H3:=fv (n_ L v).natAbs (qt u) (n_ L u).natAbs (qt v)
def py(u v:Pt):θ H3:=(if n_ L u<=0 then[qt u] else[])++(if n_ L u*n_ L v<0 then[ju L u v] else[])
def Pl:θ Pt->θ H3
 | []=>[]
 | [_]=>[]
 |u::v::r=>py L u v++Pl (v::r)
end
def Ql(c:ou cs){t u v:Pt}(b:nI cs t u)(a:nI cs u v)(f:t≠v)(h:n_ L t<=n_ L u)(i:n_ L v<=n_ L u):∀w∈cs,n_ L w<=n_ L u:=by
 intro w d;have D:0<eC t u v:=c.strict t u b v a.mem.2 (Ne.symm f) (Ne.symm (c.ne a));have C:=c.side b d;have A:=c.side a d;have g:eC t u v*n_ L w=eC t u v*n_ L u-eC u v w*(n_ L u-n_ L t)-eC t u w*(n_ L u-n_ L v):=by
  unfold eC n_;grind
 apply CB.mp;intro j;have k:0<eC t u v*(n_ L w-n_ L u):=aW D ν;have l:=iJ A (show 0<=n_ L u-n_ L t by lia);have m:=iJ C (show 0<=n_ L u-n_ L v by lia);have e:eC t u v*(n_ L w-n_ L u)=eC t u v*n_ L w-eC t u v*n_ L u:=δ
 lia
def Qk(c:ou cs){t u v:Pt}(d:nI cs t u)(e:nI cs u v)(f:t≠v)(h:n_ L u<=n_ L t)(i:n_ L u<=n_ L v):∀w∈cs,n_ L u<=n_ L w:=by
 intro w g;have:=Ql (L:=#[-L.a,-L.b,-L.k]) c d e f (by unfold n_ at *;dsimp only at *;grind) (by unfold n_ at *;dsimp only at *;grind) w g;unfold n_ at *;dsimp only at *;grind
def FN{α:Type}(a:α):θ α->α
 | []=>a
 |b::r=>FN b r
theorem yU{α:Type}:∀(a:α)(X:θ α)(b:α),FN a (X++[b])=b
 |_,[],_=>rfl
 |_,x::X,b=>yU x X b
def qj{α:Type}(f:α->α->Int):α->θ α->Int
 |_,[]=>0
 |a,b::l=>f a b+qj f b l
theorem yA{α:Type}(f:α->α->Int):∀(a:α)(X Y:θ α),qj f a (X++Y)=qj f a X+qj f (FN a X) Y
 |a,[],Y=>by simp[qj,FN]
 |a,b::X,Y=>by
  show f a b+qj f b (X++Y)=f a b+qj f b X+qj f (FN b X) Y;rw[yA f b X Y];lia
def vE{α:Type}(f:α->α->Int):θ α->Int
 | []=>0
 |z::T=>qj f z (T++[z])
theorem As{α:Type}:∀(h:α)(T X:θ α)(l:α),h::T=X++[l]->FN h T=l
 |h,[],X,l,e=>by
  cases X with
  |nil=>simp at e;show e
  |cons x X=>simp at e
 |h,y::T,X,l,e=>by
  cases X with
  |nil=>simp at e
  |cons x X=>simp at e;show As y T X l (~~~e.2)
def Pq{α:Type}(f:α->α->Int){P X:θ α}{l:α}(e:P=X++[l]):qj f l P=vE f P:=by
 cases P with
 |nil=>simp at e
 |cons h a=>
  show f l h+qj f h a=qj f h (a++[h]);rw[yA,As h a X l e];erw[qj];lia
def Tn{α:Type}(f:α->α->Int)(X Y:θ α):vE f (X++Y)=vE f (Y++X):=by
 cases X with
 |nil=>simp
 |cons x X=>
  cases Y with
  |nil=>simp
  |cons y Y=>
   show qj f x ((X++y::Y)++[x])=qj f y ((Y++x::X)++[y]);rw[show(X++y::Y)++[x]=(X++[y])++(Y++[x]) by simp,show(Y++x::X)++[y]=(Y++[x])++(X++[y]) by simp,yA,yA f y,yU,yU];lia
def dl(d:Pt->Pt->Int):Pt->Pt->θ Pt->Int
 |u,w,[]=>d u w
 |_,w,v::W=>dl d w v W
section
open PySem PySem.Spec PyProof.Rows L2
inductive D where
 |non |bl (b:Bool) |int (i:Int) |str (x:Str) |tup (xs:List D) |lst (xs:List D) |dct (ks:List Int) (xs:List D) |dtt (ks:List (List Int)) (xs:List D)
def vf(K:aL)(H:Hp)(a:Addr)(vs:θ V):Prop:=
 (∃o,H a=ψ (.frz o (.lst vs))) \/
  ∃(o:Obj)(b:Array aF)(n:Nat),K.lookup a=ψ o/\o.cls = .type "list"/\o.dict=ξ/\o.data = .seq b n/\b.size<=sizeLine/\c9 vs b.toList
theorem vf.sq{K:aL}{H:Hp}{a:Addr}{vs:θ V}:vf K H a vs->om K H a vs
 | .inl ⟨o,h⟩=>.inl (.inr #[o,h])
 | .inr h=>.inr h
def xX(a:Nat):Str:=if a=28 then "rising.<locals>.<lambda>" else if a=59 then "framed_rising.<locals>.<lambda>" else "laid_triangles.<locals>.<lambda>"
abbrev LX(c:Addr)(q:Str):HO:=.ext λh=>∃a b t,h.get? c=ψ a/\a.data = .fields b/\b[1]?=ψ (.str q t)
structure t7(H:Hp)(ps:Array aF):Prop where
 ok:TriplesOk ps.toList
 code:∀pos cv,codeAmong pos ps.toList=ψ cv->∃c,cv = .ref c/\H c=ψ (LX c (xX pos.col))
def tj(H H':Hp):Prop:=∀b c,H b=ψ (.tbl c)->∃a,H' b=ψ (.tbl (c++a))/\(t7 H c->t7 H' (c++a))
def tj.trans(a:tj H H1)(b:tj H1 H2):tj H H2:=λc d h=>by
 let⟨e,f,g⟩:=a c d h;let⟨i,j,k⟩:=b c _ f;show#[e++i,by rw[j,xH],λx=>by rw[<-xH];show k (g x)]
def t7.mono(x:t7 H ps)(k:∀b a,H b=ψ (.ext a)->H' b=ψ (.ext a)):t7 H' ps:=#[x.ok,λd f e=>let ⟨c,e1,e2⟩:=x.code d f e;#[c,e1,k _ _ e2]]
def tj.of(k:∀b a,H b=ψ (.ext a)->H' b=ψ (.ext a))(h:∀b ps,H b=ψ (.tbl ps)->H' b=ψ (.tbl ps)):tj H H':=λb ps e=>#[(LE []),by rw[rX];show h b ps e,λx=>by rw[rX];show x.mono k]
def NT:HO->Prop
 | .tbl _=>False
 |_=>True
structure c7(H H':Hp):Prop where
 tups:∀b xs,H b=ψ (.tup xs)->H' b=ψ (.tup xs)
 frzs:∀b o u,H b=ψ (.frz o u)->H' b=ψ (.frz o u)
 exts:∀b φ,H b=ψ (.ext φ)->H' b=ψ (.ext φ)
 xds:∀b fs,H b=ψ (.xd fs)->H' b=ψ (.xd fs)
 tbls:tj H H'
def c7.refl(H:Hp):c7 H H:=#[λ_ _ h=>h,λ_ _ _ h=>h,λ_ _ h=>h,λ_ _ h=>h,.of (λ_ _ h=>h) λ_ _ h=>h]
def c7.trans(a:c7 H H1)(b:c7 H1 H2):c7 H H2:=
 #[λc e h=>b.tups c e (a.tups c e h),λc o u h=>b.frzs c o u (a.frzs c o u h),λc d h=>b.exts c d (a.exts c d h),λc fs h=>b.xds c fs (a.xds c fs h),a.tbls.trans b.tbls]
structure a_(H H':Hp):Prop where
 get:∀b o,H b=ψ o->NT o->H' b=ψ o
 tbls:tj H H'
def a_.fn(f:∀b o,H b=ψ o->H' b=ψ o):a_ H H':=#[λb o h _=>f b o h,.of (λb c h=>f b _ h) λb a h=>f b _ h]
def a_.refl(H:Hp):a_ H H:=.fn λ_ _ h=>h
def a_.trans(a:a_ H H1)(b:a_ H1 H2):a_ H H2:=#[λc o h n=>b.get c o (a.get c o h n) n,a.tbls.trans b.tbls]
def a_.free(e:a_ H H')(h:H' l=Option.none):H l=Option.none:=by
 cases q:H l with
 |none=>rfl
 |some o=>
  cases o with
  |tbl a=>let⟨m,b,_⟩:=e.tbls l a q;rw[b] at h;cases h
  |_=>rw[e.get l _ q trivial] at h;cases h
def a_.tbl(s:a_ H H')(h:H b=ψ (.tbl ps)):∃more,H' b=ψ (.tbl (ps++more)):=let ⟨m,e,_⟩:=s.tbls b ps h;#[m,e]
def c7.of(s:a_ H H'):c7 H H':=#[λb a h=>s.get b _ h trivial,λb o u h=>s.get b _ h trivial,λb d h=>s.get b _ h trivial,λb fs h=>s.get b _ h trivial,s.tbls]
def c7.ofF(f:∀b o,H b=ψ o->H' b=ψ o):c7 H H':=.of (.fn f)
def wY:θ Str:=["rising","framed_rising","laid_triangles"]
def o5(K:aL)(H:Hp):Prop:=∀x c P,x∈wY->fN K x=ψ (c,P)->∃a,H P=ψ (.tbl a)/\t7 H a
def o5.tabK{K:aL}{H H':Hp}(t:o5 K H)(k:tj H H'):o5 K H':=λx c P m e=>by
 let⟨b,d,f⟩:=t x c P m e;let⟨a,g,h⟩:=k P b d;show#[_,g,h f]
def c7.chg1(h:H p=ψ u)(n:(∃xs,u = .lst xs)\/(∃kvs,u = .dK kvs)\/∃kvs,u = .dT kvs):c7 H (f_ H p u'):=by
 have ne:∀b o,H b=ψ o->(∀xs,o≠.lst xs)->(∀kvs,o≠.dK kvs)->(∀kvs,o≠.dT kvs)->f_ H p u' b=ψ o:=λb o q a c d=>by
  rw[cY]
  ·show q
  ·rintro rfl;rw[h] at q;cases q;rcases n with⟨xs,rfl⟩ | ⟨kvs,rfl⟩ | ⟨kvs,rfl⟩
   ·show a _ rfl
   ·show c _ rfl
   ·show d _ rfl
 show#[λb _ q=>ne b _ q (λ_ z=>by cases z) (λ_ z=>by cases z) (λ_ z=>by cases z),λb _ _ q=>ne b _ q (λ_ z=>by cases z) (λ_ z=>by cases z) (λ_ z=>by cases z),λb _ q=>ne b _ q (λ_ z=>by cases z) (λ_ z=>by cases z) (λ_ z=>by cases z),λb _ q=>ne b _ q (λ_ z=>by cases z) (λ_ z=>by cases z) (λ_ z=>by cases z),
  .of (λb _ q=>ne b _ q (λ_ z=>by cases z) (λ_ z=>by cases z) (λ_ z=>by cases z)) λb _ q=>ne b _ q (λ_ z=>by cases z) (λ_ z=>by cases z) (λ_ z=>by cases z)]
def DN(ks:θ Int)(vs:θ V):θ (jl×V):=iF (λk v=>(eI k,v)) ks vs
def hZ(ks:θ (θ Int))(vs:θ V):θ (θ jl×V):=iF (λk v=>(k.map eI,v)) ks vs
mutual
inductive je(K:aL)(H:Hp):D->V->Prop
 |non:je K H .non .non
 |bl (b:Bool):je K H (.bl b) (.bl b)
 |int (i:Int):je K H (.int i) (.int i)
 |str (x:Str):je K H (.str x) (.str x)
 |tup {a:Addr} {vs:List V} {ds:List D} (h:H a=ψ (.tup vs)) (r:cn K H ds vs):je K H (.tup ds) (.ref a)
 |lst {a:Addr} {vs:List V} {ds:List D} (h:vf K H a vs) (r:cn K H ds vs):je K H (.lst ds) (.ref a)
 |dct {a:Addr} {vs:List V} {ds:List D} {ks:List Int} {o:Obj} (h:H a=ψ (.frz o (.dK (DN ks vs)))) (hl:ks.length=vs.length) (r:cn K H ds vs):je K H (.dct ks ds) (.ref a)
 |dtt {a:Addr} {vs:List V} {ds:List D} {ks:List (List Int)} {o:Obj} (h:H a=ψ (.frz o (.dT (hZ ks vs)))) (hl:ks.length=vs.length) (r:cn K H ds vs):je K H (.dtt ks ds) (.ref a)
inductive cn(K:aL)(H:Hp):List D->List V->Prop
 |nil:cn K H [] []
 |cons {d:D} {v:V} {ds:List D} {vs:List V} (h:je K H d v) (t:cn K H ds vs):cn K H (d::ds) (v::vs)
end
section
variable{K:aL}{H H':Hp}
def vf.keep{a:Addr}{vs:θ V}(k:c7 H H')(h:vf K H a vs):vf K H' a vs:=by
 rcases h with⟨o,h⟩ |h
 ·show .inl #[o,k.frzs _ _ _ h]
 ·show .inr h
def cn.ind{P:θ D->θ V->Prop}(n:P [] [])(c:∀{d v a vs},je K H d v->cn K H a vs->P a vs->P (d::a) (v::vs)){a:θ D}{vs:θ V}(r:cn K H a vs):P a vs:=
 @cn.rec K H (λ_ _ _=>True) (λa vs _=>P a vs) #[] (λ_=>#[]) (λ_=>#[]) (λ_=>#[]) (λ_ _ _=>#[]) (λ_ _ _=>#[]) (λ_ _ _ _=>#[]) (λ_ _ _ _=>#[]) n (λh t _ i=>c h t i) _ _ r
def je.keep(k:c7 H H'){d:D}{v:V}(r:je K H d v):je K H' d v:=
 @je.rec K H (λd v _=>je K H' d v) (λa b _=>cn K H' a b) .non .bl .int .str (λh _ i=>.tup (k.tups _ _ h) i) (λh _ i=>.lst (vf.keep k h) i) (λh l _ i=>.dct (k.frzs _ _ _ h) l i)
  (λh l _ i=>.dtt (k.frzs _ _ _ h) l i) .nil (λ_ _ h t=>.cons h t) _ _ r
def cn.keep(k:c7 H H'){a:θ D}{vs:θ V}(r:cn K H a vs):cn K H' a vs:=r.ind .nil λh _ t=>.cons (h.keep k) t
def cn.length{a:θ D}{vs:θ V}(r:cn K H a vs):a.length=vs.length:=r.ind (P:=λa vs=>a.length=vs.length) rfl λ_ _ h=>Ψ (· + 1) h
def cn.get{a:θ D}{vs:θ V}{i:Nat}{d:D}(r:cn K H a vs):a[i]?=ψ d->∃v,vs[i]?=ψ v/\je K H d v:=
 r.ind (P:=λa vs=>∀i,a[i]?=ψ d->∃v,vs[i]?=ψ v/\je K H d v) (λ_ e=>by cases e) (λh _ t i e=>by
  cases i with
  |zero=>cases e;show#[_,bg,h]
  |succ i=>show t i e) i
def cn.append{a es:θ D}{vs b:θ V}(r:cn K H a vs)(s:cn K H es b):cn K H (a++es) (vs++b):=r.ind (P:=λa vs=>cn K H (a++es) (vs++b)) s λh _ t=>.cons h t
def cn.take{a:θ D}{vs:θ V}(n:Nat)(r:cn K H a vs):cn K H (a.take n) (vs.take n):=
 r.ind (P:=λa vs=>∀n,cn K H (a.take n) (vs.take n)) (λn=>by cases n <;> show .nil) (λh _ t n=>by
  cases n with
  |zero=>show .nil
  |succ n=>show .cons h (t n)) n
def cn.drop{a:θ D}{vs:θ V}(n:Nat)(r:cn K H a vs):cn K H (a.drop n) (vs.drop n):=
 r.ind (P:=λa vs=>∀n,cn K H (a.drop n) (vs.drop n)) (λn=>by cases n <;> show .nil) (λh q t n=>by
  cases n with
  |zero=>show .cons h q
  |succ n=>show t n) n
def cn.set{d:D}{v:V}(r:je K H d v){a:θ D}{vs:θ V}(i:Nat)(q:cn K H a vs):cn K H (a.set i d) (vs.set i v):=
 q.ind (P:=λa vs=>∀i,cn K H (a.set i d) (vs.set i v)) (λ_=>.nil) (λh q t i=>by
  cases i with
  |zero=>show .cons r q
  |succ i=>show .cons h (t i)) i
def cn.dropLast{a:θ D}:∀{vs:θ V},cn K H a vs->cn K H a.dropLast vs.dropLast:=by
 induction a with
 |nil=>intro vs r;cases r;show .nil
 |cons d a b=>
  intro vs r;cases r with
  |cons r t=>
   cases t with
   |nil=>show .nil
   |cons c t=>show .cons r (b (.cons c t))
def cn.reverse{a:θ D}{vs:θ V}(r:cn K H a vs):cn K H a.reverse vs.reverse:=r.ind (P:=λa vs=>cn K H a.reverse vs.reverse) .nil λh _ t=>by
 erw[pP];show t.append (.cons h .nil)
def je.int_inv{i:Int}{v:V}(h:je K H (.int i) v):v = .int i:=by cases h;rfl
def je.bl_inv{b:Bool}{v:V}(h:je K H (.bl b) v):v = .bl b:=by cases h;rfl
theorem cn.ints:∀{ns:θ Int},cn K H (ns.map D.int) (ns.map V.int)
 | []=>.nil
 |_::_=>.cons (.int _) cn.ints
theorem cn.ints_inv:∀{ns:θ Int}{vs:θ V},cn K H (ns.map D.int) vs->vs=ns.map V.int
 | [],_,h=>by cases h;rfl
 |n::ns,_,h=>by
  cases h with
  |cons h t=>rw[h.int_inv,cn.ints_inv t];rfl
end
def j2(K:aL)(H:Hp)(d:D)(v:V):Prop:=
 je K H d v\/∃b a c,d = .lst b/\v = .ref a/\H a=ψ (.lst c)/\cn K H b c
def j2.same{K:aL}{H H':Hp}{d:D}{v:V}(s:a_ H H')(h:j2 K H d v):j2 K H' d v:=by
 rcases h with h | ⟨b,a,c,e,f,g,r⟩
 ·show .inl (h.keep (.of s))
 ·show .inr #[b,a,c,e,f,s.get _ _ g trivial,r.keep (.of s)]
def j2.lst{K:aL}{H:Hp}{b:θ D}{v:V}(h:j2 K H (.lst b) v):∃a vs,v = .ref a/\om K H a vs/\cn K H b vs:=by
 rcases h with h | ⟨c,a,vs,d,e,f,r⟩
 ·cases h with
  |lst h r=>show#[_,_,bg,h.sq,r]
 ·cases d;show#[a,vs,e,om.of f,r]
def j2.tup{K:aL}{H:Hp}{b:θ D}{v:V}(h:j2 K H (.tup b) v):∃a vs,v = .ref a/\H a=ψ (.tup vs)/\cn K H b vs:=by
 rcases h with h | ⟨c,a,vs,d,e,f,r⟩
 ·cases h with
  |tup h r=>show#[_,_,bg,h,r]
 ·cases d
inductive S where
 |d (x:D) |own (xs:List D) |dcl (kvs:List (Int×List D)) |box (t:Bool) (qk:List (List D)) |exc (C:Addr) (y:Str) (c:Int) |dt (ks:List (List Int)) (xs:List D) |raw (v:V) |mem (b:Bool) (x:D) (R:aL->Hp->Hp->V->Prop)
def S.val:S->D
 | .d x=>x
 | .own a=>.lst a
 | .dcl _=>.non
 | .box _ _=>.non
 | .exc _ _ _=>.non
 | .dt _ _=>.non
 | .raw _=>.non
 | .mem _ x _=>x
abbrev En:=θ (Option S)
inductive pj(K:aL)(H₀ H:Hp):List (Int×List D)->List (jl×V)->List Addr->Prop
 |nil:pj K H₀ H [] [] []
 |cons {k:Int} {b:Addr} {vs:List V} {ds:List D} {kvs:List (Int×List D)} {h9:List (jl×V)} {as:List Addr} (h:H b=ψ (.lst vs)) (h0:H₀ b=ξ) (r:cn K H ds vs) (n:b∉as) (t:pj K H₀ H kvs h9 as):
   pj K H₀ H ((k,ds)::kvs) ((eI k,.ref b)::h9) (b::as)
abbrev Yu(C e b:Addr):HO:=.ext λh=>∃a c,h.get? e=ψ a/\a.cls = .ref C/\a.data = .fields c/\a.dict=ψ b
def qq(K:aL)(H₀ H:Hp):S->V->Prop
 | .exc C y c,v=>∃e l,v = .ref e/\H e=ψ (Yu C e l)/\H l=ψ (.xd [(y,.int c)])
 | .d x,v=>je K H x v
 | .raw u,v=>v=u
 | .mem b x R,v=>(b=ζ->je K H x v)/\∀m,c7 H m->R K H₀ m v
 | .dt n i,v=>∃a g,v = .ref a/\H a=ψ (.dT (hZ n g))/\H₀ a=ξ/\n.length=g.length/\cn K H i g
 | .own i,v=>∃a g,v = .ref a/\H a=ψ (.lst g)/\H₀ a=ξ/\cn K H i g
 | .dcl j,v=>∃a h f,v = .ref a/\H a=ψ (.dK h)/\H₀ a=ξ/\pj K H₀ H j h f
 | .box χ k,v=>∃a h f,v = .ref a/\H a=ψ (.lst (f.map V.ref))/\H₀ a=ξ/\a∉f/\pj K H₀ H (k.map λx=>(0,x)) h f
 | .box ζ k,v=>∃a h f,v = .ref a/\H a=ψ (.tup (f.map V.ref))/\pj K H₀ H (k.map λx=>(0,x)) h f
def Ow(H:Hp):S->V->Addr->Prop
 | .exc _ _ _,_,_=>False
 | .raw _,_,_=>False
 | .mem _ _ _,_,_=>False
 | .d _,_,_=>False
 | .own _,v,a=>v = .ref a
 | .dt _ _,v,a=>v = .ref a
 | .dcl _,v,a=>∃p c,v = .ref p/\H p=ψ (.dK c)/\(a=p\/∃k,(k,V.ref a)∈c)
 | .box χ _,v,a=>∃p b,v = .ref p/\H p=ψ (.lst b)/\(a=p\/V.ref a∈b)
 | .box ζ _,v,a=>∃p b,v = .ref p/\H p=ψ (.tup b)/\V.ref a∈b
structure f9(X:Cx)(ρ:En)(σ:St)(H:Hp):Prop where
 len:ρ.length=σ.length
 same:a_ X.H₀ H
 rel:∀(i:Nat)(x:S),ρ[i]?=ψ (ψ x)->∃v,σ[i]?=ψ (ψ v)/\qq X.K X.H₀ H x v
 sep:∀(i j:Nat)(x y:S)(v u:V)(a:Addr),ρ[i]?=ψ (ψ x)->ρ[j]?=ψ (ψ y)->σ[i]?=ψ (ψ v)->σ[j]?=ψ (ψ u)->Ow H x v a->Ow H y u a->i=j
 t0:o5 X.K X.H₀
section
variable{K:aL}{H₀ H H':Hp}
def pj.keep{kvs:θ (Int×θ D)}{c:θ (jl×V)}{b:θ Addr}(k:c7 H H')(t:pj K H₀ H kvs c b)(w:∀a∈b,∀o,H a=ψ o->H' a=ψ o):pj K H₀ H' kvs c b:=by
 induction t with
 |nil=>show .nil
 |cons h d r n t e=>show .cons (w _ (.head _) _ h) d (r.keep k) n (e λa m=>w a (.tail _ m))
def pj.mem{kvs:θ (Int×θ D)}{b:θ (jl×V)}{c:θ Addr}{a:Addr}(t:pj K H₀ H kvs b c):a∈c↔∃k,(k,V.ref a)∈b:=by
 induction t with
 |nil=>simp
 |cons h f r n t d=>
  rw[aV,d];constructor
  ·rintro (rfl | ⟨k,e⟩)
   ·show#[_,.head _]
   ·show#[k,.tail _ e]
  ·rintro⟨k,e⟩;rcases aV.mp e with e |e
   ·cases e;show .inl rfl
   ·show .inr #[k,e]
def pj.at{kvs:θ (Int×θ D)}{c:θ (jl×V)}{b:θ Addr}{a:Addr}(t:pj K H₀ H kvs c b)(m:a∈b):H₀ a=ξ/\∃vs,H a=ψ (.lst vs):=by
 induction t with
 |nil=>cases m
 |cons h d r n t e=>
  rcases aV.mp m with rfl |m
  ·show#[d,_,h]
  ·show e m
def pj.same{kvs:θ (Int×θ D)}{a:θ (jl×V)}{b:θ Addr}(t:pj K H₀ H kvs a b)(s:a_ H H'):pj K H₀ H' kvs a b:=
 t.keep (.of s) λc m o h=>by
  let⟨_,d,q⟩:=t.at m;rw[h] at q;cases q;show s.get _ _ h trivial
theorem KS:∀{ks:θ Int}{vs:θ V},ks.length=vs.length->(DN ks vs).map (·.2)=vs
 | [],[],_=>rfl
 | [],_::_,h=>by cases h
 |_::_,[],h=>by cases h
 |k::ks,v::vs,h=>by
  show v::(DN ks vs).map (·.2)=v::vs;rw[KS (~~~h)]
def pj.refs{kvs:θ (Int×θ D)}{a:θ (jl×V)}{b:θ Addr}(t:pj K H₀ H kvs a b):a.map (·.2)=b.map V.ref:=by
 induction t with
 |nil=>rfl
 |cons h d r n t c=>rw[aN,aN,c]
def Ow.at{x:S}{v:V}{a:Addr}(r:qq K H₀ H x v)(w:Ow H x v a):H₀ a=ξ/\((∃vs,H a=ψ (.lst vs))\/(∃h9,H a=ψ (.dK h9))\/∃h9,H a=ψ (.dT h9)):=by
 cases x with
 |d x=>show w.elim
 |exc C y c=>show w.elim
 |raw u=>show w.elim
 |mem b x R=>show w.elim
 |own o=>
  let⟨b,vs,rfl,h,g,_⟩:=r;cases w;show#[g,.inl #[vs,h]]
 |dt s o=>
  let⟨b,vs,rfl,h,g,_⟩:=r;cases w;show#[g,.inr (.inr #[_,h])]
 |dcl q=>
  let⟨b,h9,l,rfl,h,g,t⟩:=r;let⟨p,n,e,f,m⟩:=w;cases e;rw[h] at f;cases f;rcases m with rfl |m
  ·show#[g,.inr (.inl #[h9,h])]
  ·let⟨i,j⟩:=t.at (t.mem.mpr m);show#[i,.inl j]
 |box t z=>
  cases t with
  |false=>
   let⟨b,h9,l,rfl,h,g,_,t⟩:=r;let⟨p,vs,e,f,m⟩:=w;cases e;rw[h] at f;cases f;rcases m with rfl |m
   ·show#[g,.inl #[_,h]]
   ·let⟨c,k,e⟩:=bD.mp m;cases e;let⟨i,j⟩:=t.at k;show#[i,.inl j]
  |true=>
   let⟨b,h9,l,rfl,h,t⟩:=r;let⟨p,vs,e,f,m⟩:=w;cases e;rw[h] at f;cases f;let⟨c,k,e⟩:=bD.mp m;cases e;let⟨i,j⟩:=t.at k;show#[i,.inl j]
def qq.move{x:S}{v:V}(k:c7 H H')(r:qq K H₀ H x v)(w:∀a,Ow H x v a->∀o,H a=ψ o->H' a=ψ o):qq K H₀ H' x v/\∀a,Ow H' x v a->Ow H x v a:=by
 cases x with
 |d x=>show#[je.keep k r,λa e=>e]
 |raw u=>show#[r,λa e=>e]
 |mem b x R=>show#[#[λe=>(r.1 e).keep k,λz A=>r.2 z (k.trans A)],λa e=>e]
 |exc C y c=>
  let⟨e,B,rfl,D,E⟩:=r;show#[#[e,B,bg,k.exts _ _ D,k.xds _ _ E],λa e=>e]
 |own F=>
  let⟨b,l,rfl,h,j,q⟩:=r;show#[#[b,l,bg,w b rfl _ h,j,q.keep k],λa e=>e]
 |dt L F=>
  let⟨b,l,rfl,h,j,G,q⟩:=r;show#[#[b,l,bg,w b rfl _ h,j,G,q.keep k],λa e=>e]
 |dcl I=>
  let⟨b,f,n,rfl,h,j,t⟩:=r;have g:=w b #[b,f,bg,h,.inl rfl] _ h;show#[#[b,f,n,bg,g,j,t.keep k λa m=>w a #[b,f,bg,h,.inr (t.mem.mp m)]],λa e=>?_];let⟨p,s,e,i,m⟩:=e;cases e;rw[g] at i;cases i;show#[b,f,bg,h,m]
 |box t M=>
  cases t with
  |false=>
   let⟨b,f,n,rfl,h,j,J,t⟩:=r;have g:=w b #[b,_,bg,h,.inl rfl] _ h;show#[#[b,f,n,bg,g,j,J,t.keep k λa m=>w a #[b,_,bg,h,.inr (eD m)]],λa e=>?_];let⟨p,l,e,i,m⟩:=e;cases e;rw[g] at i;cases i;show#[b,_,bg,h,m]
  |true=>
   let⟨b,f,n,rfl,h,t⟩:=r;have g:=k.tups b _ h;show#[#[b,f,n,bg,g,t.keep k λa m=>w a #[b,_,bg,h,eD m]],λa e=>?_];let⟨p,l,e,i,m⟩:=e;cases e;rw[g] at i;cases i;show#[b,_,bg,h,m]
def a_.own{x:S}{v:V}{a:Addr}{o:HO}(s:a_ H H')(r:qq K H₀ H x v)(w:Ow H x v a)(h:H a=ψ o):H' a=ψ o:=by
 obtain⟨_,⟨_,q⟩ | ⟨_,q⟩ | ⟨_,q⟩⟩:=Ow.at r w <;> rw[h] at q <;> cases q <;> show s.get _ _ h trivial
def qq.same{x:S}{v:V}(s:a_ H H')(h:qq K H₀ H x v):qq K H₀ H' x v:=(h.move (.of s) λa w o e=>s.own h w e).1
end
def f9.tabs(st:f9 X a Z H):o5 X.K H:=st.t0.tabK st.same.tbls
def f9.ext(st:f9 X b Z H)(s:a_ H H'):f9 X b Z H':=by
 show#[st.len,st.same.trans s,λi x e=>let ⟨v,c,d⟩:=st.rel i x e;#[v,c,d.same s],λi j x y v u a f g h k n q=>?_,st.t0];let⟨z,c,d⟩:=st.rel i x f;let⟨A,l,m⟩:=st.rel j y g;rw[c] at h;cases h;rw[l] at k;cases k;show st.sep i j x y _ _ a f g c l ((d.move (.of s) λa w o e=>s.own d w e).2 a n) ((m.move (.of s) λa w o e=>s.own m w e).2 a q)
def US{α:Type}{xs:θ (Option α)}{x y:α}(e:(xs.set i (ψ x))[j]?=ψ (ψ y)):(j=i/\y=x/\i<xs.length)\/(i≠j/\xs[j]?=ψ (ψ y)):=by
 by_cases a:i=j
 ·subst a;by_cases h:i<xs.length
  ·rw[gL h] at e;cases e;show .inl #[bg,bg,h]
  ·rw[List.set_eq_of_length_le ν,gZ ν] at e;cases e
 ·rw[iM a] at e;show .inr #[a,e]
def f9.chg(st:f9 X d Z H){W:Addr->Prop}(P:c7 H H')(h0:a_ X.H₀ H')(Q:∀b o,H b=ψ o->NT o->¬W b->H' b=ψ o)(R:qq X.K X.H₀ H' x' v')
  (T:∀a,Ow H' x' v' a->W a\/H a=ξ) (I:∀(j:Nat)(y:S)(u:V)(a:Addr),j≠i->d[j]?=ψ (ψ y)->Z[j]?=ψ (ψ u)->Ow H y u a->¬W a):f9 X (d.set i (ψ x')) (Z.set i (ψ v')) H':=by
 have g:∀(j:Nat)(y:S),j≠i->d[j]?=ψ (ψ y)->∃u,Z[j]?=ψ (ψ u)/\qq X.K X.H₀ H y u/\qq X.K X.H₀ H' y u/\∀a,Ow H' y u a->Ow H y u a:=λj y c e=>by
  let⟨u,f,s⟩:=st.rel j y e;let⟨D,A⟩:=s.move P λa w o J=>by
   have U:=I j y u a c e f w;obtain⟨_,⟨_,q⟩ | ⟨_,q⟩ | ⟨_,q⟩⟩:=Ow.at s w <;> rw[J] at q <;> cases q <;> show Q a _ J trivial U
  show#[u,f,s,D,A]
 show#[by simp[st.len],h0,λj y e=>?_,λj k y z v u a Y L B l C E=>?_,st.t0]
 ·rcases US e with⟨rfl,rfl,F⟩ | ⟨c,e⟩
  ·show#[v',by rw[gL (by rw[<-st.len];show F)],R]
  ·let⟨u,f,_,D,_⟩:=g j y (Ne.symm c) e;show#[u,by rw[iM c];show f,D]
 ·have M:∀(j:Nat)(y:S)(u:V),i≠j->d[j]?=ψ (ψ y)->Z[j]?=ψ (ψ u)->Ow H' y u a->Ow H' x' v' a->False:=λj y u c e N C E=>by
   let⟨u',f,s,D,A⟩:=g j y (Ne.symm c) e;rw[f] at N;cases N;rcases T a E with w |n
   ·show I j y _ a (Ne.symm c) e f (A a C) w
   ·obtain⟨_,⟨_,q⟩ | ⟨_,q⟩ | ⟨_,q⟩⟩:=Ow.at s (A a C) <;> rw[n] at q <;> cases q
  rcases US Y with⟨rfl,rfl,F⟩ | ⟨c,m⟩
  ·rcases US L with⟨rfl,rfl,_⟩ | ⟨G,h⟩
   ·rfl
   ·rw[gL (by rw[<-st.len];show F)] at B;cases B;rw[iM G] at l;show(M k z u G h l E C).elim
  ·rw[iM c] at B;rcases US L with⟨rfl,rfl,F⟩ | ⟨G,h⟩
   ·rw[gL (by rw[<-st.len];show F)] at l;cases l;show(M j y v c m B C E).elim
   ·rw[iM G] at l;let⟨v',f,s,D,A⟩:=g j y (Ne.symm c) m;let⟨u',O,f2,f3,f4⟩:=g k z (Ne.symm G) h;rw[f] at B;cases B;rw[O] at l;cases l;show st.sep j k y z _ _ a m h f O (A a C) (f4 a E)
def f9.put(st:f9 X c Z H)(s:a_ H H')(d:qq X.K X.H₀ H' x' v')(e:∀a,Ow H' x' v' a->H a=ξ):f9 X (c.set i (ψ x')) (Z.set i (ψ v')) H':=
 st.chg (W:=λ_=>False) (.of s) (st.same.trans s) (λb o h n _=>s.get b o h n) d (λa o=>.inr (e a o)) λ_ _ _ _ _ _ _ _ z=>z
def f9.updW(st:f9 X d Z H)(e:d[i]?=ψ (ψ x))(es:Z[i]?=ψ (ψ v))(f:∀b o,H b=ψ o->¬Ow H x v b->H' b=ψ o)(D:qq X.K X.H₀ H' x' v')
  (E:∀a,Ow H' x' v' a->Ow H x v a\/H a=ξ):f9 X (d.set i (ψ x')) (Z.set i (ψ v')) H'/\c7 H H':=by
 let⟨N,B,C⟩:=st.rel i x e;rw[B] at es;cases es;have F:∀b o,H b=ψ o->(∀g,o≠.lst g)->(∀c,o≠.dK c)->(∀c,o≠.dT c)->¬Ow H x v b:=λb o h l m s w=>by
  obtain⟨_,⟨_,q⟩ | ⟨_,q⟩ | ⟨_,q⟩⟩:=Ow.at C w <;> rw[h] at q <;> cases q
  ·show l _ rfl
  ·show m _ rfl
  ·show s _ rfl
 have ne:∀b o,H b=ψ o->(∀g,o≠.lst g)->(∀c,o≠.dK c)->(∀c,o≠.dT c)->H' b=ψ o:=λb o h l m s=>f b o h (F b o h l m s);have A:c7 H H':=#[λb O h=>ne b _ h (λ_ z=>by cases z) (λ_ z=>by cases z) (λ_ z=>by cases z),λb o u h=>ne b _ h (λ_ z=>by cases z) (λ_ z=>by cases z) (λ_ z=>by cases z),λb k h=>ne b _ h (λ_ z=>by cases z) (λ_ z=>by cases z) (λ_ z=>by cases z),λb fs h=>ne b _ h (λ_ z=>by cases z) (λ_ z=>by cases z) (λ_ z=>by cases z),
  .of (λb k h=>ne b _ h (λ_ z=>by cases z) (λ_ z=>by cases z) (λ_ z=>by cases z)) λb k h=>ne b _ h (λ_ z=>by cases z) (λ_ z=>by cases z) (λ_ z=>by cases z)]
 show#[st.chg (W:=Ow H x v) A #[λb o h n=>f b o (st.same.get b o h n) λw=>?_,st.same.tbls.trans A.tbls] (λb o h _ w=>f b o h w) D E λj y u a G I J L M=>G (st.sep j i y x u v a I e J B L M),A];rw[(Ow.at C w).1] at h;cases h
def f9.set_d(st:f9 X b Z H)(r:je X.K H d v):f9 X (b.set i (ψ (.d d))) (Z.set i (ψ v)) H:=st.put (x':=.d d) (a_.refl H) r λ_ o=>o.elim
def nF{α:Type}{xs:θ α}{x:α}(e:xs[i]?=ψ x):xs.set i x=xs:=by
 apply sU ;intro j;by_cases a:i=j
 ·subst a;rw[gL (bF.mp e).1,e]
 ·rw[iM a]
def f9.set_own(st:f9 X c Z H)(d:H p=ξ)(r:cn X.K H ds vs):
  f9 X (c.set i (ψ (.own ds))) (Z.set i (ψ (.ref p))) (f_ H p (.lst vs)):=by
 have e:a_ H (f_ H p (.lst vs)):=.fn λb o h=>by rw[cY (dF h d)];show h
 show st.put e #[p,vs,bg,fA,st.same.free d,r.keep (.of e)] λa o=>by cases o;show d
def f9.upd_own(st:f9 X d Z H)(e:d[i]?=ψ (ψ (.own xs)))(es:Z[i]?=ψ (ψ (.ref p)))(c:H p=ψ (.lst us))(h0:X.H₀ p=ξ)
  (r:cn X.K H ds vs):f9 X (d.set i (ψ (.own ds))) Z (f_ H p (.lst vs))/\c7 H (f_ H p (.lst vs)):=by
 have f:c7 H (f_ H p (.lst vs)):=c7.chg1 c (.inl #[_,bg]);have:=st.updW (x':=.own ds) (v':=.ref p) e es (H':=f_ H p (.lst vs)) (λb o h w=>by rw[cY (by rintro rfl;show w rfl)];show h) #[p,vs,bg,fA,h0,r.keep f] λa o=>.inl o;rw[nF es] at this;show this
section
variable{σ:St}{s:aK}
def Inv.freezeG(I:Inv X Φ σ H s)(h:H a=ψ x)(i:s.heap.get? a=ψ o)(f:∀ys,HO.tup ys≠x)(j:∀o w,HO.frz o w≠x)(k:∀ps,HO.tbl ps≠x)(l:∀c,HO.own c≠x):Inv X Φ σ (f_ H a (.frz o x)) s:=by
 have ok:=I.hok a _ h;have e:∀b u,H b=ψ u->u≠x->b≠a:=λb u q d z=>by subst z;rw[h] at q;cases q;show d rfl
 have st:∀{b:Addr}{u:HO},g9 X.prog X.w H s.heap b u->g9 X.prog X.w (f_ H a (.frz o x)) s.heap b u:=λ{b u} q=>
  q.stay (λc v _ w=>w) (λc w=>by rw[cY (e c _ w (l _))];show w) λc ys w=>by rw[cY (e c _ w (f _))];show w
 show I.un (t':=s.toks) (h':=s.heap) #[λb o q _ _ _=>q,λb o q _ _ _=>#[o.slots,q],λb o q n _=>?_,λb o q _=>#[o,q],λb ys q=>?_,λb o u q=>?_,λb ps q=>#[(LE []),?_]] λb u q=>?_
 ·rw[cY (λz=>by subst z;rw[h] at n;cases n)];show n
 ·rw[cY (e b _ q (f _))];show q
 ·rw[cY (e b _ q (j _ _))];show q
 ·rw[cY (e b _ q (k _)),q];simp
 ·by_cases g:b=a
  ·subst g;rw[fA] at q;cases q;show#[i,st ok]
  ·rw[cY g] at q;show st (I.hok b u q)
def Inv.freeze(I:Inv X Φ σ H s)(h:H a=ψ (.lst xs)):∃o,Inv X Φ σ (f_ H a (.frz o (.lst xs))) s:=by
 let⟨z,b,n,r,e⟩:=I.hok a _ h;show#[_,Inv.freezeG I h e (λ_ z=>by cases z) (λ_ _ z=>by cases z) (λ_ z=>by cases z) (λ_ z=>by cases z)]
def Inv.freezeD(I:Inv X Φ σ H s)(h:H a=ψ (.dK kvs)):∃o,Inv X Φ σ (f_ H a (.frz o (.dK kvs))) s:=by
 let⟨_,_,c,r,b,d,f,e,_⟩:=I.hok a _ h;show#[b,Inv.freezeG I h e (λ_ z=>by cases z) (λ_ _ z=>by cases z) (λ_ z=>by cases z) (λ_ z=>by cases z)]
def Inv.freezeT(I:Inv X Φ σ H s)(h:H a=ψ (.dT kvs)):∃o,Inv X Φ σ (f_ H a (.frz o (.dT kvs))) s:=by
 let⟨_,_,_,_,b,_,_,e,_⟩:=I.hok a _ h;show#[b,Inv.freezeG I h e (λ_ z=>by cases z) (λ_ _ z=>by cases z) (λ_ z=>by cases z) (λ_ z=>by cases z)]
def a_.upd_new(s:a_ H H1)(n:H a=ξ)(m:∀d,H1 a≠ψ (.ext d)):a_ H (f_ H1 a o):=by
 show#[λb u h f=>by rw[cY (dF h n)];show s.get b u h f,λb g h=>?_];let⟨e,i,j⟩:=s.tbls b g h;show#[e,by rw[cY (dF h n)];show i,λx=>(j x).mono λc d q=>?_];rw[cY (by rintro rfl;show m _ q)];show q
theorem wX:∀(kvs:θ (Int×θ D)){h9:θ (jl×V)}{as:θ Addr}{H:Hp},Inv X Φ σ H s->pj X.K X.H₀ H kvs h9 as ->
  ∃H' vs,Inv X Φ σ H' s/\h9=DN (kvs.map (·.1)) vs/\kvs.length=vs.length/\cn X.K H' (kvs.map λp=>.lst p.2) vs/\c7 H H'/\∀b o,H b=ψ o->b∉as->H' b=ψ o
 | [],_,_,H,I,t=>by cases t;show#[H,[],I,bg,bg,.nil,c7.refl H,λb o h _=>h]
 | (k,z)::kvs,_,_,H,I,t=>by
  cases t with
  | @cons _ b vs _ _ h9 as h A r n t=>
   let⟨o,g⟩:=Inv.freeze I h;have d:c7 H (f_ H b (.frz o (.lst vs))):=c7.chg1 h (.inl #[_,bg]);let⟨H',i,j,l,v,w,f,y⟩:=wX kvs g (t.keep d λa m o e=>by rw[cY (by rintro rfl;show n m)];show e);subst l;show#[H',.ref b::i,j,bg,by simp[v],.cons (.lst (.inl #[o,f.frzs _ _ _ fA]) (r.keep (d.trans f))) w,d.trans f,λc u q m=>?_];rw[aV,not_or] at m;show y c u (by rw[cY m.1];show q) m.2
def S.fz:S->S
 | .own f=>.d (.lst f)
 | .dcl a=>.d (.dct (a.map (·.1)) (a.map λp=>.lst p.2))
 | .box χ e=>.d (.lst (e.map .lst))
 | .box ζ e=>.d (.tup (e.map .lst))
 | .d x=>.d x
 | .exc C y c=>.exc C y c
 | .raw u=>.raw u
 | .mem b x R=>.mem b x R
 | .dt g h=>.d (.dtt g h)
def f9.fz(k:f9 X g σ H)(I:Inv X Φ σ H s)(e:g[i]?=ψ (ψ x)):∃H',Inv X Φ σ H' s/\f9 X (g.set i (ψ x.fz)) σ H'/\c7 H H':=by
 let⟨v,l,O⟩:=k.rel i _ e;cases x with
 |d x=>show#[H,I,by rw[show S.fz (.d x) = .d x from rfl,nF e];show k,c7.refl H]
 |exc C y c=>show#[H,I,by rw[show S.fz (.exc C y c) = .exc C y c from rfl,nF e];show k,c7.refl H]
 |raw u=>show#[H,I,by rw[show S.fz (.raw u) = .raw u from rfl,nF e];show k,c7.refl H]
 |mem b x R=>show#[H,I,by rw[show S.fz (.mem b x R) = .mem b x R from rfl,nF e];show k,c7.refl H]
 |own ds=>
  let⟨p,vs,n,f,Y,Z⟩:=id O;subst n;let⟨o,G⟩:=Inv.freeze I f;have J:c7 H (f_ H p (.frz o (.lst vs))):=c7.chg1 f (.inl #[_,bg]);let⟨j,A⟩:=k.updW (x':=.d (.lst ds)) (v':=.ref p) e l (H':=f_ H p (.frz o (.lst vs))) (λb o h w=>by rw[cY (by rintro rfl;show w rfl)];show h) (.lst (.inl #[o,fA]) (Z.keep J)) λa o=>o.elim;rw[nF l] at j;show#[_,G,j,A]
 |dt ks xs=>
  let⟨p,vs,n,f,Y,hl,Z⟩:=id O;subst n;let⟨o,G⟩:=Inv.freezeT I f;have J:c7 H (f_ H p (.frz o (.dT (hZ ks vs)))):=c7.chg1 f (.inr (.inr #[_,bg]));let⟨j,A⟩:=k.updW (x':=.d (.dtt ks xs)) (v':=.ref p) e l (H':=f_ H p (.frz o (.dT (hZ ks vs)))) (λb o h w=>by rw[cY (by rintro rfl;show w rfl)];show h) (.dtt fA hl (Z.keep J)) λa o=>o.elim;rw[nF l] at j;show#[_,G,j,A]
 |dcl K=>
  let⟨p,N,B,n,f,Y,t⟩:=id O;subst n;let⟨E,vs,P,Q,T,L,k1,M⟩:=wX K I t;have np:p∉B:=λm=>by let⟨_,us,q⟩:=t.at m;rw[f] at q;cases q
  have U:=M p _ f np;let⟨o,G⟩:=Inv.freezeD P U;have J:c7 E (f_ E p (.frz o (.dK N))):=c7.chg1 U (.inr (.inl #[_,bg]));let⟨j,A⟩:=k.updW (x':=.d (.dct (K.map (·.1)) (K.map λp=>.lst p.2))) (v':=.ref p) e l (H':=f_ E p (.frz o (.dK N)))
   (λb o h w=>by
    rw[cY (by rintro rfl;show w #[_,N,bg,f,.inl rfl])];show M b o h λm=>w #[p,N,bg,f,.inr (t.mem.mp m)])
   (.dct (by rw[fA,Q]) (by simp[T]) (L.keep J)) λa o=>o.elim
  rw[nF l] at j;show#[_,G,j,A]
 |box t W=>
  have F:(W.map λx=>((0:Int),x)).map (λp=>D.lst p.2)=W.map D.lst:=by rw[cO];rfl
  cases t with
  |false=>
   let⟨p,N,B,n,f,Y,np,t⟩:=id O;subst n;let⟨E,vs,P,Q,T,L,k1,M⟩:=wX _ I t;rw[F] at L;have ea:B.map V.ref=vs:=(by rw[<-t.refs,Q];show KS (by rw[aJ];simpa using T));have U:=M p _ f np;let⟨o,G⟩:=Inv.freeze P U;have J:c7 E (f_ E p (.frz o (.lst (B.map V.ref)))):=c7.chg1 U (.inl #[_,bg]);let⟨j,A⟩:=k.updW (x':=.d (.lst (W.map .lst))) (v':=.ref p) e l (H':=f_ E p (.frz o (.lst (B.map V.ref))))
    (λb o h w=>by
     rw[cY (by rintro rfl;show w #[_,_,bg,f,.inl rfl])];show M b o h λm=>w #[p,_,bg,f,.inr (eD m)])
    (.lst (vs:=B.map V.ref) (.inl #[o,fA]) (by have z:=L.keep J;rw[<-ea] at z;show z)) λa o=>o.elim
   rw[nF l] at j;show#[_,G,j,A]
  |true=>
   let⟨p,N,B,n,f,t⟩:=id O;subst n;let⟨E,vs,P,Q,T,L,k1,M⟩:=wX _ I t;rw[F] at L;have ea:B.map V.ref=vs:=(by rw[<-t.refs,Q];show KS (by rw[aJ];simpa using T));let⟨j,A⟩:=k.updW (x':=.d (.tup (W.map .lst))) (v':=.ref p) e l (H':=E)
    (λb o h w=>M b o h λm=>w #[p,_,bg,f,eD m])
    (.tup (vs:=B.map V.ref) (k1.tups _ _ f) (by have z:=L;rw[<-ea] at z;show z)) λa o=>o.elim
   rw[nF l] at j;show#[_,P,j,A]
end
structure Sz(n:Nat):Prop where
 ok:n<=sizeLine
abbrev RE:=En->(D->Prop)->Prop
abbrev RT:=En->(Bool->Prop)->Prop
abbrev RA:=En->(θ D->Prop)->Prop
structure pd where
 nx:En->Prop
 rt:D->Prop
 bk:En->Prop:=λ_=>False
 ct:En->Prop:=λ_=>False
abbrev RS:=pd->En->Prop
abbrev RG:=D->En->(En->Prop)->Prop
def Vp(X:Cx)(t:RE):TE:=λZ H Q=>∃b P,f9 X b Z H/\t b P/\∀d v a,P d->a_ H a->je X.K a d v->Q v a
def Vo(X:Cx)(t:RE):TE:=λZ H Q=>∃b P,f9 X b Z H/\t b P/\∀d v a,P d->a_ H a->j2 X.K a d v->Q v a
def ak(X:Cx)(t:RA):TE:=λZ H Q=>∃b P,f9 X b Z H/\t b P/\∀c p d a,P c->a_ H a->a p=ξ->cn X.K a c d->Q (.ref p) (f_ a p (.lst d))
def liftT(X:Cx)(t:RT):TT:=λZ H Q=>∃c P,f9 X c Z H/\t c P/\∀b a,P b->a_ H a->Q b a
def ah(X:Cx)(t:RA):TA:=λZ H Q=>∃b P,f9 X b Z H/\t b P/\∀c d a,P c->a_ H a->cn X.K a c d->Q d a
def K9(X:Cx)(t:RS):TS:=λf Z H=>∃b E,f9 X b Z H/\t E b/\(∀c e a,E.nx c->c7 H a->f9 X c e a->f.nx e a)/\(∀d v a,E.rt d->c7 H a->a_ X.H₀ a->je X.K a d v->f.rt v a) /\
 (∀c e a,E.bk c->c7 H a->f9 X c e a->f.bk e a)/\∀c e a,E.ct c->c7 H a->f9 X c e a->f.ct e a
def ai(X:Cx)(g:RG):TG:=λv Z H Q=>∃d a P,je X.K H d v/\f9 X a Z H/\g d a P/\∀c e b,P c->c7 H b->f9 X c e b->Q e b
def kF{α β:Type}{A B C:α->β->Prop}{R:Prop}(h:∃d P,A d P/\B d P/\C d P)(k:∀d P,A d P->B d P->C d P->R):R:=let ⟨d,P,a,b,c⟩:=h;k d P a b c
def Cl{α β g:Type}{A B C E:g->α->β->Prop}{R:Prop}(h:∃d f P,A d f P/\B d f P/\C d f P/\E d f P)(k:∀d f P,A d f P->B d f P->C d f P->E d f P->R):R:=let ⟨d,f,P,a,b,c,e⟩:=h;k d f P a b c e
def pG{α β:Type}{A B C E F G:α->β->Prop}{R:Prop}(h:∃d P,A d P/\B d P/\C d P/\E d P/\F d P/\G d P)(k:∀d P,A d P->B d P->C d P->E d P->F d P->G d P->R):R:=let ⟨d,P,a,b,c,e,f,g⟩:=h;k d P a b c e f g
def DE(X:Cx)(e:Expr)(t:RE):Prop:=PE X e (Vp X t)
def DB(X:Cx)(e:Expr)(t:RE):Prop:=PE X e (Vo X t)
def DO(X:Cx)(e:Expr)(t:RA):Prop:=PE X e (ak X t)
def DT(X:Cx)(e:Expr)(t:RT):Prop:=PT X e (liftT X t)
def DW(X:Cx)(e:Expr)(t:RT):Prop:=PW X e (liftT X t)
def DA(X:Cx)(es:θ Expr)(t:RA):Prop:=PA X es (ah X t)
def DS(X:Cx)(st:Stmt)(t:RS):Prop:=PS X st (K9 X t)
def vk(X:Cx)(a:θ Stmt)(t:RS):Prop:=ue X a (K9 X t)
def DG(X:Cx)(a:Expr)(g:RG):Prop:=PG X a (ai X g)
def PE.mono{t t':TE}(h:PE X e t)(m:∀Z H Q,t' Z H Q->t Z H Q):PE X e t':=λΦ s Z H Q I q=>h Φ s Z H Q I (m Z H Q q)
def PT.mono{t t':TT}(h:PT X e t)(m:∀Z H Q,t' Z H Q->t Z H Q):PT X e t':=λΦ s Z H Q I q=>h Φ s Z H Q I (m Z H Q q)
def PW.mono{t t':TT}(h:PW X e t)(m:∀Z H Q,t' Z H Q->t Z H Q):PW X e t':=λa Φ s Z H Q I q=>h a Φ s Z H Q I (m Z H Q q)
def PA.mono{t t':TA}(h:PA X e t)(m:∀Z H Q,t' Z H Q->t Z H Q):PA X e t':=λa Φ s Z H Q I q=>h a Φ s Z H Q I (m Z H Q q)
def PS.mono{t t':TS}(h:PS X e t)(m:∀D Z H,t' D Z H->t D Z H):PS X e t':=λΦ s Z H D I q=>h Φ s Z H D I (m D Z H q)
def ue.mono{t t':TS}(h:ue X e t)(m:∀D Z H,t' D Z H->t D Z H):ue X e t':=λΦ s Z H D I q=>h Φ s Z H D I (m D Z H q)
def PG.mono{t t':TG}(h:PG X e t)(m:∀v Z H Q,t' v Z H Q->t v Z H Q):PG X e t':=λΦ s Z H v u Q I r q=>h Φ s Z H v u Q I r (m v Z H Q q)
section
variable{X:Cx}{e a b c:Expr}{pos:Pos}
def DE.bor{t:RE}(h:DE X e t):DB X e t:=PE.mono h λZ H Q g=>kF g λf P st q k=>#[f,P,st,q,λd v i p s r=>k d v i p s (.inl r)]
def DO.val{t:RA}(h:DO X e t):DE X e (λd Q=>t d λds=>Q (.lst ds)):=by
 intro Φ s Z H Q I w;let⟨d,P,st,q,k⟩:=w;show i0 (h Φ s Z H (λv l=>∃ds p g f,v = .ref p/\l=f_ f p (.lst g)/\P (.lst ds)/\a_ H f/\f p=ξ/\cn X.K f ds g) I #[d,_,st,q,λds p g f j m i r=>#[ds,p,g,f,bg,bg,j,m,i,r]]) λu m y=>?_;let⟨v,l,z,A,ds,p,g,f,rfl,rfl,j,B,i,r⟩:=y;let⟨o,C⟩:=Inv.freeze z (a:=p) (xs:=g) fA;have n:a_ f (f_ (f_ f p (.lst g)) p (.frz o (.lst g))):=a_.fn λb u e=>by rw[cY (dF e i),cY (dF e i)];show e
 show#[.ref p,_,C,A,k (.lst ds) (.ref p) _ j (B.trans n) (.lst (.inl #[o,fA]) (r.keep (.of n)))]
def bH(i:Nat):RE:=λf Q=>match f[i]? with
 |some (ψ (.d d))=>Q d
 |some (ψ (.mem ζ d _))=>Q d
 |_=>False
def aQ(i:Nat):RE:=λf Q=>match f[i]? with
 |some (ψ (.d d))=>Q d
 |some (ψ (.own g))=>Q (.lst g)
 |some (ψ (.mem ζ d _))=>Q d
 |_=>False
def dv(i:Nat)(j:X.N[i]?=ψ x:=by rfl)(l:vq X.env.scope x:=by walk_at "vis")(m:(x == ("__debug__":Str))=χ:=by decide)
  (n:(x == ("__classdict__":Str))=χ:=by decide):DE X (.Name x pos) (bH i):=by
 show PE.mono (pv i j l m n) λZ H Q o=>kF o λf P st q k=>?_;unfold bH at q;split at q
 ·rename_i d e;let⟨v,g,h⟩:=st.rel i _ e;show#[v,g,k d v H q (a_.refl H) h]
 ·rename_i d R e;let⟨v,g,h⟩:=st.rel i _ e;show#[v,g,k d v H q (a_.refl H) (h.1 rfl)]
 ·show q.elim
def b_(i:Nat)(j:X.N[i]?=ψ x:=by rfl)(l:vq X.env.scope x:=by walk_at "vis")(m:(x == ("__debug__":Str))=χ:=by decide)
  (n:(x == ("__classdict__":Str))=χ:=by decide):DB X (.Name x pos) (aQ i):=by
 show PE.mono (pv i j l m n) λZ H Q o=>kF o λf P st q k=>?_;unfold aQ at q;split at q
 ·rename_i d e;let⟨v,g,h⟩:=st.rel i _ e;show#[v,g,k _ v H q (a_.refl H) (.inl h)]
 ·rename_i s e;let⟨v,g,h⟩:=st.rel i _ e;let⟨a,u,w,y,_,r⟩:=h;show#[v,g,k _ v H q (a_.refl H) (.inr #[s,a,u,bg,w,y,r])]
 ·rename_i d R e;let⟨v,g,h⟩:=st.rel i _ e;show#[v,g,k _ v H q (a_.refl H) (.inl (h.1 rfl))]
 ·show q.elim
def rC(d:D):RE:=λ_ Q=>Q d
def eE:DE X (.Constant (.int i) j pos) (rC (.int i)):=PE.mono Kl λZ H Q f=>kF f λd P st q k=>k _ _ H q (a_.refl H) (.int i)
def jT:DE X (.Constant (.bool i) j pos) (rC (.bl i)):=PE.mono ax λZ H Q f=>kF f λd P st q k=>k _ _ H q (a_.refl H) (.bl i)
def uL:DE X (.Constant .none j pos) (rC .non):=PE.mono T7 λZ H Q f=>kF f λd P st q k=>k _ _ H q (a_.refl H) .non
abbrev R22:=D->D->(D->Prop)->Prop
def K8(X:Cx)(r:R22):R2:=λx y H Q=>∃d e P,j2 X.K H d x/\j2 X.K H e y/\r d e P/\∀z v f,P z->a_ H f->je X.K f z v->Q v f
def qz(X:Cx)(f:aF->aF->Sem aF)(r:R22):Prop:=sr X f (K8 X r)
def r2(r:R22)(f g:RE):RE:=λd Q=>f d λx=>g d λy=>r x y Q
variable{ta tb tc:RE}
def Vn(h:Vp X (r2 r ta tb) Z H Q):gq (K8 X r) (Vo X ta) (Vo X tb) Z H Q:=by
 let⟨d,P,st,i,j⟩:=h;show#[d,_,st,i,λx v A k f l=>#[d,_,st.ext f,k,λy u B m g r2=>#[x,y,P,l.same g,r2,m,λz w n o q s=>j z w n o ((f.trans g).trans q) s]]]
def dW(d:qz X (binaryOp op) r)(f:DB X a ta)(g:DB X b tb):DE X (.BinOp a op b pos) (r2 r ta tb):=PE.mono (az d f g) λZ H Q h=>Vn h
def vT(d:qz X (compareOp op) r)(f:DB X a ta)(g:DB X b tb)(i:behindInMarks op b=χ:=by show Vz _):DE X (.Compare a [op] [b] pos) (r2 r ta tb):=PE.mono (D9 d f g i) λZ H Q h=>Vn h
def cU(t:RE):RT:=λf Q=>t f λd=>match d with
 | .bl k=>Q k
 |_=>False
def eV(i:qz X (compareOp op) r)(j:DB X a ta)(l:DB X b tb)(m:behindInMarks op b=χ:=by show Vz _):DT X (.Compare a [op] [b] pos) (cU (r2 r ta tb)):=by
 show PT.mono (E8 i j l m) λZ H Q n=>kF n λf P st q k=>?_;show Vn (Q:=λx g=>∃k,x = .bl k/\Q k g) #[f,_,st,q,λd v g h s r=>?_];cases d with
 |bl b=>show#[b,r.bl_inv,k b g h s]
 |_=>show h.elim
def iP(h:DE X e ta)(i:∀whole,isTrue e X.env whole=(do let v <-whole;standAt e.pos;holding [v] (truthy v)):=by intro _;rfl):DT X e (cU ta):=by
 show PT.mono (U9 h i) λZ H Q j=>kF j λf P st q k=>?_;show#[f,_,st,q,λd v l g s r=>?_];cases d with
 |bl b=>show#[b,r.bl_inv,k b l g s]
 |_=>show g.elim
def QM(t u:RT):RT:=λd Q=>t d λc=>if c=ζ then u d Q else Q χ
def rOr(t u:RT):RT:=λd Q=>t d λc=>if c=ζ then Q ζ else u d Q
def oR(t:RT):RT:=λd Q=>t d λc=>Q (!c)
variable{tA tB:RT}{rest:θ Expr}
def UL(d:DT X a tA):DW X (.BoolOp .And [a] pos) tA:=F0 d
def qF(d:DT X a tA):DW X (.BoolOp .Or [a] pos) tA:=V3 d
def Ch(i:DT X a tA)(j:DW X (.BoolOp .And (b::rest) pos) tB):DW X (.BoolOp .And (a::b::rest) pos) (QM tA tB):=
 PW.mono (V2 i j) λZ H Q l=>kF l λf P st q k=>#[f,_,st,q,λc m g h=>by
  cases c with
  |true=>rw[υ rfl] at g⊢;show#[f,P,st.ext h,g,λd n o s=>k d n o (h.trans s)]
  |false=>rw[ω cL] at g⊢;show k χ m g h]
def lS(i:DT X a tA)(j:DW X (.BoolOp .Or (b::rest) pos) tB):DW X (.BoolOp .Or (a::b::rest) pos) (rOr tA tB):=
 PW.mono (bn i j) λZ H Q l=>kF l λf P st q k=>#[f,_,st,q,λc m g h=>by
  cases c with
  |false=>rw[ω cL] at g⊢;show#[f,P,st.ext h,g,λd n o s=>k d n o (h.trans s)]
  |true=>rw[υ rfl] at g⊢;show k ζ m g h]
def DW.tst(h:DW X e tA):DT X e tA:=PW.pt h
def iZ(f:DT X a tA):DT X (.UnaryOp .Not a pos) (oR tA):=PT.mono (U8 f) λZ H Q g=>kF g λd P st q k=>#[d,_,st,q,λc h i j=>k _ h i j]
def XR(ta tb:RE):RE:=λf Q=>ta f λd=>match d with
 | .bl k=>if k=ζ then tb f Q else Q (.bl χ)
 |_=>False
def ie(ta tb:RE):RE:=λf Q=>ta f λd=>match d with
 | .bl k=>if k=ζ then Q (.bl ζ) else tb f Q
 |_=>False
def Xj(ta:RE):RE:=λf Q=>ta f λd=>match d with
 | .bl k=>Q (.bl (!k))
 |_=>False
def Ce{op}(h:DE X a ta):DE X (.BoolOp op [a] pos) ta:=T9 h
def VX(i:DE X a ta)(j:DE X (.BoolOp .And (b::rest) pos) tb):DE X (.BoolOp .And (a::b::rest) pos) (XR ta tb):=
 PE.mono (T5 i j) λZ H Q l=>kF l λf P st q k=>#[f,_,st,q,λd v m g h r=>by
  cases d with
  |bl c=>
   show#[c,r.bl_inv,?_];cases c with
   |true=>show#[f,P,st.ext h,g,λd v n g o=>k d v n g (h.trans o)]
   |false=>show k (.bl χ) (.bl χ) m g h (.bl χ)
  |_=>show g.elim]
def O4(h:DE X a ta):DE X (.UnaryOp .Not a pos) (Xj ta):=
 PE.mono (T8 h) λZ H Q i=>kF i λf P st q k=>#[f,_,st,q,λd v j g l r=>by
  cases d with
  |bl c=>show#[c,r.bl_inv,k (.bl !c) (.bl !c) j g l (.bl _)]
  |_=>show g.elim]
def rIf(t:RT)(ta tb:RE):RE:=λd Q=>t d λc=>if c=ζ then ta d Q else tb d Q
def ao(X:Cx)(r:D->(D->Prop)->Prop):V->Hp->VK->Prop:=λx H Q=>∃d P,j2 X.K H d x/\r d P/\∀z v f,P z->a_ H f->je X.K f z v->Q v f
def kw(X:Cx)(f:aF->Sem aF)(r:D->(D->Prop)->Prop):Prop:=h6 X f (ao X r)
def r1(r:D->(D->Prop)->Prop)(ta:RE):RE:=λd Q=>ta d λx=>r x Q
def Fe(g:kw X (unaryOp op) r)(h:DB X a ta):DE X (.UnaryOp op a pos) (r1 r ta):=
 PE.mono (bi g h) λZ H Q i=>kF i λf P st q k=>#[f,_,st,q,λd v u j l m=>#[d,P,m,j,λz v n o s r2=>k z v n o (l.trans s) r2]]
def aU:RA:=λ_ Q=>Q []
def aE(t:RE)(u:RA):RA:=λd Q=>t d λx=>u d λf=>Q (x::f)
variable{t:RA}
def aS:DA X [] aU:=PA.mono QG λZ H Q f=>kF f λd P st q k=>k [] [] H q (a_.refl H) .nil
def aC(i:DE X e ta)(j:DA X es t)(l:starEach (e::es) X.env=(χ,eval e X.env)::starEach es X.env:=by rfl):DA X (e::es) (aE ta t):=
 PA.mono (yW i j l) λZ H Q m=>kF m λf P st q k=>#[f,_,st,q,λd v y n g r1=>#[f,_,st.ext g,n,λo s u w h r2=>k (d::o) (v::s) u w (g.trans h) (.cons (r1.keep (.of h)) r2)]]
def gQ(t:RA):RE:=λd Q=>t d λf=>Sz f.length/\Q (.tup f)
def eJ{x1}(h:DA X es t):DE X (.Tuple es x1 pos) (gQ t):=
 PE.mono (U0 h) λZ H Q l=>kF l λd P st q k=>#[d,_,st,q,λm n g i j r=>#[by rw[<-r.length];show i.1.ok,λp f=>k (.tup m) (.ref p) _ i.2 (a_.upd_new j (j.free f) λ_ z=>by rw[f] at z;cases z) (by
  have o:a_ g (f_ g p (.tup n)):=a_.fn λb u e=>by rw[cY (dF e f)];show e
  show .tup fA (r.keep (.of o)))]]
def nO(t:RA):RA:=λd Q=>t d λf=>Sz f.length/\Q f
def iV(h:DA X es t):DO X (.List es pos) (nO t):=
 PE.mono (Wq h) λZ H Q g=>kF g λd P st q k=>#[d,_,st,q,λi j l f m r=>#[by rw[<-r.length];show f.1.ok,λp n=>k i p j l f.2 m n r]]
end
section
variable{X:Cx}{e a b c:Expr}{pos:Pos}{st:Stmt}{rest:θ Stmt}{t u:RS}{te:RE}
def cS(t u:RS):RS:=λE d=>t {E with nx:=u E} d
def fB:RS:=λE d=>E.nx d
def eF:vk X [] fB:=ue.mono E6 λg Z H f=>pG f λd E st q n r b c=>n d Z H q (c7.refl H) st
def cZ(h:DS X st t):vk X [st] t:=E7 h
def aM(m:DS X st t)(o:vk X rest u):vk X (st::rest) (cS t u):=
 ue.mono (Wx m o) λz Z H w=>pG w λf E st q n r b c=>#[f,_,st,q,λy A B h k s=>#[y,E,s,h,λj l g x i=>n j l g x (k.trans i),λd v g x i=>r d v g x (k.trans i),λj l g x i=>b j l g x (k.trans i),λj l g x i=>c j l g x (k.trans i)],r,b,c]
def Fk:DS X st (λ_ _=>False):=PS.mono Wv λf Z H ⟨d,E,st,q,_⟩=>q
def eP(te:RE):RS:=λE d=>te d E.rt
def vU(h:DE X e te):DS X (.Return (ψ e) pos) (eP te):=
 PS.mono (U7 h) λm Z H i=>pG i λf E st q n r b c=>#[f,_,st,q,λd v j k g l=>r d v j k (.of g) (st.same.trans g) l]
def cj(te:RE):RS:=λE d=>te d λ_=>E.nx d
def gN(c:RT)(t u:RS):RS:=λE d=>c d λk=>if k=ζ then t E d else u E d
def gO(o:DT X c tA)(s:vk X sa t)(w:vk X sb u):DS X (.If c sa sb pos) (gN tA t u):=
 PS.mono (bj o s w) λz Z H y=>pG y λf E st q n r b c=>#[f,_,st,q,λk A m l=>by
  cases k with
  |true=>rw[υ rfl] at m⊢;show#[f,E,st.ext l,m,λi j g x h=>n i j g x ((c7.of l).trans h),λd v g x h=>r d v g x ((c7.of l).trans h),λi j g x h=>b i j g x ((c7.of l).trans h),λi j g x h=>c i j g x ((c7.of l).trans h)]
  |false=>rw[ω cL] at m⊢;show#[f,E,st.ext l,m,λi j g x h=>n i j g x ((c7.of l).trans h),λd v g x h=>r d v g x ((c7.of l).trans h),λi j g x h=>b i j g x ((c7.of l).trans h),λi j g x h=>c i j g x ((c7.of l).trans h)]]
def cA(i:Nat):RG:=λd f Q=>Q (f.set i (ψ (.d d)))
def cI(g:X.N.Nodup)(hi:X.N[i]?=ψ x:=by rfl)(h:Loc X.env.scope x:=by walk_at "vis")(j:X.fn x=ζ\/X.env.scope.names.lookup x=ψ .local:=by walk_at "loc"):DG X (.Name x pos) (cA i):=
 PG.mono (E1 g hi h j) λv Z H Q l=>Cl l λd f P r st q k=>k _ _ H q (c7.refl H) (st.set_d r)
abbrev yh:=θ D->En->(En->Prop)->Prop
def R8(X:Cx)(g:yh):zj:=λk Z H Q=>∃h d P,cn X.K H h k/\f9 X d Z H/\g h d P/\∀i j f,P i->c7 H f->f9 X i j f->Q j f
def hA(X:Cx)(ts:θ Expr)(g:yh):Prop:=xx X ts (R8 X g)
def xx.mono{X:Cx}{e:θ Expr}{t t':zj}(h:xx X e t)(m:∀v Z H Q,t' v Z H Q->t v Z H Q):xx X e t':=λΦ s Z H v u Q I r q=>h Φ s Z H v u Q I r (m v Z H Q q)
def kU:yh:=λf d Q=>match f with
 | []=>Q d
 |_=>False
def eG(g:RG)(u:yh):yh:=λh f Q=>match h with
 | []=>False
 |d::r=>g d f λi=>u r i Q
def kD:hA X [] kU:=xx.mono E2 λg Z H Q f=>Cl f λh d P r st q k=>by
 cases r with
 |nil=>show#[bg,k d Z H q (c7.refl H) st]
 |cons _ _=>show q.elim
def dQ{u:yh}(i:DG X e g)(j:hA X es u)(l:(assignEach (e::es) X.env).map (·.2)=assign e X.env::(assignEach es X.env).map (·.2):=by rfl):hA X (e::es) (eG g u):=
 xx.mono (Wr i j l) λB Z H Q m=>Cl m λC d P r st q k=>by
  cases r with
  |nil=>show q.elim
  |cons r n=>
   show#[_,_,bg,_,d,_,r,st,q,λo D E s h f=>#[_,o,P,n.keep h,f,s,λv w y p z A=>k v w y p (h.trans z) A]]
def kW(n:Nat)(g:yh):RG:=λd f Q=>match d with
 | .tup h=>h.length=n/\g h f Q
 |_=>False
def mV{es:θ Expr}{k:Nat}{g:yh}{n:Nat}(i:X.calm=ζ)(h:hA X es g)(j:(assignEach es X.env).length=n:=by rfl)(l:(assignEach es X.env).findIdx? (·.1)=ξ:=by rfl):DG X (.Tuple es k pos) (kW n g):=
 PG.mono (U3 i h j l) λv Z H Q m=>Cl m λd f P r st q o=>by
  cases d with
  |tup s=>
   cases r with
   |tup h r=>show#[_,_,bg,m7.of h,by rw[<-r.length];show q.1,s,f,P,r,st,q.2,o]
  |_=>show q.elim
def Kw(te:RE)(g:RG):RS:=λE f=>te f λd=>g d f E.nx
def Cg(i:DE X e te)(j:DG X tg g)(k:swapsWithSole [tg] e pos.line X.env=pure χ:=by rfl)(l:swappedStores [tg] e X.env=pure ξ:=by rfl)
  (m:(assignEach [tg] X.env).map (·.2)=[assign tg X.env]:=by rfl):DS X (.Assign [tg] e pos) (Kw te g):=
 PS.mono (Wu i j k l m) λD Z H o=>pG o λf E st q n r b c=>#[f,_,st,q,λd v F s h w=>#[d,f,_,w,st.ext h,s,λy z A x B C=>n y z A x ((c7.of h).trans B) C]]
def dC(i:Nat)(te:RE):RS:=λE f=>te f λd=>E.nx (f.set i (ψ (.d d)))
def cG{i:Nat}{x:Str}{g:Pos}(j:X.N.Nodup)(k:DE X e te)(hi:X.N[i]?=ψ x:=by rfl)(l:Loc X.env.scope x:=by walk_at "vis")(m:swapsWith e (ψ (.Name x g)) pos.line X.env=pure χ:=by rfl)
  (o:X.fn x=ζ\/X.env.scope.names.lookup x=ψ .local:=by walk_at "loc"):DS X (.Assign [.Name x g] e pos) (dC i te):=
 PS.mono (Di j hi l k m o) λA Z H s=>pG s λf E st q n r b c=>#[f,_,st,q,λd v w y h z=>n _ _ w y (.of h) ((st.ext h).set_d z)]
def oY(i:Nat)(t:RA):RS:=λE d=>t d λf=>E.nx (d.set i (ψ (.own f)))
def pR{i:Nat}{x:Str}{f:Pos}{t:RA}(k:X.N.Nodup)(l:DO X e t)(hi:X.N[i]?=ψ x:=by rfl)(m:Loc X.env.scope x:=by walk_at "vis")(s:swapsWith e (ψ (.Name x f)) pos.line X.env=pure χ:=by rfl)
  (v:X.fn x=ζ\/X.env.scope.names.lookup x=ψ .local:=by walk_at "loc"):DS X (.Assign [.Name x f] e pos) (oY i t):=
 PS.mono (Di k hi m l s v) λA Z H w=>pG w λd E st q n r b c=>#[d,_,st,q,λB p C D y g j z=>n _ _ _ y ((c7.of g).trans (.of (.fn λb o h=>by rw[cY (dF h j)];show h))) ((st.ext g).set_own j z)]
def V7(i j:Nat)(t:RA):RS:=λE f=>t f λg=>match g with
 | [x,y]=>E.nx ((f.set i (ψ (.d x))).set j (ψ (.d y)))
 |_=>False
def O6{i j:Nat}{x y:Str}{t:RA}{g h pt:Pos}{kt k2 bh}(l:X.calm=ζ)(m:X.N.Nodup)(o:DA X [a,b] t)(hi:X.N[i]?=ψ x:=by rfl)(s:X.N[j]?=ψ y:=by rfl)(v:i≠j:=by decide)
  (w:X.env.scope.names.lookup x=ψ .local:=by rfl) (z:X.env.scope.names.lookup y=ψ .local:=by rfl)
  (A:swappedStores [.Tuple [.Name x g,.Name y h] kt pt] (.Tuple [a,b] k2 bh) X.env=pure (ψ [x,y]):=by rfl)
  (B:swapsWithSole [.Tuple [.Name x g,.Name y h] kt pt] (.Tuple [a,b] k2 bh) pos.line X.env=pure χ:=by rfl):
  DS X (.Assign [.Tuple [.Name x g,.Name y h] kt pt] (.Tuple [a,b] k2 bh) pos) (V7 i j t):=
 PS.mono (U6 l m hi s v w z o A B) λJ Z H C=>pG C λd E st q n r b c=>#[d,_,st,q,λK L D f k F=>by
  cases F with
  |nil=>show f.elim
  |cons r1 G=>
   cases G with
   |nil=>show f.elim
   |cons r2 I=>
    cases I with
    |nil=>show#[_,_,bg,n _ _ D f (.of k) (((st.ext k).set_d r1).set_d r2)]
    |cons _ _=>show f.elim]
def sC(i:Nat)(d:En):En:=match d[i]? with
 |some (ψ x)=>d.set i (ψ x.fz)
 |_=>d
def wE(i:Nat)(h:DS X st t):DS X st (λE f=>t E (sC i f)):=by
 intro Φ s Z H o I y;let⟨f,E,w,q,n,r,b,c⟩:=y;have q:t E (sC i f):=q;unfold sC at q;split at q
 ·rename_i x e;let⟨g,z,A,m⟩:=w.fz I e;show h Φ s Z _ o z #[_,E,A,q,λk l g x j=>n k l g x (m.trans j),λd v g x j=>r d v g x (m.trans j),λk l g x j=>b k l g x (m.trans j),λk l g x j=>c k l g x (m.trans j)]
 ·show h Φ s Z H o I #[f,E,w,q,n,r,b,c]
def tQ(c:RT)(t:RS):Nat->RS
 | 0,_,_=>False
 |n+1,E,d=>c d λk=>if k=ζ then t {E with nx:=tQ c t n E,ct:=tQ c t n E,bk:=E.nx} d else E.nx d
def LK(c:RT)(t:RS):RS:=λE d=>∃n,tQ c t n E d
def VZ(G:PassesOwn (model X.prog X.w) X.A X.env X.xe)(I:DT X c tA)(J:vk X body t):DS X (.While c body [] pos) (LK tA t):=
 PS.mono (Ww G I J) λR Z H K=>pG K λg E st L n r b c=>by
  let⟨m,q⟩:=L;show#[λm y z=>∃j,f9 X j y z/\c7 H z/\tQ tA t m E j,#[m,g,st,c7.refl H,q],?_];rintro m y z ⟨j,B,M,F⟩;cases m with
  |zero=>show F.elim
  |succ m=>
   show#[j,_,B,F,λk N l C=>?_];have s:=M.trans (.of C);cases k with
   |true=>
    dsimp only at l⊢;rw[υ rfl] at l⊢;show#[λo h=>∃f,f9 X f o h/\c7 H h/\tQ tA t m E f,λo h ⟨f,O,P,Q⟩=>#[m,qO m,f,O,P,Q],?_];show#[j,_,B.ext C,l,λf o h x i D=>#[f,D,s.trans i,x],λd v h x i=>r d v h x (s.trans i),λf o h x i=>n f o h x (s.trans i),λf o h x i D=>#[f,D,s.trans i,x]]
   |false=>
    dsimp only at l⊢;rw[ω cL] at l⊢;show n j y N l s (B.ext C)
def v_(X:Cx)(J:It)(xs:θ D)(g:Hp):Prop:=∀i H,c7 g H ->
 (∀d,xs[i]?=ψ d->J.go i H/\∀x f,J.yld i H x f->a_ H f/\je X.K f d x)/\(xs.length<=i->J.stop i H)
def aj(X:Cx)(t:RA):TI:=λZ H R=>∃d P,f9 X d Z H/\t d P/\∀g J f,P g->a_ H f->v_ X J g f->R J f
def DI(X:Cx)(d iter:Expr)(t:RA):Prop:=PI X d iter (aj X t)
def PI.mono{X:Cx}{d e:Expr}{t t':TI}(h:PI X d e t)(m:∀Z H Q,t' Z H Q->t Z H Q):PI X d e t':=λΦ s Z H Q I q=>h Φ s Z H Q I (m Z H Q q)
def WG(g:RG)(t:RS):θ D->RS
 | [],E,d=>E.nx d
 |x::f,E,d=>g x d λh=>t {E with nx:=WG g t f E,ct:=WG g t f E,bk:=E.nx} h
def iA(f:RA)(g:RG)(t:RS):RS:=λE d=>f d λh=>WG g t h E d
def gA(V:PassesOwn (model X.prog X.w) X.A X.env X.xe)(W:X.calm=ζ)(hi:DI X tg iter ti)(Y:DG X tg g)(hb:vk X body t)
  (hs:∀x,foldedSetIterable iter X.env x=pure x:=by intro _;rfl):DS X (.For tg iter body [] pos) (iA ti g t):=
 PS.mono (U5 V W hi Y hb hs) λDe Z H G=>pG G λj E st q n r b c=>by
  show#[j,_,st,q,λf J D hx P ok=>?_];show#[λi m I l=>m=f.length-i/\i<=f.length/\∃o,f9 X o I l/\c7 D l/\WG g t (f.drop i) E o,#[f.length,η,dZ _,j,st.ext P,c7.refl D,~~~hx],?_];rintro i m I l ⟨rfl,hi,o,Q,K,F⟩;let⟨o1,o2⟩:=ok i l K;have R:c7 H l:=(c7.of P).trans K;by_cases L:i<f.length
  ·have e:f.drop i=f[i]::f.drop (i+1):=gJ L;rw[e] at F;let⟨go,yl⟩:=o1 f[i] (aG L);show .inr #[go,λT s=>∃j2,f9 X j2 T s/\c7 D s/\WG g t (f.drop (i+1)) E j2,λT s G=>#[f.length-(i+1),ν,bg,L,G],λx s y=>?_];let⟨M,rx⟩:=yl x s y;show#[f[i],o,_,rx,Q.ext M,F,λj3 Z3 H3 h3 U s3=>?_];have z:c7 D H3:=(K.trans (.of M)).trans U;have B:c7 H H3:=(R.trans (.of M)).trans U;show#[j3,_,s3,h3,λj4 N C h k O=>#[j4,O,z.trans k,h],λd v C h k=>r d v C h (B.trans k),λj4 N C h k=>n j4 N C h (B.trans k),λj4 N C h k O=>#[j4,O,z.trans k,h]]
  ·have e:i=f.length:=ν;subst e;rw[OV] at F;show .inl #[o2 (aY _),n o I l F R Q]
end
section
variable{X:Cx}{tg e:Expr}{te:RE}{pos p:Pos}
def riL(te:RE):RA:=λa Q=>te a λd=>match d with
 | .lst b=>Q b
 |_=>False
def fT(h:DE X e te):DI X tg e (riL te):=by
 show PI.mono (E3 h) λZ H R n=>kF n λb P st q k=>#[b,_,st,q,λd v o j s r=>?_];cases d with
 |lst u=>
  cases r with
  | @lst a c _ f r=>
   show#[a,bg,#[c,f.sq],k u _ o j s λi C g=>#[λd e=>?_,λw=>#[c,(f.keep g).sq,by rw[<-r.length];show w]]];let⟨v,l,z⟩:=(r.keep g).get e;show#[#[c,v,(f.keep g).sq,l],λx D y=>?_];let⟨A,B⟩:=y;subst A;have m:=B c (f.keep g).sq;rw[l] at m;cases m;show#[a_.refl _,z]
 |_=>show j.elim
def riT(te:RE):RA:=λa Q=>te a λd=>match d with
 | .tup b=>Q b
 |_=>False
def Jm(h:DE X e te):DI X tg e (riT te):=by
 show PI.mono (U4 h) λZ H R n=>kF n λb P st q k=>#[b,_,st,q,λd v o j s r=>?_];cases d with
 |tup u=>
  cases r with
  | @tup a c _ f r=>
   show#[a,bg,#[c,m7.of f],k u _ o j s λi C g=>#[λd e=>?_,λw=>#[c,m7.of (g.tups _ _ f),by rw[<-r.length];show w]]];let⟨v,l,z⟩:=(r.keep g).get e;show#[#[c,v,m7.of (g.tups _ _ f),l],λx D y=>?_];let⟨A,B⟩:=y;subst A;have m:=B c (m7.of (g.tups _ _ f));rw[l] at m;cases m;show#[a_.refl _,z]
 |_=>show j.elim
def lQ(lo:Int)(n:Nat):θ D:=(cF n).map λk:Nat=>D.int (lo+(k:Int))
def Jv(lo:Int)(n:Nat):v_ X (Cb lo n) (lQ lo n) H0:=λi H c=>by
 show#[λd e=>?_,λb=>by show n<=i;simpa [lQ] using b];unfold lQ at e;rw[bC] at e;by_cases a:i<n
 ·rw[qZ a] at e;cases e;show#[a,λx f y=>by let⟨rfl,rfl⟩:=y;show#[a_.refl _,.int _]]
 ·rw[gZ (~~~a)] at e;cases e
structure w9(j:Int):Prop where
 lo:-(2 ^ 62)<=j
 hi:j<2 ^ 62
def AB(t:RA):RA:=λa Q=>t a λb=>match b with
 | [.int j]=>w9 j/\Q (lQ 0 j.toNat)
 |_=>False
def Rn(t:RA):RA:=λa Q=>t a λb=>match b with
 | [.int i,.int j]=>(w9 i/\w9 j)/\Q (lQ i (j-i).toNat)
 |_=>False
def lW{a:Expr}{t:RA}(d:X.mg "range" = ξ)(f:DA X [a] t)(g:Gl X "range":=by rfl)(h:starEach [a] X.env=[(χ,eval a X.env)]:=by rfl):DI X tg (.Call (.Name "range" p) [a] [] pos) (AB t):=by
 show PI.mono (Qw g d f h) λZ H R i=>kF i λb P st q k=>#[b,_,st,q,λn o l c m r=>?_];split at c
 ·rename_i j;rw[cn.ints_inv (ns:=[j]) r];show#[j,bg,c.1.lo,c.1.hi,k _ _ l c.2 m (Jv 0 _)]
 ·show c.elim
def Al{a b:Expr}{t:RA}(f:X.mg "range" = ξ)(g:DA X [a,b] t)(h:Gl X "range":=by rfl)(l:starEach [a,b] X.env=[(χ,eval a X.env),(χ,eval b X.env)]:=by rfl)(m:starEach [b] X.env=[(χ,eval b X.env)]:=by rfl):DI X tg (.Call (.Name "range" p) [a,b] [] pos) (Rn t):=by
 show PI.mono (Qx h f g l m) λZ H R n=>kF n λc P st q k=>#[c,_,st,q,λu v o d s r=>?_];split at d
 ·rename_i i j;rw[cn.ints_inv (ns:=[i,j]) r];show#[i,j,bg,#[d.1.1.lo,d.1.1.hi,d.1.2.lo,d.1.2.hi],k _ _ o d.2 s (Jv i _)]
 ·show d.elim
end
abbrev FD:=θ D->(D->Prop)->Prop
def wm(K:aL)(F:FD):Sp:=λc H Q _=>o5 K H/\∃b P,cn K H b c/\F b P/\∀d v a,P d->a_ H a->je K a d v->Q v a
def cE(F:FD)(t:RA):RE:=λa Q=>t a λb=>F b Q
section
variable{f:Addr}{p pos:Pos}{t:RA}
def Zk(G:qa X.prog X.w X.K X.mg X.base sw k f fd ps (wm X.K F))(c:g_ k X.A)(g:X.mg x=ψ (.ref f))(h:mI X.K (.ref f)=ζ)(i:Binds X.K fd ps [])(j:DA X (e::es) t)(l:Gl X x:=by rfl)
  (m:(x == ("__debug__":Str))=χ:=by decide) (n:starEach (e::es) X.env=(χ,eval e X.env)::starEach es X.env:=by rfl) (o:(backTo pos (starEach es X.env)).any (·.1)=χ:=by rfl):
  DE X (.Call (.Name x p) (e::es) [] pos) (cE F t):=
 PE.mono (D8 (E:=E0) G c l g h i .nil aw j m n o) λZ H Q s=>kF s λa P st q u=>#[a,_,st,q,λy z B C b r=>by
  show wm X.K F (z++[]) B Q E0;rw[cQ];show#[(st.ext b).tabs,y,P,r,C,λd v D I J r2=>u d v D I (b.trans J) r2]]
end
def dH(N:θ Str)(a:θ D):En:=a.map (λd=>ψ (.d d))++eQ (N.length-a.length) ξ
section
variable{P:cB}{w:dD}{K:aL}{mg:Str->Option aF}{base:Heap}
def Hx(f:o5 X.K X.H₀)(r:cn X.K X.H₀ ds vs):f9 X (dH N ds) (start N vs) X.H₀:=by
 have c:=r.length;have own:∀(i:Nat)(x:S),(dH N ds)[i]?=ψ (ψ x)->∃d,x = .d d:=λi x e=>by
  unfold dH at e;by_cases b:i<ds.length
  ·rw[dB (~~~b),bC,aG b] at e;cases e;show#[_,bg]
  ·rw[dJ (~~~b),jD] at e;split at e <;> cases e
 show#[by simp[dH,start,c],a_.refl _,λi x e=>?_,λi j x y v u a g _ _ _ o _=>by
  let⟨d,rfl⟩:=own i x g;show o.elim,f]
 unfold dH at e;by_cases b:i<ds.length
 ·rw[dB (~~~b),bC,aG b] at e;cases e;let⟨v,h,k⟩:=r.get (aG b);show#[v,?_,k];unfold start;rw[dB (by simpa [<-c] using b),bC,h];rfl
 ·rw[dJ (~~~b),jD] at e;split at e <;> cases e
def K5{x a:Str}{st:Stmt}{f:Addr}{i:mB}{N c:θ Str}{k:Nat}{F:FD}{t:RS}(l:wz K x a st f i)(m:m6 N c (fU st))
  (n:∀(j9:aF)(A:dG)(outer:θ Env)(s:aK)(H:Hp)(E:XK),g_ k (A.deeper (envOfC a (fU st) s.z f j9)) ->
   vk (MV sw P w K mg base N a (fU st) f j9 A outer s H E).nox (pQ st) t)
  (len:∀ds Q,F ds Q->ds.length=c.length) (b:∀ds Q,F ds Q->t {nx:=λ_=>Q .non,rt:=Q} (dH N ds)):qa P w K mg base sw (k+1) f i c (wm K F):=by
 show l.ok m (λo H Q E ⟨_,ds,P,r,h,_⟩=>by rw[<-r.length];show len ds P h) λj9 A outer s H o Q E q ⟨u,ds,y,r,h,j⟩=>#[_,n j9 A outer s H E q,?_];show#[dH N ds,_,Hx (X:=(MV sw P w K mg base N a (fU st) f j9 A outer s H E).nox) u r,b ds y h,λG I e g k B=>j .non .non e g B.same .non,λd v e g k C D=>j d v e g C D,λ_ _ _ z=>z.elim,λ_ _ _ z=>z.elim]
end
def BL(n:Nat)(i:Int):Prop:=i.natAbs<2 ^ n
def BL.bits(h:BL n i):HU i<=n:=WJ.mpr h
def BL.of(h:HU i<=n):BL n i:=WJ.mp h
def BL.mono(h:BL m i)(l:m<=n:=by decide):BL n i:=BL.of (dY h.bits l)
def BL.add(a:BL m i)(b:BL n j):BL (max m n+1) (i+j):=BL.of (intBits_add_le a.bits b.bits)
def BL.sub(a:BL m i)(b:BL n j):BL (max m n+1) (i-j):=BL.of (intBits_sub_le a.bits b.bits)
def BL.mul(a:BL m i)(b:BL n j):BL (m+n) (i*j):=BL.of (intBits_mul_le a.bits b.bits)
def BL.neg(a:BL m i):BL m (-i):=BL.of (intBits_neg_le a.bits)
def BL.fdiv(a:BL m i):BL m (i.fdiv j):=BL.of (intBits_fdiv_le a.bits)
def BL.le(a:BL m j)(h:i.natAbs<=j.natAbs):BL m i:=sB h a
def BL.of_lt{m:Nat}{i:Int}(a:-(2 ^ m:Nat)<i)(b:i<(2 ^ m:Nat)):BL m i:=by unfold BL;lia
def BL.intMulOk(a:BL m i)(b:BL n j)(h:m+n<=134217728):IntMulOk i j:=IntMulOk.of_le a.bits b.bits h
def BL.noPy(h:BL 9000 j):oS i j=χ:=by
 show PyProof.noPylong_of_log2 ?_;by_cases a:j.natAbs=0
 ·rw[a];decide +kernel
 ·show(Nat.log2_lt a).mpr h
section
variable{X:Cx}{e a b c:Expr}{pos:Pos}
def j2.int_inv{K:aL}{H:Hp}{i:Int}{v:V}(h:j2 K H (.int i) v):v = .int i:=by
 rcases h with h | ⟨f,a,g,d,_⟩
 ·show h.int_inv
 ·cases d
def j2.bl_inv{K:aL}{H:Hp}{i:Bool}{v:V}(h:j2 K H (.bl i) v):v = .bl i:=by
 rcases h with h | ⟨f,a,g,d,_⟩
 ·show h.bl_inv
 ·cases d
def j2.non_inv{K:aL}{H:Hp}{v:V}(h:j2 K H .non v):v = .non:=by
 rcases h with h | ⟨f,a,g,d,_⟩
 ·cases h;rfl
 ·cases d
def j2.is_non{K:aL}{H:Hp}{d:D}{v:V}(h:j2 K H d v):decide (v = .non)=(match d with | .non=>ζ |_=>χ):=by
 rcases h with h | ⟨i,a,j,f,g,_⟩
 ·cases h <;> simp
 ·subst f g;simp
structure MulOk(i j:Int):Prop where
 ok:IntMulOk i j
structure uu(i j:Int):Prop where
 nz:j≠0
 np:oS i j=χ
structure zd(j:Int):Prop where
 nz:j≠0
structure zf(i j:Int):Prop where
 ok:0<=j/\j<=1000000/\i.natAbs<2 ^ 64
def BL.mulOk(a:BL m i)(b:BL n j)(h:m+n<=134217728:=by decide):MulOk i j:=#[a.intMulOk b h]
def BL.divOk(h:BL 9000 j)(d:j≠0):uu i j:=#[d,h.noPy]
def kO:R22:=λx y Q=>match x,y with
 | .int i,.int j=>Q (.int (i+j))
 |_,_=>False
def iR:R22:=λx y Q=>match x,y with
 | .int i,.int j=>Q (.int (i-j))
 |_,_=>False
def fI:R22:=λx y Q=>match x,y with
 | .int i,.int j=>MulOk i j/\Q (.int (i*j))
 |_,_=>False
def qE:R22:=λx y Q=>match x,y with
 | .int i,.int j=>uu i j/\Q (.int (i.fdiv j))
 |_,_=>False
def oW:R22:=λx y Q=>match x,y with
 | .int i,.int j=>zd j/\Q (.int (i.fmod j))
 |_,_=>False
def MY:R22:=λx y Q=>match x,y with
 | .int i,.int j=>zf i j/\Q (.int (i ^ j.toNat))
 |_,_=>False
def Qu{f:aF->aF->Sem aF}{g:Int->Int->Int}(h:sr X f (rI C λi j=>.int (g i j)))
  (l:∀x y Q,r x y Q->∃i j,x = .int i/\y = .int j/\C i j/\Q (.int (g i j))):qz X f r:=by
 intro Φ s Z H x y v u Q I m n o;let⟨d,e,P,r1,r2,q,k⟩:=o;let⟨i,j,rfl,rfl,w,q⟩:=l _ _ _ q;show h Φ s Z H x y v u Q I m n #[i,j,r1.int_inv,r2.int_inv,w,k _ _ H q (a_.refl H) (.int _)]
def gB:qz X (binaryOp .Add) kO:=Qu (C:=λ_ _=>True) (g:=λi j=>i+j) (et λ_ _ _ _ _ _ _ _ q=>add_int q) λx y Q q=>by
 unfold kO at q;split at q
 ·show#[_,_,bg,bg,trivial,q]
 ·show q.elim
def fG:qz X (binaryOp .Sub) iR:=Qu (C:=λ_ _=>True) (g:=λi j=>i-j) (et λ_ _ _ _ _ _ _ _ q=>sub_int q) λx y Q q=>by
 unfold iR at q;split at q
 ·show#[_,_,bg,bg,trivial,q]
 ·show q.elim
def cX:qz X (binaryOp .Mult) fI:=Qu (C:=λi j=>IntMulOk i j) (g:=λi j=>i*j) (et λ_ _ _ _ _ _ _ d q=>mul_int q d) λx y Q q=>by
 unfold fI at q;split at q
 ·show#[_,_,bg,bg,q.1.ok,q.2]
 ·show q.elim
def lO:qz X (binaryOp .FloorDiv) qE:=Qu (C:=λi j=>j≠0/\oS i j=χ) (g:=λi j=>i.fdiv j) (et λ_ _ _ _ _ _ _ d q=>floordiv_int d.1 q (.inl d.2)) λx y Q q=>by
 unfold qE at q;split at q
 ·show#[_,_,bg,bg,#[q.1.nz,q.1.np],q.2]
 ·show q.elim
def jN:qz X (binaryOp .Mod) oW:=Qu (C:=λ_ j=>j≠0) (g:=λi j=>i.fmod j) (et λ_ _ _ _ _ _ _ d q=>mod_int' d q) λx y Q q=>by
 unfold oW at q;split at q
 ·show#[_,_,bg,bg,q.1.nz,q.2]
 ·show q.elim
def CS:qz X (binaryOp .Pow) MY:=Qu (C:=λi j=>0<=j/\j<=1000000/\i.natAbs<2 ^ 64) (g:=λi j=>i ^ j.toNat) (et λ_ _ _ _ _ _ _ d q=>pow_int_small d.1 d.2.1 d.2.2 q) λx y Q q=>by
 unfold MY at q;split at q
 ·show#[_,_,bg,bg,q.1.ok,q.2]
 ·show q.elim
def TN:D->(D->Prop)->Prop:=λx Q=>match x with
 | .int i=>Q (.int (-i))
 |_=>False
def YK:kw X (unaryOp .USub) TN:=by
 intro Φ s Z H x v Q I f g;let⟨d,P,r,q,k⟩:=g;unfold TN at q;split at q
 ·rename_i i;show Y1 Φ s Z H x v Q I f #[i,r.int_inv,k _ _ H q (a_.refl H) (.int _)]
 ·show q.elim
def mK(p:Int->Int->Bool):R22:=λx y Q=>match x,y with
 | .int i,.int j=>Q (.bl (p i j))
 |_,_=>False
def C7{f:aF->aF->Sem aF}(h:sr X f (eH λi j=>.bl (p i j))):qz X f (mK p):=by
 intro Φ s Z H x y v u Q I g l m;let⟨d,e,P,r1,r2,q,k⟩:=m;unfold mK at q;split at q
 ·rename_i i j;show h Φ s Z H x y v u Q I g l #[i,j,r1.int_inv,r2.int_inv,k _ _ H q (a_.refl H) (.bl _)]
 ·show q.elim
def vF:qz X (compareOp .Lt) (mK λi j=>decide (i<j)):=C7 L8
def Nw:qz X (compareOp .LtE) (mK λi j=>decide (i<=j)):=C7 L7
def RV:qz X (compareOp .Gt) (mK λi j=>decide (j<i)):=C7 L6
def L3:qz X (compareOp .GtE) (mK λi j=>decide (j<=i)):=C7 L5
def qR(neg:Bool):R22:=λx y Q=>match x,y with
 | .int i,.int j=>Q (.bl (if neg then !decide (i=j) else decide (i=j)))
 | .bl i,.bl j=>Q (.bl (if neg then !decide (i=j) else decide (i=j)))
 |_,_=>False
def vW:qz X (compareOp .Eq) (qR χ):=by
 intro Φ s Z H x y v u Q I f g h;let⟨d,e,P,r1,r2,q,k⟩:=h;unfold qR at q;split at q
 ·rename_i i j;rw[r1.int_inv] at f;rw[r2.int_inv] at g;show L4 Φ s Z H _ _ v u Q I f g #[bg,by
   have e:decide (V.int i=V.int j)=decide (i=j):=η;rw[e];show k _ _ H q (a_.refl H) (.bl _)]
 ·rename_i i j;rw[r1.bl_inv] at f;rw[r2.bl_inv] at g;show L4 Φ s Z H _ _ v u Q I f g #[bg,by
   have e:decide (V.bl i=V.bl j)=decide (i=j):=η;rw[e];show k _ _ H q (a_.refl H) (.bl _)]
 ·show q.elim
def vX:qz X (compareOp .NotEq) (qR ζ):=by
 intro Φ s Z H x y v u Q I f g h;let⟨d,e,P,r1,r2,q,k⟩:=h;unfold qR at q;split at q
 ·rename_i i j;rw[r1.int_inv] at f;rw[r2.int_inv] at g;show L9 Φ s Z H _ _ v u Q I f g #[bg,by
   have e:decide (V.int i=V.int j)=decide (i=j):=η;rw[e];show k _ _ H q (a_.refl H) (.bl _)]
 ·rename_i i j;rw[r1.bl_inv] at f;rw[r2.bl_inv] at g;show L9 Φ s Z H _ _ v u Q I f g #[bg,by
   have e:decide (V.bl i=V.bl j)=decide (i=j):=η;rw[e];show k _ _ H q (a_.refl H) (.bl _)]
 ·show q.elim
def NK:D->Bool
 | .non=>ζ
 |_=>χ
def MW(neg:Bool):R22:=λx y Q=>match y with
 | .non=>Q (.bl (if neg then !NK x else NK x))
 |_=>False
def Fy{K:aL}{H:Hp}{d:D}{v:V}(h:j2 K H d v):decide (v = .non)=NK d:=by
 rw[h.is_non];cases d <;> rfl
def Wc:qz X (compareOp .Is) (MW χ):=by
 intro Φ s Z H x y v u Q I f g h;let⟨d,e,P,r1,r2,q,k⟩:=h;unfold MW at q;split at q
 ·show T0 Φ s Z H x y v u Q I f g #[r2.non_inv,by rw[Fy r1];show k _ _ H q (a_.refl H) (.bl _)]
 ·show q.elim
def Nx:qz X (compareOp .IsNot) (MW ζ):=by
 intro Φ s Z H x y v u Q I f g h;let⟨d,e,P,r1,r2,q,k⟩:=h;unfold MW at q;split at q
 ·show D5 Φ s Z H x y v u Q I f g #[r2.non_inv,by rw[Fy r1];show k _ _ H q (a_.refl H) (.bl _)]
 ·show q.elim
def f8:R22:=λx y Q=>match x,y with
 | .lst f,.int i=>match qe f i with
  |some d=>Q d
  |none=>False
 | .tup f,.int i=>match qe f i with
  |some d=>Q d
  |none=>False
 |_,_=>False
def Ee{K:aL}{H:Hp}{f:θ D}{vs:θ V}{i:Int}{d:D}(r:cn K H f vs)(h:qe f i=ψ d):∃v,qe vs i=ψ v/\je K H d v:=by
 unfold qe at h⊢;rw[<-r.length];cases e:uj f.length i with
 |none=>rw[e] at h;cases h
 |some j=>
  rw[e] at h;show r.get h
def fY(B:DB X a ta)(C:DB X b tb)(D:Br b:=by intro _ _;rfl):DE X (.Subscript a b pos) (r2 f8 ta tb):=by
 show PE.mono (ay (A4.or Q7) B C D) λZ H Q h=>?_;let⟨g,P,st,E,z⟩:=h;show#[g,_,st,E,λx v I F l r1=>#[g,_,st.ext l,F,λy u A f m r2=>?_]];have j:=r1.same m;unfold f8 at f;split at f
 ·rename_i G i;split at f
  ·rename_i d e;let⟨p,n,rfl,o,q⟩:=j.lst;let⟨k,s,w⟩:=Ee q e;show .inl #[p,n,i,k,bg,r2.int_inv,o,s,z d k A f (l.trans m) w]
  ·show f.elim
 ·rename_i G i;split at f
  ·rename_i d e;let⟨p,n,rfl,o,q⟩:=j.tup;let⟨k,s,w⟩:=Ee q e;show .inr #[p,n,i,k,bg,r2.int_inv,m7.of o,s,z d k A f (l.trans m) w]
  ·show f.elim
 ·show f.elim
abbrev RO:=En->(Option Int->Prop)->Prop
def am(X:Cx)(t:RO):TO:=λZ H Q=>∃d P,f9 X d Z H/\t d P/\∀o f,P o->a_ H f->Q o f
def DP(X:Cx)(e:Option Expr)(t:RO):Prop:=PO X e (am X t)
def lP:RO:=λ_ Q=>Q ξ
def tL(t:RE):RO:=λf Q=>t f λd=>match d with
 | .int i=>Q (ψ i)
 |_=>False
def tH:DP X ξ lP:=λΦ s Z H Q I f=>kF f λd P st q k=>Oa Φ s Z H Q I (k ξ H q (a_.refl H))
def tI{t:RE}(h:DE X e t):DP X (ψ e) (tL t):=λΦ s Z H Q I j=>kF j λf P st q k=>Dh h Φ s Z H Q I #[f,_,st,q,λd v l g m r=>by
 cases d with
 |int i=>show#[i,r.int_inv,k (ψ i) l g m]
 |_=>show g.elim]
def cutD(xs:θ D)(lo hi:Option Int):θ D:=(xs.drop (HT.sIx xs.length 0 lo)).take (HT.sIx xs.length xs.length hi-HT.sIx xs.length 0 lo)
def Az(f:RE)(g h:RO):RA:=λd Q=>f d λx=>g d λl=>h d λu=>match x with
 | .lst i=>Q (cutD i l u)
 |_=>False
def Fi{lo hi:Option Expr}(o:DB X e te)(s:DP X lo tl)(w:DP X hi th):DO X (.Subscript e (.Slice lo hi ξ p2) pos) (Az te tl th):=by
 show PE.mono (Gw Op o s w) λZ H Q y=>kF y λf P st q k=>?_;show#[f,_,st,q,λd v F z g r1=>#[f,_,st.ext g,z,λl G A h=>#[f,_,(st.ext g).ext h,A,λu H3 i j=>?_]]];cases d with
 |lst B=>
  let⟨p,m,rfl,C,n⟩:=(r1.same (h.trans j)).lst;show#[p,m,bg,C,λD E=>k (cutD B l u) D (ZB m l u) H3 i ((g.trans h).trans j) E ?_];unfold cutD ZB;rw[<-n.length];show(n.drop _).take _
 |_=>show i.elim
def R7(X:Cx)(r:θ D->(D->Prop)->Prop):θ V->Hp->VK->Prop:=λg H Q=>∃f P,cn X.K H f g/\r f P/\∀z v d,P z->a_ H d->je X.K d z v->Q v d
def LW(X:Cx)(f:aF)(r:θ D->(D->Prop)->Prop):Prop:=yO X f (R7 X r)
def rCB(r:θ D->(D->Prop)->Prop)(t:RA):RE:=λd Q=>t d λf=>r f Q
variable{x:Str}{p:Pos}{es:θ Expr}{t:RA}{id T:String}{r:θ D->(D->Prop)->Prop}
def rJ(f:LW X (.builtin id) r)(g:X.mg x=ξ)(h:bootBuiltins x=ψ (.builtin id))(i:DA X (e::es) t)(j:Gl X x:=by rfl)(l:x≠"__name__":=by decide)(m:(x == ("__debug__":Str))=χ:=by decide)
  (n:starEach (e::es) X.env=(χ,eval e X.env)::starEach es X.env:=by rfl) (o:(backTo pos (starEach es X.env)).any (·.1)=χ:=by rfl):DE X (.Call (.Name x p) (e::es) [] pos) (rCB r t):=
 PE.mono (BG f j g h i l m n o) λZ H Q s=>kF s λd P st q k=>#[d,_,st,q,λu F G w y A=>#[u,P,A,w,λz v B C E r2=>k z v B C (y.trans E) r2]]
def xD(f:LW X (.type T) r)(g:X.mg x=ξ)(h:bootBuiltins x=ψ (.type T))(i:DA X (e::es) t)(j:Gl X x:=by rfl)(l:x≠"__name__":=by decide)(m:(x == ("__debug__":Str))=χ:=by decide)
  (n:starEach (e::es) X.env=(χ,eval e X.env)::starEach es X.env:=by rfl) (o:(backTo pos (starEach es X.env)).any (·.1)=χ:=by rfl):DE X (.Call (.Name x p) (e::es) [] pos) (rCB r t):=
 PE.mono (QH f j g h i l m n o) λZ H Q s=>kF s λd P st q k=>#[d,_,st,q,λu F G w y A=>#[u,P,A,w,λz v B C E r2=>k z v B C (y.trans E) r2]]
def Ez:θ D->(D->Prop)->Prop:=λd Q=>match d with
 | [.int i]=>Q (.int (if i<0 then -i else i))
 |_=>False
def VR:LW X (.builtin "abs") Ez:=by
 intro Φ s Z H h f Q I d g;let⟨j,P,r,q,k⟩:=g;unfold Ez at q;split at q
 ·rename_i i;cases r with
  |cons r1 r2=>
   cases r2;rw[r1.int_inv] at d;show Sw Φ s Z H _ f Q I d #[i,bg,k _ _ H q (a_.refl H) (.int _)]
 ·show q.elim
def VU:θ D->(D->Prop)->Prop:=λd Q=>match d with
 | [.bl b]=>Q (.int (if b then 1 else 0))
 | [.int i]=>Q (.int i)
 |_=>False
def PK:LW X (.type "int") VU:=by
 intro Φ s Z H h f Q I d g;let⟨j,P,r,q,k⟩:=g;unfold VU at q;split at q
 ·rename_i i;cases r with
  |cons r1 r2=>
   cases r2;rw[r1.bl_inv] at d;show Ae Φ s Z H _ f Q I d (.inr #[i,bg,k _ _ H q (a_.refl H) (.int _)])
 ·rename_i i;cases r with
  |cons r1 r2=>
   cases r2;rw[r1.int_inv] at d;show Ae Φ s Z H _ f Q I d (.inl #[i,bg,k _ _ H q (a_.refl H) (.int _)])
 ·show q.elim
def Mo:θ D->(D->Prop)->Prop:=λd Q=>match d with
 | [.int i,.int j]=>Q (.int (if j > i then j else i))
 |_=>False
def Aj:θ D->(D->Prop)->Prop:=λd Q=>match d with
 | [.int i,.int j]=>Q (.int (if j<i then j else i))
 |_=>False
def Yz(f:X.calm=ζ:=by rfl):LW X (.builtin "max") Mo:=by
 intro Φ s Z H l g Q I d h;let⟨m,P,r,q,k⟩:=h;unfold Mo at q;split at q
 ·rename_i i j
  ·rw[cn.ints_inv (ns:=[i,j]) r] at d;show Pf f Φ s Z H _ g Q I d #[i,j,bg,k _ _ H q (a_.refl H) (.int _)]
 ·show q.elim
def Mg(f:X.calm=ζ:=by rfl):LW X (.builtin "min") Aj:=by
 intro Φ s Z H l g Q I d h;let⟨m,P,r,q,k⟩:=h;unfold Aj at q;split at q
 ·rename_i i j
  ·rw[cn.ints_inv (ns:=[i,j]) r] at d;show Ph f Φ s Z H _ g Q I d #[i,j,bg,k _ _ H q (a_.refl H) (.int _)]
 ·show q.elim
def nE:D->(D->Prop)->Prop:=λd Q=>match d with
 | .lst f=>Q (.int f.length)
 | .tup f=>Q (.int f.length)
 |_=>False
def oQ{t:TE}(h:PE X e t)(d:starEach [e] X.env=[(χ,eval e X.env)]:=by rfl)(f:starEach [] X.env=[]:=by rfl):PA X [e] (λZ H Q=>t Z H λv H'=>Q [v] H'):=
 PA.mono (yW h QG (by rw[d,f])) λZ H Q q=>q
def kA{n:RE}(w:X.mg "len" = ξ)(h:DB X e n)(y:Gl X "len":=by rfl)(o:starEach [e] X.env=[(χ,eval e X.env)]:=by rfl)(i:starEach [] X.env=[]:=by rfl):DE X (.Call (.Name "len" p) [e] [] pos) (r1 nE n):=by
 show PE.mono (BG Bx y w PySem.boot_len (oQ h o i) μ μ (by rw[o,i]) (by rw[i];rfl)) λZ H Q z=>kF z λf P st q k=>#[f,_,st,q,λd v s g u r=>?_];unfold nE at g;split at g
 ·let⟨p,j,rfl,l,m⟩:=r.lst;show#[p,j,bg,.inl l,by rw[<-m.length];show k _ _ s g u (.int _)]
 ·let⟨p,j,rfl,l,m⟩:=r.tup;show#[p,j,bg,.inr (m7.of l),by rw[<-m.length];show k _ _ s g u (.int _)]
 ·show g.elim
end
section
variable{X:Cx}{Φ:θ (Addr×Obj)}{σ:St}{H:Hp}{s:aK}{h':Heap}
def _root_.L2.Inv.turnedL{t':Nat}{ch:θ Addr}(I:Inv X Φ σ H s)(k:∀b o,b∉ch->s.heap.get? b=ψ o->h'.get? b=ψ o)(f:∀b∈ch,JR X Φ H b):Inv X Φ σ H {s with heap:=h',toks:=t'}:=by
 have g:∀b u,H b=ψ u->b∉ch:=λb u e z=>by rw[(f b z).1] at e;cases e
 show I.step (g':=s.gens) (d':=s.drawn) (ch:=ch) (λb d=>#[(f b d).2.2.2.1,(f b d).2.1,(f b d).2.2.2.2.1,(f b d).2.2.2.2.2]) (λb o _ _ a e _=>k b o a e) (λb o _ _ a e _=>#[o.slots,k b o a e]) (λ_ _ _ _ n=>n)
  (λb o a e=>#[o,k b o a e]) (λ_ _ e=>e) (λ_ _ _ e=>e) (λb w e=>#[(LE []),by rw[e];simp]) (λm h=>?_) (λb u e=>?_) I.bare
 ·let⟨o,i,j,l,r⟩:=h;show#[o,i,j,k _ o (λz=>(f _ z).2.1 rfl) l,r]
 ·show(I.hok b u e).stay (λc v a q=>k c v ?_ q) (λ_ q=>q) λ_ _ q=>q;rcases a with z |z
  ·rw[z];show g b u e
  ·show g c _ z
def _root_.L2.Inv.turnedT{t':Nat}{ch:θ Addr}{T:Addr}{xs:θ V}{its:θ aF}(I:Inv X Φ σ H s)(k:∀b o,b∉ch->s.heap.get? b=ψ o->h'.get? b=ψ o)(f:∀b∈ch,JR X Φ H b)
  (h:s.z<=T) (j:h'.IsTuple T its.toArray) (l:c9 xs its) (hz:xs.length<=sizeLine):Inv X Φ σ (f_ H T (.tup xs)) {s with heap:=h',toks:=t'}:=by
 have i:∀b u,H b=ψ u->b∉ch:=λb u e z=>by rw[(f b z).1] at e;cases e
 have g:H T=ξ:=I.hok.fresh h;have ne:∀{b:Addr}{o:Obj},s.heap.get? b=ψ o->b≠T:=λe=>bP (bU (bG e) h);show I.step (g':=s.gens) (d':=s.drawn) (ch:=ch) (λb a=>#[(f b a).2.2.2.1,(f b a).2.1,(f b a).2.2.2.2.1,(f b a).2.2.2.2.2]) (λb o _ _ d e _=>k b o d e) (λb o _ _ d e _=>#[o.slots,k b o d e]) (λb o _ e n=>by rw[cY (ne e)];show n)
  (λb o d e=>#[o,k b o d e]) (λb w e=>by rw[cY (dF e g)];show e) (λb o u e=>by rw[cY (dF e g)];show e) (λb D e=>#[(LE []),by rw[cY (dF e g),e];simp]) (λm y=>?_) (λb u e=>?_) I.bare
 ·let⟨o,A,B,C,r⟩:=y;show#[o,A,B,k _ o (λz=>(f _ z).2.1 rfl) C,r]
 ·by_cases a:b=T
  ·subst a;rw[fA] at e;cases e;show#[hz,its,l,j]
  ·rw[cY a] at e;show(I.hok b u e).stay (λc v d q=>k c v ?_ q) (λc q=>by rw[cY (dF q g)];show q) λc w q=>by rw[cY (dF q g)];show q
   rcases d with z |z
   ·rw[z];show i b u e
   ·show i c _ z
end
def fk(K:aL)(l:Addr):It:=
 #[λi H=>∃a x,om K H l a/\a[i]?=ψ x,λi H x b=>∃p y,H p=ξ/\x = .ref p/\b=f_ H p (.tup [.int (i:Int),y])/\∀a,om K H l a->a[i]?=ψ y,λi H=>∃a,om K H l a/\a.length<=i]
def Rx{P:cB}{w:dD}{K:aL}{f:θ Expr}{k:Nat}{pos:Pos}(l e c:Addr)(F:e≠c)(G:l≠e)(J:l≠c):
  uf P w K (.Tuple f k pos) (fk K l) [e,c] e (λi h=>(∃old,IsEnum h e c i old)/\h.IsListIter c l i) where
 mem:=η
 obj:=λi h st b a=>by
  obtain⟨⟨old,d⟩,o,m,B,hd⟩:=st;rcases aV.mp a with rfl |a
  ·show#[_,d,λv z=>by cases z]
  ·rw[bR.mp a];show#[o,m,λv z=>by rw[hd] at z;cases z]
 keep:=λi h h' st j=>by
  obtain⟨⟨old,d⟩,g⟩:=st;show#[#[old,j e η _ d],g.at λo x=>j c η o x]
 item:=by
  intro X L M N B i Φ s Z H E I C st O;subst L M N;let⟨xs,x,D,Q⟩:=O;let⟨its,R,p,hz⟩:=I.list D;let⟨u,hu,ru⟩:=R.get Q;have W:=WalksT.enumerate (prog:=X.prog) (w:=X.w) (A:=X.A) (I.ok.hd B) e c l F G J its.toArray;have k8:i<its.toArray.size:=by
   have:=(bF.mp hu).1;simpa using this
  show W.item i s _ _ k8 #[st.1,st.2,p.isList] λT vals h1 tk hv U ht hm j=>?_;let⟨t,y,hy,rfl⟩:=hv;have ey:y=u:=by
   have:its.toArray[i]?=ψ u:=(~~~hu);rw[hy] at this;show cW this
  subst ey;show#[_,bg,?_];have I1:Inv X Φ Z (f_ H T (.tup [.int (i:Int),x])) {s with heap:=h1,toks:=tk}:=
   I.turnedT (its:=[.int i t,y]) (ch:=[e,c]) j C U (~~~ht) (.cons #[t,bg] (.cons ru .nil)) (by show 2<=sizeLine;decide)
  have hn:H T=ξ:=I.hok.fresh U;show W.go f k pos i T _ _ _ hm λh2 yc V=>?_;have n:∀b∈[e,c],JR X Φ (f_ H T (.tup [.int (i:Int),x])) b:=λb a=>by
   let⟨f0,f1⟩:=C b a;obtain⟨o,m,_⟩:∃o,s.heap.get? b=ψ o/\True:=by
    rcases aV.mp a with rfl |a
    ·let⟨old,d⟩:=st.1;show#[_,d,trivial]
    ·rw[bR.mp a];let⟨o,m,_⟩:=st.2;show#[o,m,trivial]
   show#[by rw[cY (bP (bU (bG m) U))];show f0,f1]
  show#[.ref T,_,I1.turnedL (ch:=[e,c]) (t':=tk) V n,bg,#[T,x,hn,bg,bg,λys Y=>by rw[I.list_inj Y D];show Q],#[yc.1,yc.2.1],λb a=>(n b a).1]
 done:=by
  intro X L M N B i Φ s Z H E I C st O;subst L M N;let⟨xs,D,Q⟩:=O;let⟨its,R,p,hz⟩:=I.list D;obtain⟨⟨old,d⟩,g⟩:=st;have hl:=R.length;show wpAny_pyNext_enum_end (I.ok.hd B) d g p.isList (by rw[tY];show gZ ν) λh1 j=>#[bg,I.turnedL (ch:=[e,c]) (t':=s.toks) (λb o a q=>j b o (λz=>a (by simp[z])) q) C]
 self:=λ_ _ _ _ _ st h=>by
  obtain⟨⟨old,d⟩,_⟩:=st;show OJ d h
def Am(a:θ D):θ D:=a.zipIdx.map λp=>D.tup [.int (p.2:Int),p.1]
section
variable{X:Cx}{e:Expr}{te:RE}{pos p:Pos}{elts:θ Expr}{k:Nat}{tp:Pos}
def F6(te:RE):RA:=λa Q=>te a λd=>match d with
 | .lst b=>Q (Am b)
 |_=>False
def Zl(hm:X.mg "enumerate" = ξ)(h:DE X e te)(hg:Gl X "enumerate":=by rfl)(N:starEach [e] X.env=[(χ,eval e X.env)]:=by rfl)(A:starEach [] X.env=[]:=by rfl):
  DI X (.Tuple elts k tp) (.Call (.Name "enumerate" p) [e] [] pos) (F6 te):=by
 intro Φ s Z H R I e9;let⟨c,P,st,q,kk⟩:=e9;show Call_ (oA I hg hm PyProof.Rows.boot_enumerate (dE (i0 (oQ h N A pos Φ s Z H (λC g=>∃a j F,C=[V.ref a]/\a_ H g/\P (Am j)/\vf X.K g a F/\cn X.K g j F) I #[c,_,st,q,λd v g O f r=>?_]) λF f ⟨C,g,l,r1,q1⟩=>?_) (by rw[N,A]) (by rw[A];rfl)))
 ·cases d with
  |lst j=>
   cases r with
   | @lst a C _ m D=>show#[a,j,C,bg,f,O,m,D]
  |_=>show O.elim
 let⟨a,j,G,rfl,qw,hp,m,D⟩:=q1;let⟨u,rfl,ru⟩:=vals1 r1;cases ru;let⟨its,rv,Q,xy⟩:=l.list m.sq;show call_enumerate_list Q.isList λh' T J hsz L=>?_;have I2:Inv X Φ Z g {f with heap:=h'}:=l.kept (t':=f.toks) L;have B:a<f.z:=by let⟨o,n,e,_⟩:=Q;show bG e
 show OJ T #[f.z+1,[f.z+1,f.z],_,_,g,bg,I2,Rx a (f.z+1) f.z (qP _) (bP (iX B)) (bP B),#[#[.none,T],J],λb M=>?_,?_]
 ·rcases aV.mp M with rfl |M
  ·show(l.fpOk (sI _) (l.hok.fresh (sI _)))
  ·rw[bR.mp M];show(l.fpOk (aY _) (l.hok.fresh (aY _)))
 ·show kk (Am j) _ g hp qw λi U E=>#[λd w=>?_,λhl=>#[G,(m.keep E).sq,by rw[<-D.length];simpa [Am] using hl]];unfold Am at w;rw[bC,List.getElem?_zipIdx] at w;cases e0:j[i]? with
  |none=>rw[e0] at w;cases w
  |some d0=>
   rw[e0] at w;cases w;let⟨v,W,h2⟩:=(D.keep E).get e0;show#[#[G,v,(m.keep E).sq,W],λx H' y=>?_];let⟨pp,y,A,rfl,rfl,hy⟩:=y;have Y:=hy G (m.keep E).sq;rw[W] at Y;cases Y;have sm:a_ U (f_ U pp (.tup [.int (i:Int),v])):=a_.fn λb o e=>(by rw[cY (dF e A)];show e);show#[sm,.tup fA (.cons (~~~je.int (i:Int)) (.cons (h2.keep (.of sm)) .nil))]
end
def Cq(T:String):D->Option Bool
 | .non=>ψ (T == "NoneType")
 | .bl _=>ψ (T == "bool" ||T == "int")
 | .int _=>ψ (T == "int")
 | .str _=>ψ (T == "str")
 | .tup _=>ψ (T == "tuple")
 | .lst _=>ψ (T == "list")
 | .dct _ _=>ξ
 | .dtt _ _=>ξ
def EI(T:String):D->(D->Prop)->Prop:=λd Q=>match Cq T d with
 |some b=>Q (.bl b)
 |none=>False
structure ux(K:aL)(T:String):Prop where
 non:mJ K (.type "NoneType") (.type T)=ψ (T == "NoneType")
 bl:mJ K (.type "bool") (.type T)=ψ (T == "bool" ||T == "int")
 int:mJ K (.type "int") (.type T)=ψ (T == "int")
 str:mJ K (.type "str") (.type T)=ψ (T == "str")
 tup:mJ K (.type "tuple") (.type T)=ψ (T == "tuple")
 lst:mJ K (.type "list") (.type T)=ψ (T == "list")
section
variable{pos p p2:Pos}{T:String}
def tF(f:ux X.K T)(D:X.mg "isinstance" = ξ)(E:X.mg x=ξ)(j:bootBuiltins x=ψ (.type T))(h:DE X e te)(F:Gl X "isinstance":=by rfl)(l:Gl X x:=by rfl)(G:x≠"__name__":=by decide)(m:(x == ("__debug__":Str))=χ:=by decide)
  (A:starEach [e,.Name x p2] X.env=(χ,eval e X.env)::starEach [.Name x p2] X.env:=by rfl) (J:starEach [.Name x p2] X.env=(χ,eval (.Name x p2) X.env)::starEach [] X.env:=by rfl) (L:(backTo pos (starEach [.Name x p2] X.env)).any (·.1)=χ:=by rfl):
  DE X (.Call (.Name "isinstance" p) [e,.Name x p2] [] pos) (r1 (EI T) te):=by
 have w:yO X (.builtin "isinstance") (λB H Q=>∃d v P,B=[v,.ty T]/\je X.K H d v/\EI T d P/\∀b,P (.bl b)->Q (.bl b) H):=by
  intro Φ s Z H B us Q I r M;let⟨d,v,P,N,O,q,k⟩:=M;subst N;let⟨u,w',rfl,r1,r2⟩:=vals2 r;cases r2;unfold EI at q;split at q
  ·rename_i b i;have g:∀{t:aF},q8 X.K H v t->mJ X.K t (.type T)=ψ b->Δ X (call (.builtin "isinstance") [u,.type T]) (EP X Φ Z Q) X.xe s:=λC e=>Qd I r1 C e λy=>#[.bl b,H,I.tok y,bg,k b q];cases O with
   |non=>cases i;show g .non f.non
   |bl _=>cases i;show g (.bl _) f.bl
   |int _=>cases i;show g (.int _) f.int
   |str _=>cases i;show g (.str _) f.str
   |tup h _=>cases i;show g (.tup h) f.tup
   | @lst a vs _ h _=>
    cases i;rcases h with⟨o,h⟩ | ⟨o,R,n,U,w,_⟩
    ·show g (.frz h) f.lst
    ·cases (show u=eO a from r1);show gP yQ I.kIn #[o,I.kIn a o U,w] f.lst (λz=>nomatch z) λy=>#[.bl _,H,I.tok y,bg,k _ q]
   |dct _ _ _=>cases i
   |dtt _ _ _=>cases i
  ·show q.elim
 show PE.mono (BG w F D PyProof.Rows.boot_isinstance (yW h (yW (D7 (v:=.ty T) l E j rfl G m) QG J) A) μ μ A L) λZ H Q V=>kF V λc P st q k=>?_;show#[c,_,st,q,λd v W m Y r=>#[d,v,P,bg,r,m,λb j=>k _ _ W j Y (.bl b)]]
end
def AW:bootBuiltins "abs" = ψ (.builtin "abs"):=γ
def Ad:bootBuiltins "max" = ψ (.builtin "max"):=γ
def PJ:bootBuiltins "min" = ψ (.builtin "min"):=γ
def uK:bootBuiltins "int" = ψ (.type "int"):=γ
def Jh:bootBuiltins "bool" = ψ (.type "bool"):=γ
def nD:bootBuiltins "tuple" = ψ (.type "tuple"):=γ
def KK:bootBuiltins "list" = ψ (.type "list"):=γ
def G6(K:aL):ux K "int":=#[by rfl,by rfl,by rfl,by rfl,by rfl,by rfl]
def Yo(K:aL):ux K "bool":=#[by rfl,by rfl,by rfl,by rfl,by rfl,by rfl]
def YE(K:aL):ux K "list":=#[by rfl,by rfl,by rfl,by rfl,by rfl,by rfl]
def qV(K:aL):ux K "tuple":=#[by rfl,by rfl,by rfl,by rfl,by rfl,by rfl]
def Z0{P:θ aF->Prop}(h:P [])(a:θ aF)(b:a.length=0):P a:=by
 rw[oE b];show h
def bind1{P:θ aF->Prop}(h:∀a,P [a])(b:θ aF)(c:b.length=1):P b:=by
 cases b with
 |nil=>cases c
 |cons a b=>show Z0 (P:=λb=>P (a::b)) (h a) b (wU c)
def bind2{P:θ aF->Prop}(h:∀a b,P [a,b])(c:θ aF)(d:c.length=2):P c:=by
 cases c with
 |nil=>cases d
 |cons a c=>show bind1 (P:=λc=>P (a::c)) (h a) c (wU d)
def bind3{P:θ aF->Prop}(h:∀a b c,P [a,b,c])(d:θ aF)(e:d.length=3):P d:=by
 cases d with
 |nil=>cases e
 |cons a d=>show bind2 (P:=λd=>P (a::d)) (h a) d (wU e)
structure FnAt(P:cB)(w:dD)(K:aL)(mg:Str->Option aF)(base:Heap)(x:Str)(ps:List Str)(k:Nat)(F:FD):Prop where
 ex:∃f fd,qa P w K mg base sw k f fd ps (wm K F)/\Binds K fd ps []/\mI K (.ref f)=ζ/\mg x=ψ (.ref f)
structure m5(K:aL)(mg:Str->Option aF)(x:Str)(st:Stmt)(ps:List Str):Prop where
 ex:∃f fd,wz K x x st f fd/\mg x=ψ (.ref f)/\∀us:θ aF,us.length=ps.length->bindArgs fd #[us,[]]=pure (ps.zip us)
nonrec def qp:Stmt->Str
 | .FunctionDef n ..=>n
 |_=>""
nonrec def qs:Stmt->θ Str
 | .FunctionDef _ a ..=>a.args.map (·.arg)
 |_=>[]
abbrev iU(K:aL)(mg:Str->Option aF)(st:Stmt):Prop:=m5 K mg (qp st) st (qs st)
section
variable{P:cB}{w:dD}{K:aL}{mg:Str->Option aF}{base:Heap}
def m5.ok{x:Str}{st:Stmt}{N e:θ Str}{k:Nat}{F:FD}{t:RS}(Z:m5 K mg x st e)(g:m6 N e (fU st))
  (h:∀{f:Addr}(j9:aF)(A:dG)(outer:θ Env)(s:aK)(H:Hp)(E:XK),g_ k (A.deeper (envOfC x (fU st) s.z f j9)) ->
   vk (MV sw P w K mg base N x (fU st) f j9 A outer s H E).nox (pQ st) t)
  (len:∀ds Q,F ds Q->ds.length=e.length) (d:∀ds Q,F ds Q->t {nx:=λ_=>Q .non,rt:=Q} (dH N ds)):FnAt P w K mg base x e (k+1) F:=by
 let⟨f,i,a,b,c⟩:=Z.ex;show#[f,i,K5 a g (λj9 A outer s H E j=>h j9 A outer s H E j) len d,.all c,a.kp,b]
end
section
variable{p pos:Pos}{t:RA}
def Uf(C:FnAt X.prog X.w X.K X.mg X.base x ps k F)(a:g_ k X.A)(b:DA X (e::es) t)(c:Gl X x:=by rfl)
  (d:(x == ("__debug__":Str))=χ:=by decide) (g:starEach (e::es) X.env=(χ,eval e X.env)::starEach es X.env:=by rfl) (h:(backTo pos (starEach es X.env)).any (·.1)=χ:=by rfl):
  DE X (.Call (.Name x p) (e::es) [] pos) (cE F t):=by
 let⟨f,m,G,i,j,l⟩:=C.ex;show Zk G a l j i b c d g h
end
def Pc(n:Nat):FD:=λb Q=>∃a:θ Int,b=[.lst (a.map .int)]/\a.length<=n/\Q (.bl ζ)
def pi(f:D->D->Option Bool):θ D->θ D->Option Bool
 | [],[]=>ψ ζ
 | [],_::_=>ψ χ
 |_::_,[]=>ψ χ
 |x::c,y::d=>match f x y,pi f c d with
  |some a,ψ b=>ψ (a && b)
  |_,_=>ξ
def k5:Nat->D->D->Option Bool
 | 0,_,_=>ξ
 |n+1,d,e=>match d,e with
  | .int a,.int b=>ψ (decide (a=b))
  | .bl a,.bl b=>ψ (decide (a=b))
  | .non,.non=>ψ ζ
  | .non,.tup _=>ψ χ
  | .tup _,.non=>ψ χ
  | .tup c,.tup f=>pi (k5 n) c f
  | .lst c,.lst f=>pi (k5 n) c f
  |_,_=>ξ
theorem NH{f:D->D->Option Bool}:∀{xs ys:θ D}{b:Bool},pi f xs ys=ψ b->∀(j:Nat)(x y:D),xs[j]?=ψ x->ys[j]?=ψ y->∃c,f x y=ψ c
 | [],_,_,_,j,x,y,e,_=>by simp at e
 |_::_,[],_,_,j,x,y,_,e=>by simp at e
 |a::xs,c::ys,b,h,j,x,y,d,g=>by
  unfold pi at h;split at h
  ·rename_i p q i k;cases j with
   |zero=>simp at d g;subst d g;show#[p,i]
   |succ j=>show NH k j x y (~~~d) (~~~g)
  ·cases h
theorem HJ{f:D->D->Option Bool}:∀{xs ys:θ D}{b:Bool},pi f xs ys=ψ b ->
  ((cF (min xs.length ys.length)).all (λj=>match xs[j]?,ys[j]? with |some x,ψ y=>(f x y).getD χ |_,_=>χ) && xs.length == ys.length)=b
 | [],[],b,h=>by cases h;rfl
 | [],_::_,b,h=>by cases h;rfl
 |_::_,[],b,h=>by cases h;rfl
 |x::xs,y::ys,b,h=>by
  unfold pi at h;split at h
  ·rename_i p q a c;cases h;have d:=HJ c;rw[<-d];erw[aT,Nat.succ_min_succ,CF,List.all_cons,aA,a,nV,List.all_map];rw[Bool.and_assoc];congr 1;congr 1;rw[rO];simp
  ·cases h
section
variable{X:Cx}{σ:St}{H:Hp}{s:aK}
def WD{f:D->D->Option Bool}(g:∀{d e:D}{v:V}{b:Bool},f d e=ψ b->je X.K H d v->je X.K H e v->b=ζ):∀{xs ys:θ D}{vs:θ V}{b:Bool},pi f xs ys=ψ b->cn X.K H xs vs->cn X.K H ys vs->b=ζ:=by
 intro xs
 induction xs with
 |nil=>intro ys vs b h a c;cases a;cases c;cases h;rfl
 |cons x xs i=>
  intro ys vs b h a c;cases a with
  |cons r t=>
   cases c with
   |cons j k=>
    unfold pi at h;split at h
    ·rename_i p q l m;cases h;rw[g l r j,i m t k];rfl
    ·cases h
theorem NG(I:Inv X Φ σ H s):∀(n:Nat){d e:D}{v:V}{b:Bool},k5 n d e=ψ b->je X.K H d v->je X.K H e v->b=ζ
 | 0,_,_,_,_,h,_,_=>by cases h
 |n+1,d,e,v,b,h,r1,r2=>by
  unfold k5 at h;split at h
  ·rw[r1.int_inv] at r2;cases r2;cases h;simp
  ·rw[r1.bl_inv] at r2;cases r2;cases h;simp
  ·cases h;rfl
  ·cases r1;cases r2
  ·cases r2;cases r1
  ·rename_i j k;cases r1 with
   | @tup a l _ g i=>
    cases r2 with
    | @tup _ m _ c f=>
     rw[g] at c;cases c;show WD (λ{d e v b}=>NG I n) h i f
  ·rename_i j k;cases r1 with
   | @lst a l _ g i=>
    cases r2 with
    | @lst _ m _ c f=>
     rw[I.list_inj c.sq g.sq] at f;show WD (λ{d e v b}=>NG I n) h i f
  ·cases h
def Fq(I:Inv X Φ σ H s){a c:Addr}(h:pi (k5 n) xs ys=ψ b)(w:om X.K H a vs)(m:cn X.K H xs vs)(z:om X.K H c ws)(l:cn X.K H ys ws)(B:A.units<cLine)
  (T:∀{d e:D}{v u:V}{x y:aF}{b:Bool},k5 n d e=ψ b->je X.K H d v->je X.K H e u->RelV v x->RelV u y->KG A.in1 s x y b):CJ A s (.ref a) (.ref c) b/\KG A s (.ref a) (.ref c) b:=by
 let⟨f,C,E,_⟩:=I.list w;let⟨F,G,J,_⟩:=I.list z;have U:xs.length=f.length:=m.length.trans C.length;have l2:ys.length=F.length:=l.length.trans G.length;have L:CJ A s (.ref a) (.ref c) b:=by
  by_cases M:xs.length=ys.length
  ·have:=SeqAt.RcAt.lists (A:=A) (s:=s) (e:=λj=>match xs[j]?,ys[j]? with |some x,ψ y=>(k5 n x y).getD χ |_,_=>χ) E.isList J.isList ε B (λj N O=>?_)
   ·have g:=HJ h;erw[aZ,<-U] at this;rw[<-M,wS,beq_self_eq_true,IH] at g;rw[g] at this;show this
   ·erw[aZ] at N O;have o:xs[j]?=ψ (xs[j]'ν):=aG _;have q:ys[j]?=ψ (ys[j]'ν):=aG _;let⟨k,P⟩:=NH h j _ _ o q;rw[o,q];erw[P,nV];let⟨v1,W,Y⟩:=m.get o;let⟨v2,Z,f4⟩:=l.get q;let⟨u1,Q,g4⟩:=C.get W;let⟨u2,R,g6⟩:=G.get Z;have a1:f.toArray[j]=u1:=by
     have:=aG N;rw[this] at Q;simpa using cW Q
    have a2:F.toArray[j]=u2:=by
     have:=aG O;rw[this] at R;simpa using cW R
    rw[a1,a2];show T P Y f4 g4 g6
  ·have g:=HJ h;have:(xs.length == ys.length)=χ:=(~~~M);rw[this,xI] at g;rw[<-g];show SeqAt.RcAt.lists_lengths E.isList J.isList ε B
 show#[L,?_];by_cases i:a=c
 ·subst i;rw[I.list_inj z w] at l;rw[WD (λ{d e v b}=>NG I n) h m l];show vP _
 ·show KH i L
theorem KQ(I:Inv X Φ σ H s):∀(n:Nat){d e:D}{v u:V}{x y:aF}{b:Bool}{A:dG},k5 n d e=ψ b->je X.K H d v->je X.K H e u->RelV v x->RelV u y->A.units+n<cLine ->
  CJ A s x y b/\KG A s x y b
 | 0,_,_,_,_,_,_,_,_,h,_,_,_,_,_=>by cases h
 |n+1,d,e,v,u,x,y,b,A,h,r1,r2,f,g,hu=>by
  have same:=λ(G:v=u)=>NG I (n+1) h r1 (G▸r2);unfold k5 at h;split at h
  ·rename_i i j;rw[r1.int_inv] at f;rw[r2.int_inv] at g;let⟨t,rfl⟩:=f;let⟨t',rfl⟩:=g;cases h;have e:decide (i=j)=(i == j):=(by rw[pD]);rw[e];show#[SeqAt.RcAt.int_int _ _ _ _,xS _ _ _ _]
  ·rename_i i j;rw[r1.bl_inv] at f;rw[r2.bl_inv] at g;cases f;cases g;cases h;have e:decide (i=j)=(i == j):=(by rw[pD]);rw[e];show#[SeqAt.RcAt.bool_bool _ _,SeqAt.EqAt.bool_bool _ _]
  ·cases r1;cases r2;cases f;cases g;cases h;show#[SeqAt.RcAt.none_none,vP _]
  ·cases r1;cases r2 with
   |tup m q=>
    cases f;cases g;cases h;let⟨l,C,o,_⟩:=I.tuple (m7.of m);show#[SeqAt.RcAt.none_tuple o ν,SeqAt.EqAt.none_tuple o ν]
  ·cases r2;cases r1 with
   |tup m q=>
    cases f;cases g;cases h;let⟨l,C,o,_⟩:=I.tuple (m7.of m);show#[SeqAt.RcAt.tuple_none o ν,SeqAt.EqAt.tuple_none o ν]
  ·rename_i w z;cases r1 with
   | @tup a vs _ J E=>
    cases r2 with
    | @tup c ws _ m q=>
     cases f;cases g;let⟨l,C,o,_⟩:=I.tuple (m7.of J);let⟨R,T,xl,_⟩:=I.tuple (m7.of m);have l1:w.length=l.length:=E.length.trans C.length;have l2:z.length=R.length:=q.length.trans T.length;have U:CJ A s (.ref a) (.ref c) b:=by
      have:=SeqAt.RcAt.tuples (A:=A) (s:=s) (e:=λj=>match w[j]?,z[j]? with |some x,ψ y=>(k5 n x y).getD χ |_,_=>χ) o xl ν (λj W Y=>?_)
      ·erw[aZ,<-l1,<-l2] at this;rw[HJ h] at this;show this
      ·erw[aZ] at W Y;have L:w[j]?=ψ (w[j]'ν):=aG _;have M:z[j]?=ψ (z[j]'ν):=aG _;let⟨k,F⟩:=NH h j _ _ L M;rw[L,M];erw[F,nV];let⟨v1,f1,N⟩:=E.get L;let⟨v2,f3,O⟩:=q.get M;let⟨u1,Z,P⟩:=C.get f1;let⟨u2,g5,Q⟩:=T.get f3;have a1:l.toArray[j]=u1:=by
        have:=aG W;rw[this] at Z;simpa using cW Z
       have a2:R.toArray[j]=u2:=by
        have:=aG Y;rw[this] at g5;simpa using cW g5
       rw[a1,a2];show(KQ I n F N O P Q (by show A.units+1+n<cLine;lia)).2
     show#[U,?_];by_cases B:a=c
     ·subst B;rw[same rfl];show vP _
     ·show KH B U
  ·rename_i w z;cases r1 with
   | @lst a vs _ J E=>
    cases r2 with
    | @lst c ws _ m q=>
     cases f;cases g;show Fq I h J.sq E m.sq q ν λ{d e v u x y b} F N O P Q=>(KQ I n F N O P Q (by show A.units+1+n<cLine;lia)).2
  ·cases h
end
def zn:R22:=λx y Q=>match k5 6 x y with
 |some b=>Q (.bl b)
 |none=>False
def P0{Z:St}{s:aK}(I:Inv X Φ Z H s)(h:k5 6 d e=ψ b)(r1:j2 X.K H d v)(r2:j2 X.K H e u)(i:RelV v x)(j:RelV u y)(o:A.units+6<cLine):CJ A s x y b:=by
 by_cases f:∃k l,d = .lst k/\e = .lst l
 ·let⟨k,l,rfl,rfl⟩:=f;let⟨a,m,rfl,q,w⟩:=r1.lst;let⟨c,N,rfl,z,B⟩:=r2.lst;cases i;cases j;show(Fq I (n:=5) h q w z B ν λ{d e v u x y b} C D E F G=>(KQ I 5 C D E F G (by show A.units+1+5<cLine;lia)).2).1
 ·have J:je X.K H d v:=by
   rcases r1 with r | ⟨L,a,m,g,_⟩
   ·show r
   ·subst g;cases e <;> first | (cases h;done) |show Ω ⟨_,_,rfl,rfl⟩ f
  have M:je X.K H e u:=by
   rcases r2 with r | ⟨L,a,m,g,_⟩
   ·show r
   ·subst g;cases d <;> first | (cases h;done) |show Ω ⟨_,_,rfl,rfl⟩ f
  show(KQ I 6 h J M i j o).1
def Nv(a:g_ k X.A):qz X (compareOp .Eq) zn:=by
 intro Φ s Z H x y v u Q I c f g;let⟨d,e,P,r1,r2,q,h⟩:=g;unfold zn at q;split at q
 ·rename_i b i;have j:=a.units;show P0 I (A:=X.A) i r1 r2 c f ν _ _ _ _ #[.bl b,H,I,bg,h _ _ H q (a_.refl H) (.bl b)]
 ·show q.elim
theorem FH(env:Env):∀(names:θ (Str×NameKind))(acc:θ (Str×Addr)),(∀y∈names,y.2 = .free->∃c,env.cells.lookup y.1=ψ c) ->
  ∃cl:θ (Str×Addr),(do
   let mut cs:=acc
   for (name,kind) in names do
    if kind == .free then cs:=(name,<-cellOf env name)::cs
   return cs:Sem (θ (Str×Addr)))=pure cl/\(∀p∈cl,p∈acc\/env.cells.lookup p.1=ψ p.2)/\(∀p∈acc,p∈cl)/\∀y∈names,y.2 = .free->∃c,(y.1,c)∈cl
 | [],acc,_=>#[acc,η,λp h=>.inl h,λp h=>h,λy h=>by simp at h]
 | (n,k)::r,acc,h=>by
  by_cases f:k = .free
  ·subst f;let⟨c,l⟩:=h _ dL rfl;let⟨cl,e,g,b,i⟩:=FH env r ((n,c)::acc) λy a=>h y (cR _ a);show#[cl,?_,λp j=>?_,λp j=>b p (cR _ j),λy a d=>?_]
   ·rw[<-e];have m:cellOf env n=pure c:=(by unfold cellOf;rw[l]);erw[TC,m,beq_self_eq_true,if_true,pure_bind]
   ·rcases g p j with q |q
    ·rcases aV.mp q with rfl |q
     ·show .inr l
     ·show .inl q
    ·show .inr q
   ·rcases aV.mp a with rfl |a
    ·show#[c,b _ dL]
    ·show i y a d
  ·let⟨cl,e,g,b,i⟩:=FH env r acc λy a=>h y (cR _ a);show#[cl,?_,g,b,λy a d=>?_]
   ·rw[<-e];have o:(k == gS)=χ:=(~~~f);erw[TC,o,aO,if_false,pure_bind]
   ·rcases aV.mp a with rfl |a
    ·show Ω d f
    ·show i y a d
theorem IV{α:Type}:∀{l:θ (Str×α)}{x:Str}{c:α},(x,c)∈l->∃c',l.lookup x=ψ c'
 | [],_,_,h=>by simp at h
 | (y,d)::r,x,c,h=>by
  rw[kH];cases e:x == y with
  |true=>show#[d,bg]
  |false=>
   rcases aV.mp h with q |q
   ·cases q;rw[beq_self_eq_true] at e;cases e
   ·show IV q
def KN(h:∀y∈scope.names,y.2 = .free->∃c,env.cells.lookup y.1=ψ c):
  ∃cl,closureFor scope env=pure cl/\(∀x c,cl.lookup x=ψ c->env.cells.lookup x=ψ c)/\∀y∈scope.names,y.2 = .free->∃c,cl.lookup y.1=ψ c:=by
 let⟨cl,e,a,_,b⟩:=FH env scope.names [] h;show#[cl,e,λx c d=>?_,λy f g=>?_]
 ·rcases a _ (jX d) with q |q
  ·simp at q
  ·show q
 ·let⟨c,i⟩:=b y f g;show IV i
def qC(X:Cx)(scope:Scope)(N:θ Str)(a:θ (Str×Addr))(C:Addr)(s:aK)(H:Hp)(b:θ Addr):Cx where
 prog:=X.prog
 w:=X.w
 K:=X.K
 mg:=X.mg
 base:=X.base
 A:=X.A
 N:=N
 s₀:=s
 H₀:=H
 env:=compEnvC scope a C X.env
 outer:=X.stack
 stack:=X.stack
 ex:=b
 fn:=λ_=>χ
 calm:=X.calm
 pn:=[]
 xe:=λ_ _=>False
structure uc(X:Cx)(scope:Scope):Prop where
 kind:scope.kind = .function
 nocell:∀y∈scope.names,y.2≠.cell
 locs:∀y∈scope.names,y.2 = .local->scope.names.lookup y.1=ψ .local
 frees:∀y∈scope.names,y.2 = .free->X.env.kindOf y.1=ψ .cell\/X.env.kindOf y.1=ψ .free
theorem tJ{env:Env}:∀{names:θ (Str×NameKind)}{x:Str}{k:NameKind},(names.map λ(n,k)=>if(k == gS && env.scope.kind == .function && env.kindOf n == ψ .cell) then(n,uU) else(n,k)).lookup x=ψ k ->
  (k = .cell\/k = .free)->(∀y∈names,y.2≠.cell)->(x,.free)∈names
 | [],_,_,h,_,_=>by simp at h
 | (n,j)::r,x,k,h,b,c=>by
  have h:List.lookup x ((if(j == gS && env.scope.kind == .function && env.kindOf n == ψ .cell)=ζ then(n,uU) else(n,j))::r.map λ(n,k)=>if(k == gS && env.scope.kind == .function && env.kindOf n == ψ .cell) then(n,uU) else(n,k))=ψ k:=h;have d:∀y∈r,y.2≠.cell:=λy f=>c y (cR _ f);cases hx:x == n with
  |true=>
   have e:x=n:=eq_of_beq hx;subst e;by_cases a:(j == gS && env.scope.kind == .function && env.kindOf x == ψ .cell)=ζ
   ·have g:j = .free:=by
     rw[kG,kG] at a;show eq_of_beq a.1.1
    subst g;show dL
   ·rw[ω a,kH,beq_self_eq_true] at h;cases h;rcases b with rfl |rfl
    ·show Ω rfl (c _ dL)
    ·show dL
  |false=>
   by_cases a:(j == gS && env.scope.kind == .function && env.kindOf n == ψ .cell)=ζ
   ·rw[υ a,kH,hx] at h;show cR _ (tJ h b d)
   ·rw[ω a,kH,hx] at h;show cR _ (tJ h b d)
section
variable{X:Cx}{Φ:θ (Addr×Obj)}{σ:St}{H:Hp}{s:aK}{scope:Scope}{N:θ Str}{cl:θ (Str×Addr)}{C:Addr}{fp:θ Addr}
def Zb(I:Inv X Φ σ H s)(f:uc X scope)(g:∀x c,cl.lookup x=ψ c->X.env.cells.lookup x=ψ c)(D:∀y∈scope.names,y.2 = .free->∃c,cl.lookup y.1=ψ c)
  (w:s.z<=C) (h:∀b∈fp,JR X Φ H b) (E:∀b∈fp,b<s.z):(qC X scope N cl C s H fp).Ok:=by
 show#[I.ok.mod,f.kind,I.ok.glob,I.ok.blt,w,λx y c i j=>I.ok.inj x y c (g x c i) (g y c j),λx a=>?_,λx c a=>Ω (show χ=ζ from a) cL,I.ok.hd,I.ok.frames,.inl rfl,λb d=>?_,I.bs,dY I.ok.bsz I.sz,λb o e d=>?_,λb d l=>?_,I.stack,I.stkFree]
 ·have a:(scope.names.map λ(n,k)=>if(k == gS && X.env.scope.kind == .function && X.env.kindOf n == ψ .cell) then(n,uU) else(n,k)).lookup x=ψ .cell\/(scope.names.map λ(n,k)=>if(k == gS && X.env.scope.kind == .function && X.env.kindOf n == ψ .cell) then(n,uU) else(n,k)).lookup x=ψ .free:=a;have:(x,gS)∈scope.names:=by
   rcases a with a |a
   ·show tJ a (.inl rfl) f.nocell
   ·show tJ a (.inr rfl) f.nocell
  show D _ this rfl
 ·let⟨A,m,q,u,v,B⟩:=h b d;show#[bP (bU (E b d) w),λx c e=>v x c (g x c e)]
 ·let⟨A,m,q,u,v,B⟩:=h b d;rcases u with z |z
  ·show I.ok.noex b o e z
  ·have i:=(bG e);have j:=I.ok.bsz;show Ω (bU i (dY j z)) (iQ _)
 ·let⟨A,m,q,u,v,B⟩:=h b d;rcases aV.mp (I.stkSub b l) with e |e
  ·show m e
  ·show q e
def Bz(σ:St)(k:Nat)(a:θ Nat):St:=eQ k ξ++a.map λi=>(σ[i]?).join
def Tj(I:Inv X Φ σ H s)(w:uc X scope)(l:∀x c,cl.lookup x=ψ c->X.env.cells.lookup x=ψ c)(P:∀y∈scope.names,y.2 = .free->∃c,cl.lookup y.1=ψ c)
  {h:aK} {m:Str->Option aF} {k:Nat} {n:θ Nat} {g:θ Str} (Q:s.z<=C) (V:∀b∈fp,JR X Φ H b) (W:∀b∈fp,b<s.z)
  (d:∀b o,s.heap.get? b=ψ o->h.heap.get? b=ψ o) (Y:h.os=s.os) (Z:AllBare h.gens) (A:h.heap.Ns C m)
  (hN:N.length=k+g.length) (xf:N.drop k=g) (B:n.length=g.length) (D:∀(j:Nat)(y:Str)(i:Nat),g[j]?=ψ y->n[j]?=ψ i->X.N[i]?=ψ y/\(y,gS)∈scope.names)
  (f:∀y∈g,(relabel scope X.env).names.lookup y=ψ .cell\/(relabel scope X.env).names.lookup y=ψ .free):
  Inv (qC X scope N cl C s H fp) [] (Bz σ k n) H h:=by
 have E:H C=ξ:=I.hok.fresh Q;show#[Zb I w l P Q V W,Y,Z,Un.kept d,#[m,A,λi x v e1 a e3=>?_],λx c e=>?_,E,λx c e=>I.freeC x c (l x c e),λp hp=>Ω (show p∈([]:θ (Addr×Obj)) from hp) η,I.hok.kept d,?_]
 ·unfold Bz at a;by_cases F:i<k
  ·rw[dB (~~~F),jD,υ F] at a;cases a
  ·rw[dJ (~~~F),mN,bC] at a;cases eo:n[i-k]? with
   |none=>rw[eo] at a;cases a
   |some o=>
    rw[eo] at a;have a:ψ ((σ[o]?).join)=ψ (ψ v):=a;have G:σ[o]?=ψ (ψ v):=by
     cases q:σ[o]? with
     |none=>rw[q] at a;cases a
     |some z=>rw[q] at a;cases a;rfl
    have R:g[i-k]?=ψ x:=by
     rw[<-xf,xQ];rw[show k+(i-k)=i by lia];show e1
    let⟨h1,J⟩:=D _ _ _ R eo;have hv:vq X.env.scope x:=by
     rcases w.frees _ J rfl with q |q
     ·show .inr (.inl q)
     ·show .inr (.inr q)
    let⟨m0,hn0,K⟩:=I.loc;let⟨u,ru,lu⟩:=K o x v h1 G hv;show#[u,ru,.inr #[f x (bJ R),?_]];let⟨c,T⟩:=P _ J rfl;show#[c,T,?_];rcases lu with⟨q,_⟩ | ⟨_,c',U,on⟩
    ·rcases w.frees _ J rfl with z |z
     ·rw[z] at q;cases q
     ·rw[z] at q;cases q
    ·have:=l x c T;rw[this] at U;cases U;let⟨L,M,O⟩:=on;show#[L,d _ _ M,O]
 ·let⟨v,L,M,O⟩:=I.cell x c (l x c e);show#[v,L,d _ _ M,O]
 ·unfold Bz;show _=N.length;rw[bI,mN,aJ,B,hN]
end
abbrev K7(a:θ Expr)(env:Env):Sem Bool:=forIn a ζ λc r=>if r=ζ then do let ok <-isTrue c env (eval c env);pure (SV ok) else pure (SV r)
def Po{s:aK}{pos:Pos}(I:Nat->aK->Prop)
  (b:∀n s,I n s->∀E:aF->aK->Prop,Γ prog w A (pyNext it) (λr s₁=>match r with
   |none=>R (.ok .next) s₁
   |some v=>Γ prog w A (letOwnedTupleGo target it v) (λ_ s₁=>Γ prog w A (assign target env v) (λ_ s₂=>Γ prog w A (K7 ifs env) (λok s₂=>if ok=ζ then Γ prog w A (eval elt env) (λx s₃=>
     Γ prog w A (call (.builtin "list.append") [acc,x]) (λ_ s₄=>∃m,m<n/\I m s₄) E s₃) E s₂ else ∃m,m<n/\I m s₂) E s₂) E s₁) E s₁) E s)
  (n:Nat) (h:I n s):codeAny (model prog w) A (.compLoop (.ListComp elt [#[target,iter,ifs,0]] scope pos) 0 it acc env) R s:=by
 show codeAny_loop rfl I (λn s f=>?_) n h;show wpAny _ _ ((compTurn (.ListComp elt [#[target,iter,ifs,0]] scope pos) 0 it acc env).onRaise (λx=>do noteFrame x env;theTreesLotGoes x)) _ _ s;show wpAny_noted ?_;rw[compTurn_list];show aD (AF (aD (iB (b n s f _) (λr s₁ d=>?_) λ_ _ a=>a)));cases r with
 |none=>show aP d
 |some v=>
  show aD (iB d (λ_ g c=>aD (iB c (λ_ s₂ i=>aD (iB i (λok s₃ e=>?_) λ_ _ a=>a)) λ_ _ a=>a)) λ_ _ a=>a);cases ok with
  |false=>show aP #[bg,e]
  |true=>show aD (aD (iB e (λx s₄ j=>aD (iB j (λ_ l k=>aP (aP #[bg,k])) λ_ _ a=>a)) λ_ _ a=>a))
def Se(X:Cx)(a:θ Expr)(t:RT):Prop:=∀(Φ:θ (Addr×Obj))(s:aK)(Z:St)(H:Hp)(Q:Bool->Hp->Prop),Inv X Φ Z H s->liftT X t Z H Q->Δ X (K7 a X.env) (TP X Φ Z Q) X.xe s
def Xk:RT:=λ_ Q=>Q ζ
def Fg:Se X [] Xk:=λΦ s Z H Q I ⟨b,P,st,q,k⟩=>wpAny_tests_nil #[H,I,k ζ H q (a_.refl H)]
def VY{c:Expr}{t:RT}(h:DT X c t):Se X [c] t:=λΦ s Z H Q I q=>wpAny_tests_one (h Φ s Z H Q I q)
def Lw(X:Cx)(J:It)(xs:θ D)(b:Hp):Prop:=∀i H,a_ b H->(∀d,xs[i]?=ψ d->J.go i H/\∀x a,J.yld i H x a->a_ H a/\je X.K a d x)/\(xs.length<=i->J.stop i H)
def R9(X:Cx)(t:RA):TI:=λZ H R=>∃b P,f9 X b Z H/\t b P/\∀c J a,P c->a_ H a->Lw X J c a->R J a
def ki(X:Cx)(a iter:Expr)(t:RA):Prop:=PI X a iter (R9 X t)
def v_.s(h:v_ X J xs H):Lw X J xs H:=λi a s=>h i a (.of s)
def DI.s{t:RA}(h:DI X tg e t):ki X tg e t:=PI.mono h λ_ _ _ ⟨a,P,st,q,k⟩=>#[a,P,st,q,λb J H p s ok=>k b J H p s ok.s]
def yS(g:RG)(c:RE):θ D->En->θ D->(θ D->Prop)->Prop
 | [],_,b,Q=>Q b
 |x::f,a,b,Q=>g x a λe=>c e λd=>yS g c f e (b++[d]) Q
def lK(g:RG)(f:RT)(h:RE):θ D->En->θ D->(θ D->Prop)->Prop
 | [],_,c,Q=>Q c
 |x::i,a,c,Q=>g x a λe=>f e λb=>if b=ζ then h e λd=>lK g f h i e (c++[d]) Q else lK g f h i e c Q
theorem Ah:∀{xs:θ D}{a:En}{acc:θ D}{Q:θ D->Prop},lK g Xk te xs a acc Q=yS g te xs a acc Q
 | [],_,_,_=>rfl
 |x::xs,a,acc,Q=>by
  show(g x a λb=>if ζ=ζ then te b λd=>lK g Xk te xs b (acc++[d]) Q else lK g Xk te xs b acc Q)=g x a λb=>te b λd=>yS g te xs b (acc++[d]) Q;congr 1;funext b;rw[υ rfl];congr 1;funext d;show Ah
def Pm(a:En)(i:Nat):Option S:=match a[i]? with
 |some (ψ (.d d))=>ψ (.d d)
 |_=>ξ
def AX(a:En)(k:Nat)(b:θ Nat):En:=eQ k ξ++b.map (Pm a)
def O2(f:f9 X b Z H)(g:X'.K=X.K)(h:X'.H₀=H):f9 X' (AX b k ix) (Bz Z k ix) H:=by
 have own:∀(i:Nat)(x:S),(AX b k ix)[i]?=ψ (ψ x)->∃d,x = .d d:=λi x e=>by
  unfold AX at e;by_cases c:i<k
  ·rw[dB (~~~c),jD,υ c] at e;cases e
  ·rw[dJ (~~~c),bC] at e;cases eo:ix[i-(eQ k (ξ:Option S)).length]? with
   |none=>rw[eo] at e;cases e
   |some o=>
    rw[eo] at e;have e:ψ (Pm b o)=ψ (ψ x):=e;have e:=cW e;unfold Pm at e;split at e <;> cases e;show#[_,bg]
 show#[by simp[AX,Bz],by rw[h];show a_.refl H,λi x e=>?_,λi j x y v u a l _ _ _ o _=>by
  let⟨d,rfl⟩:=own i x l;show o.elim,by rw[g,h];show f.tabs]
 unfold AX at e;by_cases c:i<k
 ·rw[dB (~~~c),jD,υ c] at e;cases e
 ·rw[dJ (~~~c),bC,mN] at e;cases eo:ix[i-k]? with
  |none=>rw[eo] at e;cases e
  |some o=>
   rw[eo] at e;have e:ψ (Pm b o)=ψ (ψ x):=e;have e:=cW e;unfold Pm at e;split at e
   ·rename_i d m;cases e;let⟨v,n,q⟩:=f.rel o _ m;show#[v,?_,by rw[g];show q];unfold Bz;rw[dJ (~~~c),bC,mN,eo,rQ,n];rfl
   ·cases e
section
variable{σ:St}
def _root_.L2.Inv.track{s i:aK}{a:Addr}(I:Inv X Φ σ H s)(d:Inv X Φ σ H' i)(g:s.z<=a)(f:H' a=ξ)
  (e:i.heap.get? a=ψ {cls:=.type "list",data:=.seq its.toArray n}) (A:c9 vs its) (hz:vs.length<=sizeLine):Inv X Φ σ (f_ H' a (.lst vs)) i:=by
 have B:X.env.locals≠a:=bP (bU I.lt g);have C:∀x c,X.env.cells.lookup x=ψ c->c≠a:=λx c q z=>by
  let⟨v,D⟩:=I.cell x c q;show Ω (bU D.lt (by rw[z];show g)) (iQ _)
 have j:∀{b:Addr}{o:Obj},X.s₀.heap.get? b=ψ o->b≠a:=λ{b o} q=>bP (bU (bG q) (dY I.sz g));show#[d.ok,d.os,d.bare,#[d.base.keep,d.base.slot,λb o q n E=>?_,d.base.there,λb k q=>?_,λb o u q=>?_,λb F q=>?_],d.loc,d.cell,?_,λx c q=>?_,λp l=>?_,λb u q=>?_,d.len]
 ·rw[cY (j q)];show d.base.free b o q n E
 ·rw[cY (dF (d.base.tups b k q) f)];show d.base.tups b k q
 ·rw[cY (dF (d.base.frzs b o u q) f)];show d.base.frzs b o u q
 ·let⟨m,h⟩:=d.base.tbls b F q;show#[m,by rw[cY (dF h f)];show h]
 ·rw[cY B];show d.free
 ·rw[cY (C x c q)];show d.freeC x c q
 ·let⟨G,h,J,K,L⟩:=d.pin p l;have M:p.1≠a:=bP (bU (bG (I.pin p l).1) g);show#[G,by rw[cY M];show h,J,K,L]
 ·by_cases y:b=a
  ·subst y;rw[fA] at q;cases q;show#[hz,its,n,A,e]
  ·rw[cY y] at q;show(d.hok b u q).stay (λc v _ w=>w) (λc w=>by rw[cY (dF w f)];show w) λc k w=>by rw[cY (dF w f)];show w
def Ai(hc:X.calm=ζ)(Sc:uc X scope)(sj:∀x c,cl.lookup x=ψ c->X.env.cells.lookup x=ψ c)(k7:∀y∈scope.names,y.2 = .free->∃c,cl.lookup y.1=ψ c)
  (hN:N.length=k+ys.length) (xf:N.drop k=ys) (hix:ix.length=ys.length) (hiy:∀(j:Nat)(y:Str)(i:Nat),ys[j]?=ψ y->ix[j]?=ψ i->X.N[i]?=ψ y/\(y,gS)∈scope.names)
  (hkind:∀y∈ys,(relabel scope X.env).names.lookup y=ψ .cell\/(relabel scope X.env).names.lookup y=ψ .free)
  (hg:∀C s H fp,DG (qC X scope N cl C s H fp) target g) (wh:∀C s H fp,Se (qC X scope N cl C s H fp) ifs tt) (he:∀C s H fp,DE (qC X scope N cl C s H fp) elt te)
  (M:Inv X Φ σ H s2) (so:f9 X l σ H) (T:uf X.prog X.w X.K target J fp it tn) (st:tn 0 s2.heap) (hf:∀b∈fp,JR X Φ H b) (ok:Lw X J xs H) (hz:xs.length<=sizeLine)
  (hP:lK g tt te xs (AX l k ix) [] P) {RR:aF->Addr->Result->aK->Prop} {E:aF->aK->Prop}
  (post:∀(ds:θ D)(vs:θ V)(its:θ aF)(n:Nat)(C:Addr)(s':aK)(H':Hp),P ds->a_ H H'->H' s2.z=ξ->cn X.K H' ds vs->c9 vs its->vs.length<=sizeLine ->
   s'.heap.get? s2.z=ψ {cls:=.type "list",data:=.seq its.toArray n}->Inv X Φ σ H' s'->(∃m,s'.heap.Ns C m)->s2.z<C->H' C=ξ->RR (.ref s2.z) C (.ok .next) s'):
  Δ X (newList []) (λacc s₃=>Δ X (newFunctionEnv scope X.env.globals cl [] X.env.qual ξ .none (ψ X.env)) (λe_ s₄=>
   codeAny (model X.prog X.w) X.A (.compStart (.ListComp elt [#[target,iter,ifs,0]] scope pos) 0 (.ref it) acc {e_ with scope:=relabel scope X.env}) (RR acc e_.locals) s₄) E s₃) E s2:=by
 show fD (HB Sc.nocell (by intro y hy;simp at hy) (λh₁ L G=>?_) Sc.kind);dsimp only at L G⊢;generalize jv:s2.heap.push {cls:=.type "list",dict:=ξ,data:=.seq ([]:θ aF).toArray} = dq at L G⊢;have tm:dq.objs.size=s2.z+1:=by rw[<-jv,mC]
 have qi:s2.z<dq.objs.size:=by rw[tm];show qO _
 have k8:∀b∈fp,b<s2.z:=λb f=>by
  let⟨o,ho,_⟩:=T.obj 0 _ st b f;show bG ho
 have old:∀b o,s2.heap.get? b=ψ o->h₁.get? b=ψ o:=λb o e=>
  G.extBut b o (bP (nA (bG e) qi)) (aR _ (jv▸aR _ e))
 have jw:h₁.get? s2.z=ψ {cls:=.type "list",data:=.seq ([]:θ aF).toArray 0}:=
  G.extBut _ _ (bP qi) (aR _ (jv▸bT _ rfl))
 have v3:H s2.z=ξ:=M.hok.fresh (aY _)
 let B:=qC X scope N cl dq.objs.size s2 H fp
 have J0:Inv B [] (Bz σ k ix) H {s2 with heap:=h₁,toks:=s2.toks+([]:θ (Str×aF)).length}:=
  Tj M Sc sj k7 (kM qi) hf k8 old rfl M.bare L hN xf hix hiy hkind
 have S0:f9 B (AX l k ix) (Bz σ k ix) H:=O2 so rfl rfl;have f7:s2.z∉B.fs:=λf=>by
  have f:s2.z∈we X.stack:=f;rcases aV.mp (M.stkSub _ f) with e |e
  ·show Ω (show X.env.locals<X.env.locals from Nat.lt_of_lt_of_eq M.lt e) (iQ _)
  ·show M.nofs (aY _) e
 have I_:∀{H':Hp}{o:Obj},(∀b∈fp,H' b=ξ)->∀b∈fp,JR B [(s2.z,o)] H' b:=λ{H' o} hn b f=>by
  let⟨f0,f1,f2,f3,f4,f5⟩:=hf b f;show#[hn b f,bP (nA (k8 b f) qi),λjz=>?_,.inl f,λx c e=>f4 x c (sj x c e),λp O=>?_]
  ·rcases aV.mp (M.stkSub b jz) with e |e
   ·show f1 e
   ·show f2 e
  ·have:p=(s2.z,o):=(by simpa [B,qC] using O);subst this;show kN (k8 b f)
 have kc:∀{σ':St}{H':Hp}{s':aK}{its:θ aF}{n:Nat},Inv B [] σ' H' s'->H' s2.z=ξ->s'.heap.get? s2.z=ψ {cls:=.type "list",data:=.seq its.toArray n}->Inv B [(s2.z,{cls:=.type "list",data:=.seq its.toArray n})] σ' H' s':=λI' hn e=>
  I'.pins_of λp O=>by
   have:=bR.mp O;subst this;show#[e,hn,bP qi,f7,λv z=>by cases z]
 have W:∀s₃:aK,s₃ = {s2 with heap:=h₁,toks:=s2.toks+([]:θ (Str×aF)).length} ->
   codeAny (model X.prog X.w) X.A (.compLoop (.ListComp elt [#[target,iter,ifs,0]] scope pos) 0 (.ref it) (.ref s2.z) (compEnvC scope cl dq.objs.size X.env)) (RR (.ref s2.z) dq.objs.size) s₃:=by
  rintro s₃ rfl;show Po (λm s'=>∃(i:Nat)(l':En)(σ':St)(H':Hp)(ds:θ D)(vs:θ V)(its:θ aF)(n:Nat),m=xs.length-i/\i<=xs.length/\Inv B [] σ' H' s'/\f9 B l' σ' H'/\tn i s'.heap/\(∀b∈fp,H' b=ξ) /\
   H' s2.z=ξ/\s'.heap.get? s2.z=ψ {cls:=.type "list",data:=.seq its.toArray n}/\cn X.K H' ds vs/\c9 vs its/\vs.length<=i/\lK g tt te (xs.drop i) l' ds P) ?_ xs.length
   #[0,AX l k ix,Bz σ k ix,H,[],[],[],0,bg,dZ _,J0,S0,T.keep _ _ _ st (λb f o e=>old b o e),λb f=>(hf b f).1,v3,jw,.nil,.nil,aY _,~~~hP]
  rintro m s' ⟨i,l',σ',H',ds,vs,its,n,rfl,hi,I',S',nv,lj,r8,e',rr,rv,hl,hD⟩ E';let⟨o1,o2⟩:=ok i H' S'.same;have I1:=kc I' r8 e';by_cases yw:i<xs.length
  ·have e:xs.drop i=xs[i]::xs.drop (i+1):=gJ yw;rw[e] at hD;let⟨go,yl⟩:=o1 xs[i] (aG yw);show i0 (T.item B rfl rfl rfl hc i _ s' σ' H' E' I1 (I_ lj) nv go) λr s4 Q=>?_;let⟨u,hr,h4⟩:=Q;subst hr;show i0 h4 λ_ s5 Q=>?_;let⟨x,H5,I5,r5,y5,y8,r0⟩:=Q;let⟨ke,A1⟩:=yl x H5 y5;have n3:=I5.pinned (I_ r0) (T.obj _ _ y8);show iB (hg _ _ _ _ _ s5 σ' H5 x u (λσ6 I=>∃h,tt h (λb=>if b=ζ then te h (λd=>lK g tt te (xs.drop (i+1)) h (ds++[d]) P) else lK g tt te (xs.drop (i+1)) h ds P)/\c7 H5 I/\f9 B h σ6 I) n3 r5 #[xs[i],l',_,A1,S'.ext ke,hD,λh σ6 I Y k6 s6=>#[h,Y,k6,s6]]) (λ_ A2 ⟨σ6,kj,n6,h,zr,x4,ku⟩=>?_) λ_ _ z=>z.elim;show iB (wh _ _ _ _ _ A2 σ6 kj (λb I=>(if b=ζ then te h (λd=>lK g tt te (xs.drop (i+1)) h (ds++[d]) P) else lK g tt te (xs.drop (i+1)) h ds P)/\a_ kj I) n6 #[h,_,ku,zr,λb I f s6=>#[f,s6]]) (λy6 s6 Q=>?_) λ_ _ z=>z.elim;let⟨I,I6,Y,nj⟩:=Q;have k6:c7 H5 I:=x4.trans (.of nj);have S6:f9 B h σ6 I:=ku.ext nj;cases y6 with
   |false=>
    have Y:lK g tt te (xs.drop (i+1)) h ds P:=Y;show ∃m,m<xs.length-i/\_;let⟨e7,n7,_,_,_⟩:=I6.pin (s2.z,_) (cN _ (eY _ dL));show#[xs.length-(i+1),ν,i+1,h,σ6,I,ds,vs,its,n,bg,yw,I6.pins_of λp O=>Ω O η,S6,?_,λb f=>?_,n7,e7,rr.keep ((c7.of ke).trans k6),rv,sX hl,Y]
    ·show T.keep _ _ _ y8 λb f o q=>(I6.pin (b,o) (cN _ (cN _ (uO f q)))).1
    ·let⟨o,q,_⟩:=T.obj _ _ y8 b f;show(I6.pin (b,o) (cN _ (cN _ (uO f q)))).2.1
   |true=>
   have Y:te h (λd=>lK g tt te (xs.drop (i+1)) h (ds++[d]) P):=Y;show wpAny _ _ (eval elt _) _ _ s6;show iB (he _ _ _ _ _ s6 σ6 I (λv R=>∃d,lK g tt te (xs.drop (i+1)) h (ds++[d]) P/\a_ I R/\je X.K R d v) I6 #[h,_,S6,Y,λd v R q7 U r7=>#[d,q7,U,r7]]) (λu7 U Q=>?_) λ_ _ z=>z.elim;let⟨v7,R,I7,z9,d,q7,nm,r7⟩:=Q;let⟨e7,n7,_,_,_⟩:=I7.pin (s2.z,_) (cN _ (eY _ dL));have hsz:its.toArray.size+1<=sizeLine:=by
    rw[aZ,<-rv.length];lia
   show xU F.slot_list_append #[_,e7,bg] F.entry_list_append (F.args_list_append_2 _ _) (MO s2.z its.toArray n u7 ν) #[e7,?_];have e8:=PC e7 (λa=>a.push u7);have I8:Inv B [] σ6 R U:=I7.pins_of λp O=>Ω O η;have Z:∀b o,b≠s2.z->U.heap.get? b=ψ o->(U.heap.update s2.z (fE λa=>a.push u7)).get? b=ψ o:=λb o f q=>(dU U.heap _ (Ne.symm f)).trans q;have I9:Inv B [] σ6 R {U with heap:=U.heap.update s2.z (fE λa=>a.push u7)}:=
    I8.turned (t':=U.toks) Z n7 (bP qi) (.inr (aY _)) (λx c q z=>by
     let⟨v,hv⟩:=M.cell x c (sj x c q);show Ω hv.lt (by rw[z];show iQ _)) (λp O=>Ω (show p∈([]:θ (Addr×Obj)) from O) η)
   have x3:c7 H5 R:=k6.trans (.of nm);have k':c7 H' R:=(c7.of ke).trans x3;show#[xs.length-(i+1),ν,i+1,h,σ6,R,ds++[d],vs++[v7],its++[u7],_,bg,yw,I9,S6.ext nm,?_,λb f=>?_,n7,~~~e8,(rr.keep k').append (.cons r7 .nil),rv.append (.cons z9 .nil),by rw[bI];show AO hl,q7]
   ·show T.keep _ _ _ y8 λb f o q=>?_;have zv:=(I7.pin (b,o) (cN _ (cN _ (uO f q)))).1;show Z b o (bP (k8 b f)) zv
   ·let⟨o,q,_⟩:=T.obj _ _ y8 b f;show(I7.pin (b,o) (cN _ (cN _ (uO f q)))).2.1
  ·have wc:i=xs.length:=ν;subst wc;rw[OV] at hD;show i0 (T.done B rfl rfl rfl hc _ _ s' σ' H' E' I1 (I_ lj) nv (o2 (aY _))) λr s4 Q=>?_;let⟨hr,I4⟩:=Q;subst hr;let⟨e4,n4,_,_,_⟩:=I4.pin (s2.z,_) (cN _ dL);let⟨m4,wu,_⟩:=I4.loc;have I5:Inv X Φ σ H' s4:=M.call' (ch:=fp) I4.os I4.base I4.hok I4.bare λb f=>by
    let⟨f0,f1,f2,f3,f4,f5⟩:=hf b f;show#[f3,f1,f4,f5]
   show post ds vs its n dq.objs.size s4 H' hD S'.same n4 rr rv (dY hl hz) e4 I5 #[m4,wu] qi I4.free
 show codeAny_compStart_list (W _ rfl) (T.self X.A 0 _ _ _ (T.keep _ _ _ st λb f o e=>old b o e) (W _ rfl))
end
def Ag(X:Cx)(scope:Scope)(N:θ Str)(k:Nat)(a:θ Nat):Bool:=
 scope.kind == .function && scope.names.all (λy=>y.2 != .cell) && scope.names.all (λy=>y.2 != .local ||scope.names.lookup y.1 == ψ .local) &&
 scope.names.all (λy=>y.2 != .free ||X.env.kindOf y.1 == ψ .cell ||X.env.kindOf y.1 == ψ .free) &&
 N.length == k+a.length && ((N.drop k).zip a).all (λp=>X.N[p.2]? == ψ p.1 && scope.names.contains (p.1,.free)) &&
 (N.drop k).all (λy=>(relabel scope X.env).names.lookup y == ψ .cell || (relabel scope X.env).names.lookup y == ψ .free)
structure eM(X:Cx)(scope:Scope)(N:List Str)(k:Nat)(ix:List Nat):Prop where
 sc:uc X scope
 hN:N.length=k+(N.drop k).length
 hix:ix.length=(N.drop k).length
 hiy:∀(j:Nat)(y:Str)(i:Nat),(N.drop k)[j]?=ψ y->ix[j]?=ψ i->X.N[i]?=ψ y/\(y,gS)∈scope.names
 hkind:∀y∈N.drop k,(relabel scope X.env).names.lookup y=ψ .cell\/(relabel scope X.env).names.lookup y=ψ .free
def El(h:Ag X scope N k ix=ζ):eM X scope N k ix:=by
 unfold Ag at h;erw[kG,uI,bne_iff_ne,ne_eq,DD,beq_iff_eq] at h;obtain⟨⟨⟨⟨⟨⟨b,c⟩,d⟩,f⟩,w⟩,g⟩,l⟩:=h;have m:(N.drop k).length=ix.length:=by rw[gR];lia
 show#[#[b,c,λy a e=>?_,λy a e=>?_],ν,m.symm,λj y i n o=>?_,l]
 ·rcases d y a with q |q
  ·show Ω e q
  ·show q
 ·rcases f y a with(q |q) |q
  ·show Ω e q
  ·show .inl q
  ·show .inr q
 ·have s:(y,i)∈(N.drop k).zip ix:=by
   show bJ (i:=j) ?_;rw[List.getElem?_zip_eq_some];show#[n,o]
  let⟨u,v⟩:=g _ s;show#[u,List.contains_iff_mem.mp v]
def oC(c:RA)(k:Nat)(d:θ Nat)(g:RG)(e:RE):RA:=λa Q=>c a λb=>Sz b.length/\yS g e b (AX a k d) [] Q
def AA(c:RA)(k:Nat)(d:θ Nat)(g:RG)(e:RT)(f:RE):RA:=λa Q=>c a λb=>Sz b.length/\lK g e f b (AX a k d) [] Q
def Ay:AA ti k ix g Xk te=oC ti k ix g te:=by
 funext a Q;unfold AA oC;congr 1;funext xs;rw[Ah]
section
variable{X:Cx}{scope:Scope}{elt target iter:Expr}{ifs:θ Expr}{pos:Pos}{g:RG}{tt:RT}{te:RE}{ti:RA}
def RN{Z:St}{s f:aK}{C:Addr}(a:Inv X Φ Z H s){h:St}(i:Inv X Φ h H' f)(d:s.z<=C)(j:H' C=ξ)(k:qL C f.heap h'):
  Inv X Φ h H' {f with heap:=h',toks:=t'}:=
 i.turned (λb o l e=>(k.2 b l).trans e) j (kN (bU a.lt d)) (.inr (dY a.sz d)) (λx c e z=>by
  let⟨v,m⟩:=a.cell x c e;show Ω (bU m.lt (by rw[z];show d)) (iQ _)) λp n z=>Ω (bU (bG (a.pin p n).1) (by rw[z];show d)) (iQ _)
def NB(N:θ Str)(k:Nat)(d:θ Nat)(hi:DI X target iter ti)(W:∀cl C s H fp,DG (qC X scope N cl C s H fp) target g)(f:∀cl C s H fp,Se (qC X scope N cl C s H fp) ifs tt)(Y:∀cl C s H fp,DE (qC X scope N cl C s H fp) elt te)
  (hc:X.calm=ζ:=by rfl) (hB:Ag X scope N k d=ζ:=by rfl) (hs:∀x,foldedSetIterable iter X.env x=pure x:=by intro _;rfl):DO X (.ListComp elt [#[target,iter,ifs,0]] scope pos) (AA ti k d g tt te):=by
 intro Φ s Z H Q I e9;let⟨b,P,B,q,kk⟩:=e9;have F:=El hB;let⟨cl,xc,sj,k7⟩:=KN (scope:=scope) (env:=X.env) λy hy h=>I.ok.has _ (F.sc.frees y hy h);rw[eval_ListComp];show AD (use:=ξ) rfl hs xc F.sc.kind F.sc.locs (i0 (hi Φ s Z H (λJ c=>∃a,a_ H c/\v_ X J a c/\a.length<=sizeLine/\lK g tt te a (AX b k d) [] P) I #[b,_,B,q,λa J c D E ok=>#[a,E,ok,D.1.ok,D.2]]) λv E h1=>i0 h1 λmd G h2=>?_);let⟨it,fp,tn,J,c,rfl,i,T,st,h,a,K,ok,hz,hD⟩:=h2;show Ai (RR:=λj C=>compPost (model X.prog X.w) X.A X.xe ξ (EP X Φ Z Q) j C) hc F.sc sj k7 F.hN rfl F.hix F.hiy F.hkind (W cl) (f cl) (Y cl) i (B.ext K) T st h ok.s hz hD ?_;intro ds vs l n C L M hP z_ O rr rv hl e I' ⟨m,o⟩ R u;show#[m,o,λU V=>?_];have I3:Inv X Φ Z M {L with heap:=U}:=RN (t':=L.toks) i I' (kM R) u V;have e3:U.get? G.z=ψ {cls:=.type "list",data:=.seq l.toArray n}:=(V.2 _ (bP R)).trans e;show#[.ref G.z,_,i.track I3 (aY _) O e3 rv hl,bg,kk ds _ vs M hP (K.trans z_) O rr]
def Uu{i:Nat}{y:Str}{c nu:Pos}(N:θ Str)(k:Nat)(L:θ Nat)(hN:X.N.Nodup)(hi:ki X target iter ti)(hg:∀cl C s H fp,DG (qC X scope N cl C s H fp) target g)(M:∀cl C s H fp,Se (qC X scope N cl C s H fp) ifs tt)(he:∀cl C s H fp,DE (qC X scope N cl C s H fp) elt te)
  (O:X.N[i]?=ψ y:=by rfl) (u:X.env.scope.names.lookup y=ψ .local:=by rfl) (hc:X.calm=ζ:=by rfl) (hB:Ag X scope N k L=ζ:=by rfl) (hs:∀x,foldedSetIterable iter X.env x=pure x:=by intro _;rfl)
  (xk:swapsWith (.ListComp elt [#[target,iter,ifs,0]] scope pos) (ψ (.Name y c)) nu.line X.env=pure ζ:=by rfl):
  DS X (.Assign [.Name y c] (.ListComp elt [#[target,iter,ifs,0]] scope pos) nu) (oY i (AA ti k L g tt te)):=by
 intro Φ s Z H De I e9;let⟨d,E,P,q,nn,rt,bk,ct⟩:=e9;have F:=El hB;let⟨cl,xc,sj,k7⟩:=KN (scope:=scope) (env:=X.env) λy O R=>I.ok.has _ (F.sc.frees y O R);rw[exec_Assign_Name_used _ _ _ _ xk];show aD (AF (aD ?_));show wpAny _ X.A (do let _ <-comprehension (.ListComp elt [⟨target,iter,ifs,0⟩] scope pos) scope X.env _ (newList []) χ (eval iter X.env) (ψ (assign (.Name y c) X.env))) _ _ s;show aD (iB (AD (use:=ψ (assign (.Name y c) X.env)) (Q:=λ_ f=>SP X Φ De .next f) rfl hs xc F.sc.kind F.sc.locs
  (i0 (hi Φ s Z H (λJ G=>∃j,a_ H G/\Lw X J j G/\j.length<=sizeLine/\lK g tt te j (AX d k L) [] (λU=>E.nx (d.set i (ψ (.own U))))) I #[d,_,P,q,λj J G u s1 ok=>#[j,s1,ok,u.1.ok,u.2]]) λv s1 h1=>i0 h1 λmd l h2=>?_)) (λ_ f hq=>aP (aP hq)) λ_ _ e=>e)
 let⟨it,fp,tn,J,G,rfl,B,T,st,R,j,V,ok,hz,hD⟩:=h2;show Ai (RR:=λW C=>compPost (model X.prog X.w) X.A X.xe (ψ (assign (.Name y c) X.env)) (λ_ f=>SP X Φ De .next f) W C) hc F.sc sj k7 F.hN rfl F.hix F.hiy F.hkind (hg cl) (M cl) (he cl) B (P.ext V) T st R ok hz hD ?_;intro U vs its n C f H2 hP z_ Y rr rv hl e I' ⟨m,wy⟩ K wv;have I3:=B.track I' (aY _) Y e rv hl;have D:l.z≠C:=bP K;have B2:f9 X (d.set i (ψ (.own U))) (Z.set i (ψ (.ref l.z))) (f_ H2 l.z (.lst vs)):=(P.ext (V.trans z_)).set_own Y rr;have k3:c7 H (f_ H2 l.z (.lst vs)):=(c7.of (V.trans z_)).trans (.ofF λb o h=>by rw[cY (dF h Y)];show h);show Δ X (assign (.Name y c) X.env (.ref l.z)) _ _ f;show OI (Bf I3 hN O (.inl u) (v:=.ref l.z) rfl (λs4 I4 i_=>?_) (.inr u));let⟨a,sb,ha⟩:=i_;have s7:C≠a:=by
  rcases ha with rfl |ha
  ·show kN (nA B.lt K)
  ·let⟨v,hv⟩:=B.cell _ a ha;show kN (nA hv.lt K)
 show#[m,wy.sameBut sb s7,λh' vh=>#[_,_,RN (t':=s4.toks) B I4 (kM K) (by rw[cY (Ne.symm D)];show wv) vh,nn _ _ _ hP k3 B2]]
def rT(N:θ Str)(k:Nat)(a:θ Nat)(hi:DI X target iter ti)(b:∀cl C s H fp,DG (qC X scope N cl C s H fp) target g)(c:∀cl C s H fp,DE (qC X scope N cl C s H fp) elt te)
  (d:X.calm=ζ:=by rfl) (hB:Ag X scope N k a=ζ:=by rfl) (e:∀x,foldedSetIterable iter X.env x=pure x:=by intro _;rfl):DO X (.ListComp elt [#[target,iter,[],0]] scope pos) (oC ti k a g te):=by
 rw[<-Ay];show NB N k a hi b (λ_ _ _ _ _=>Fg) c d hB e
def NC{i:Nat}{y:Str}{a c:Pos}(N:θ Str)(k:Nat)(b:θ Nat)(d:X.N.Nodup)(hi:DI X target iter ti)(e:∀cl C s H fp,DG (qC X scope N cl C s H fp) target g)(f:∀cl C s H fp,DE (qC X scope N cl C s H fp) elt te)
  (h:X.N[i]?=ψ y:=by rfl) (j:X.env.scope.names.lookup y=ψ .local:=by rfl) (l:X.calm=ζ:=by rfl) (hB:Ag X scope N k b=ζ:=by rfl) (m:∀x,foldedSetIterable iter X.env x=pure x:=by intro _;rfl)
  (n:swapsWith (.ListComp elt [#[target,iter,[],0]] scope pos) (ψ (.Name y a)) c.line X.env=pure ζ:=by rfl):
  DS X (.Assign [.Name y a] (.ListComp elt [#[target,iter,[],0]] scope pos) c) (oY i (oC ti k b g te)):=by
 rw[<-Ay];show Uu N k b d hi.s e (λ_ _ _ _ _=>Fg) f h j l hB m n
def Lh(i:Nat):RA:=λa Q=>match a[i]? with
 |some (ψ (.own b))=>Q b
 |_=>False
end
section
variable{X:Cx}{e a b:Expr}{pos apos cpos iI:Pos}{te:RE}{x:Str}
def yB(i:Nat)(te:RE):RS:=λE c=>match c[i]? with
 |some (ψ (.own f))=>te c λd=>Sz (f.length+1)/\E.nx (c.set i (ψ (.own (f++[d]))))
 |_=>False
def pC(i:Nat)(y:DE X e te)(z:X.N[i]?=ψ x:=by rfl)(A:vq X.env.scope x:=by walk_at "vis")(c:(x == ("__debug__":Str))=χ:=by decide)(B:(x == ("__classdict__":Str))=χ:=by decide)
  (C:attributeBase (.Name x iI) "append" X.env (eval (.Name x iI) X.env)=eval (.Name x iI) X.env:=by rfl)
  (D:((backTo cpos (starEach [e] X.env)).all (λx=>!x.1) && (backToKw cpos (keywordEach [] X.env)).all (λx=>x.1.isSome) && decide (([e]:θ Expr).length+([]:θ nQ).length+(if([]:θ nQ).isEmpty then 0 else 1)<30))=ζ:=by rfl)
  (F:(apos.endLine == cpos.line)=ζ:=by rfl) (k:starEach [e] X.env=[(χ,eval e X.env)]:=by rfl) (h:starEach [] X.env=[]:=by rfl) (G:swapsWith (.Call (.Attribute (.Name x iI) "append" apos) [e] [] cpos) ξ pos.line X.env=pure χ:=by rfl):
  DS X (.Expr (.Call (.Attribute (.Name x iI) "append" apos) [e] [] cpos) pos) (yB i te):=by
 show PS.mono (UR (Gv kR zT zU Au (pv i z A c B) (oQ y k h) C D F (by rw[k,h]) (by rw[h];rfl)) G) λR Z H I=>pG I λf E j q n r bk T=>?_;unfold yB at q;split at q
 ·rename_i J l;let⟨v,m,p,o,K,s,L,u⟩:=j.rel i _ l;subst K;show#[.ref p,m,.inl #[bg,o,om.of s],f,_,j,q,λd v U c g M=>?_];have w:=g.get _ _ s trivial;let⟨O,P⟩:=(j.ext g).upd_own l m w L ((u.keep (.of g)).append (.cons M .nil));have Q:J.length+1<=sizeLine:=c.1.ok;show#[p,o,v,bg,bg,w,by rw[<-u.length];lia,n _ _ _ c.2 ((c7.of g).trans P) O]
 ·show q.elim
def Oh(i:Nat):RS:=λE c=>match c[i]? with
 |some (ψ (.own d))=>d≠[]/\E.nx (c.set i (ψ (.own d.dropLast)))
 |_=>False
def O7(i:Nat)(l:X.N[i]?=ψ x:=by rfl)(m:vq X.env.scope x:=by walk_at "vis")(o:(x == ("__debug__":Str))=χ:=by decide)(s:(x == ("__classdict__":Str))=χ:=by decide)
  (u:attributeBase (.Name x iI) "pop" X.env (eval (.Name x iI) X.env)=eval (.Name x iI) X.env:=by rfl)
  (w:(apos.endLine == cpos.line)=ζ:=by rfl) (y:swapsWith (.Call (.Attribute (.Name x iI) "pop" apos) [] [] cpos) ξ pos.line X.env=pure χ:=by rfl):
  DS X (.Expr (.Call (.Attribute (.Name x iI) "pop" apos) [] [] cpos) pos) (Oh i):=by
 show PS.mono (UR (T6 kR PySem.F.slot_list_pop PySem.F.type_list_pop S2 (pv i l m o s) u w) y) λJ Z H z=>pG z λc E g q n r bk K=>?_;unfold Oh at q;split at q
 ·rename_i A h;let⟨v,j,p,d,B,f,C,k⟩:=g.rel i _ h;subst B;have L:=k.length;have M:0<A.length:=lD.mpr q.1;have D:d[d.length-1]?=ψ (d[d.length-1]'ν):=aG _;let⟨G,I⟩:=g.upd_own h j f C k.dropLast;show#[.ref p,j,.inl #[bg,d,om.of f],p,d,_,bg,bg,f,D,n _ _ _ q.2 I G]
 ·show q.elim
def XT(i:Nat)(te g:RE):RS:=λE c=>match c[i]? with
 |some (ψ (.own f))=>te c λd=>g c λh=>match h with
  | .int k=>match uj f.length k with
   |some j=>E.nx (c.set i (ψ (.own (f.set j d))))
   |none=>False
  |_=>False
 |_=>False
def Uv{k:Expr}{w:RE}{c:Pos}(i:Nat)(A:DE X e te)(B:DE X k w)(C:X.N[i]?=ψ x:=by rfl)(D:vq X.env.scope x:=by walk_at "vis")(F:(x == ("__debug__":Str))=χ:=by decide)(G:(x == ("__classdict__":Str))=χ:=by decide)
  (I:∀v,assign (.Subscript (.Name x iI) k c) X.env v=(do
   let ov <-holding [v] (eval (.Name x iI) X.env)
   let iv <-holding [v,ov] (eval k X.env)
   standAt c
   holding [v,ov,iv] (setItem ov iv v)
   release [v,ov,iv] []):=by intro _;rfl)
  (J:swapsWithSole [.Subscript (.Name x iI) k c] e pos.line X.env=pure χ:=by rfl) (K:swappedStores [.Subscript (.Name x iI) k c] e X.env=pure ξ:=by rfl)
  (o:(assignEach [.Subscript (.Name x iI) k c] X.env).map (·.2)=[assign (.Subscript (.Name x iI) k c) X.env]:=by rfl):
  DS X (.Assign [.Subscript (.Name x iI) k c] e pos) (XT i te w):=by
 show PS.mono (Wu A (U2 (pv i C D F G) B Yh I) J K o) λDe Z H L=>pG L λf E s q n r bk ct=>?_;unfold XT at q;split at q
 ·rename_i xs y;let⟨w',o,p,M,O,P,Q,z⟩:=s.rel i _ y;subst O;show#[f,_,s,q,λd v H1 R g T=>#[.ref p,o,f,_,s.ext g,R,λU u H2 h l V=>?_]];cases U with
  |int k=>
   dsimp only at h;split at h
   ·rename_i j W;have m:=(g.trans l).get _ _ P trivial;let⟨Y,k2⟩:=((s.ext g).ext l).upd_own y o m Q ((z.keep (.of (g.trans l))).set (T.keep (.of l)) j);show#[p,M,k,j,bg,V.int_inv,m,by rw[<-z.length];show W,n _ _ _ h ((c7.of (g.trans l)).trans k2) Y]
   ·show h.elim
  |_=>show h.elim
 ·show q.elim
end
section
variable{X:Cx}{e a b:Expr}{pos p:Pos}
def C8:sr X (binaryOp .Add) (λx y H Q=>∃l b xs zs,x = .ref l/\y = .ref b/\om X.K H l xs/\om X.K H b zs/\xs.length+zs.length<=sizeLine/\∀p,H p=ξ->Q (.ref p) (f_ H p (.lst (xs++zs)))):=by
 intro Φ s Z H x y v u Q I B C h;let⟨l,b,xs,zs,rfl,rfl,D,hB,R,q⟩:=h;cases B;cases C;obtain⟨f,r,⟨o,n,e,j,k,m⟩,U⟩:=I.list D;obtain⟨i,r2,⟨E,G,w,z,g,A⟩,J⟩:=I.list hB;let⟨c,d,V,L⟩:=o;let⟨W,Y,M,N⟩:=E;dsimp only at j m k z A g;subst j m k z A g;have O:=r.length;have J:=r2.length;show MU (T:="list") (id:="list.__add__") #[_,e,bg] #[_,w,bg] (by kernel_rfl) (by kernel_rfl) PySem.F.slot_list_add PySem.F.entry_list_add (PySem.F.args_list_add_2 _ _)
  (list_addW l b f.toArray i.toArray n G ξ ξ L N (by rw[aZ,aZ];lia)) #[e,w,?_]
 have P:f.toArray++i.toArray=(f++i).toArray:=η
 rw[P];show#[.ref _,_,I.lnew (t':=s.toks) (r.append r2) (by rw[bI];lia),bg,q _ I.fresh]
def i6(X:Cx)(Q:VK):VK:=λv f=>Q v f\/∃p g c,v = .ref p/\f=f_ c p (.lst g)/\c p=ξ/\∀d,a_ c d->vf X.K d p g->Q v d
def K0{s:aK}(h:EP X Φ Z (i6 X Q) u s):EP X Φ Z Q u s:=by
 obtain⟨v,f,I,c,q | ⟨p,g,j,rfl,rfl,d,q⟩⟩:=h
 ·show#[v,f,I,c,q]
 ·let⟨o,i⟩:=Inv.freeze I (a:=p) (xs:=g) fA;show#[.ref p,_,i,c,q _ (.fn λb u e=>by rw[cY (dF e d),cY (dF e d)];show e) (.inl #[o,fA])]
def PE.frz{t:TE}(h:PE X e t):PE X e (λZ H Q=>t Z H (i6 X Q)):=λΦ s Z H Q I q=>i0 (h Φ s Z H _ I q) λ_ _=>K0
def sr.frz{f:aF->aF->Sem aF}(h:sr X f r):sr X f (λx y H Q=>r x y H (i6 X Q)):=λΦ s Z H x y v u Q I c d q=>i0 (h Φ s Z H x y v u _ I c d q) λ_ _=>K0
def qD:R22:=λx y Q=>match x,y with
 | .int i,.int j=>Q (.int (i+j))
 | .lst c,.lst d=>Sz (c.length+d.length)/\Q (.lst (c++d))
 | .tup c,.tup d=>c≠[]/\Sz (c.length+d.length)/\Q (.tup (c++d))
 |_,_=>False
def upd_new{p:Addr}(c:H p=ξ):a_ H (f_ H p o):=a_.fn λb u e=>by rw[cY (dF e c)];show e
def qT:qz X (binaryOp .Add) qD:=by
 intro Φ s Z H x y v u Q I j l C;let⟨d,e,P,r1,r2,q,k⟩:=C;unfold qD at q;split at q
 ·show gB Φ s Z H x y v u Q I j l #[_,_,P,r1,r2,q,k]
 ·rename_i m n;let⟨a,o,rfl,h,c⟩:=r1.lst;let⟨b,w,rfl,A,g⟩:=r2.lst;have f:m.length+n.length<=sizeLine:=q.1.ok;show sr.frz C8 Φ s Z H _ _ v u Q I j l #[a,b,o,w,bg,bg,h,A,by rw[<-c.length,<-g.length];show f,λp i=>.inr #[p,_,H,bg,bg,i,λD B fz=>k _ _ D q.2 B (.lst fz ((c.append g).keep (.of B)))]]
 ·rename_i m n;let⟨a,o,rfl,h,c⟩:=r1.tup;let⟨b,w,rfl,A,g⟩:=r2.tup;have f:m.length+n.length<=sizeLine:=q.2.1.ok;have E:=c.length;show C9 Φ s Z H _ _ v u Q I j l #[a,b,o,w,bg,bg,m7.of h,m7.of A,λz=>q.1 (gC.mp (by rw[E,z];rfl)),by rw[<-c.length,<-g.length];show f,λz=>?_,λz p i=>?_]
  ·subst z;cases g;have:=k _ (.ref a) H q.2.2 (a_.refl H);rw[cQ] at this;show this (.tup h c)
  ·show k _ _ _ q.2.2 (upd_new i) (.tup fA ((c.append g).keep (.of (upd_new i))))
 ·show q.elim
def LJ(f:RE)(g h:RO):RE:=λc Q=>f c λx=>g c λl=>h c λu=>match x with
 | .lst d=>Q (.lst (cutD d l u))
 | .tup d=>¬(HT.sIx d.length 0 l=0/\HT.sIx d.length d.length u=d.length)/\Q (.tup (cutD d l u))
 |_=>False
def Et{K:aL}{H:Hp}{c:θ D}{vs:θ V}(l u:Option Int)(d:cn K H c vs):cn K H (cutD c l u) (ZB vs l u):=by
 unfold cutD ZB;rw[<-d.length];show(d.drop _).take _
def tG{lo hi:Option Expr}(z:DB X e te)(A:DP X lo tl)(B:DP X hi th):DE X (.Subscript e (.Slice lo hi ξ p2) pos) (LJ te tl th):=by
 show PE.mono (PE.frz (Gw (Op.or X3) z A B)) λZ H Q C=>kF C λc P st q k=>?_;show#[c,_,st,q,λd v I D m r1=>#[c,_,st.ext m,D,λl J E g=>#[c,_,(st.ext m).ext g,E,λu H3 h n=>?_]]];have f:=(m.trans g).trans n;cases d with
 |lst F=>
  let⟨p,o,rfl,s,i⟩:=(r1.same (g.trans n)).lst;show .inl #[p,o,bg,s,λw j=>.inr #[w,_,H3,bg,bg,j,λG y fz=>k _ _ G h (f.trans y) (.lst fz ((Et l u i).keep (.of y)))]]
 |tup F=>
  let⟨p,o,rfl,s,i⟩:=(r1.same (g.trans n)).tup;show .inr #[p,o,bg,m7.of s,by rw[<-i.length];show h.1,λw j=>.inl ?_];show k _ _ _ h.2 (f.trans (upd_new j)) (.tup fA ((Et l u i).keep (.of (upd_new j))))
 |_=>show h.elim
def MX:D->(D->Prop)->Prop:=λd Q=>match d with
 | .lst c=>Q (.lst c)
 | .tup c=>Q (.lst c)
 |_=>False
def boot_list:bootBuiltins "list" = ψ (.type "list"):=γ
def boot_tuple:bootBuiltins "tuple" = ψ (.type "tuple"):=γ
def Ak(z:X.mg "list" = ξ)(h:DB X e te)(A:Gl X "list":=by rfl)(u:starEach [e] X.env=[(χ,eval e X.env)]:=by rfl)(i:starEach [] X.env=[]:=by rfl):DE X (.Call (.Name "list" p) [e] [] pos) (r1 MX te):=by
 show PE.mono (PE.frz (QH By A z boot_list (oQ h u i) μ μ (by rw[u,i]) (by rw[i];rfl))) λZ H Q B=>kF B λc P st q k=>#[c,_,st,q,λd v w f y r=>?_];unfold MX at f;split at f
 ·let⟨p,j,rfl,l,m⟩:=r.lst;show#[p,j,bg,.inl l,λn o=>.inr #[n,_,w,bg,bg,o,λs g fz=>k _ _ s f (y.trans g) (.lst fz (m.keep (.of g)))]]
 ·let⟨p,j,rfl,l,m⟩:=r.tup;show#[p,j,bg,.inr (m7.of l),λn o=>.inr #[n,_,w,bg,bg,o,λs g fz=>k _ _ s f (y.trans g) (.lst fz (m.keep (.of g)))]]
 ·show f.elim
def VW:D->(D->Prop)->Prop:=λd Q=>match d with
 | .lst c=>Q (.tup c)
 | .tup c=>Q (.tup c)
 |_=>False
def Fd(s:X.mg "tuple" = ξ)(h:DB X e te)(u:Gl X "tuple":=by rfl)(m:starEach [e] X.env=[(χ,eval e X.env)]:=by rfl)(i:starEach [] X.env=[]:=by rfl):DE X (.Call (.Name "tuple" p) [e] [] pos) (r1 VW te):=by
 show PE.mono (QH ZA u s boot_tuple (oQ h m i) μ μ (by rw[m,i]) (by rw[i];rfl)) λZ H Q w=>kF w λc P st q k=>#[c,_,st,q,λd v y f n r=>?_];unfold VW at f;split at f
 ·let⟨p,j,rfl,g,l⟩:=r.lst;show#[p,j,bg,.inl #[g,λz o=>k _ _ _ f (n.trans (upd_new o)) (.tup fA (l.keep (.of (upd_new o))))]]
 ·let⟨p,j,rfl,g,l⟩:=r.tup;show#[p,j,bg,.inr #[m7.of g,k _ _ y f n (.tup g l)]]
 ·show f.elim
def RP{ns:θ Int}:∀{its:θ aF},c9 (ns.map V.int) its->∃xs:θ (Int×Tok),its.toArray=intItems xs.toArray/\xs.map AS=ns:=by
 induction ns with
 |nil=>intro its h;cases h;show#[[],by simp[intItems],bg]
 |cons n ns d=>
  intro its h;cases h with
  |cons a r=>
  let⟨t,rfl⟩:=a;let⟨xs,f,g⟩:=d r;show#[(n,t)::xs,?_,by simp[g]];have c:=Ψ LU f;simp[intItems] at c⊢;show c
def HN{c:θ (Int×Tok)}{ns:θ Int}(h:c.map AS=ns){i:Nat}(hi:i<ns.length):numAt c.toArray i=ns[i]:=by
 subst h;have d:i<c.length:= ~~~hi
 simp[numAt,d]
def Pg(l:X.calm=ζ):yO X (.builtin "max") (λxs H Q=>∃(p:Addr)(ns:θ Int),xs=[.ref p]/\om X.K H p (ns.map V.int)/\ns≠[]/\∀M,M∈ns->(∀a∈ns,a<=M)->Q (.int M) H):=by
 intro Φ s Z H xs J Q I r h;let⟨p,ns,rfl,m,n,q⟩:=h;let⟨u,rfl,o⟩:=vals1 r;cases o;let⟨w,y,g,L⟩:=I.list m;let⟨c,z,d⟩:=RP y;rw[z] at g;have f:c.length=ns.length:=by rw[<-d];simp
 have A:0<ns.length:=lD.mpr n;show max_intList (I.ok.hd l) g.isList (by simpa [f] using A) λv N O B C=>?_;let⟨t,rfl⟩:=intItems_at B;let⟨D,E⟩:=argBest_gt (numAt c.toArray) (c.toArray.size-1);have k:argBest (λi j=>decide (numAt c.toArray i > numAt c.toArray j)) (c.toArray.size-1)<ns.length:=by rw[<-f];simp at D⊢;lia
 show#[.int _,H,I.kept C,#[t,bg],q _ ?_ λa F=>?_]
 ·rw[HN d k];show nU k
 ·let⟨j,G,rfl⟩:=dS F;rw[<-HN d G];show E j (by simp[f];lia)
def Pk(l:X.calm=ζ):yO X (.builtin "min") (λxs H Q=>∃(p:Addr)(ns:θ Int),xs=[.ref p]/\om X.K H p (ns.map V.int)/\ns≠[]/\∀M,M∈ns->(∀a∈ns,M<=a)->Q (.int M) H):=by
 intro Φ s Z H xs J Q I r h;let⟨p,ns,rfl,m,n,q⟩:=h;let⟨u,rfl,o⟩:=vals1 r;cases o;let⟨w,y,g,L⟩:=I.list m;let⟨c,z,d⟩:=RP y;rw[z] at g;have f:c.length=ns.length:=by rw[<-d];simp
 have A:0<ns.length:=lD.mpr n;show min_intList (I.ok.hd l) g.isList (by simpa [f] using A) λv N O B C=>?_;let⟨t,rfl⟩:=intItems_at B;let⟨D,E⟩:=argBest_lt (numAt c.toArray) (c.toArray.size-1);have k:argBest (λi j=>decide (numAt c.toArray i<numAt c.toArray j)) (c.toArray.size-1)<ns.length:=by rw[<-f];simp at D⊢;lia
 show#[.int _,H,I.kept C,#[t,bg],q _ ?_ λa F=>?_]
 ·rw[HN d k];show nU k
 ·let⟨j,G,rfl⟩:=dS F;rw[<-HN d G];show E j (by simp[f];lia)
def ge:D->(D->Prop)->Prop:=λd Q=>match d with
 | .lst f=>∃c:List Int,f=c.map D.int/\Q (.int c.sum)
 |_=>False
def Mp:D->(D->Prop)->Prop:=λd Q=>match d with
 | .lst f=>∃c:List Int,f=c.map D.int/\c≠[]/\∀M,M∈c->(∀a∈c,a<=M)->Q (.int M)
 |_=>False
def Mq:D->(D->Prop)->Prop:=λd Q=>match d with
 | .lst f=>∃c:List Int,f=c.map D.int/\c≠[]/\∀M,M∈c->(∀a∈c,M<=a)->Q (.int M)
 |_=>False
def boot_max:bootBuiltins "max" = ψ (.builtin "max"):=γ
def boot_min:bootBuiltins "min" = ψ (.builtin "min"):=γ
def Ms(l:X.mg "max" = ξ)(m:X.calm=ζ)(h:DB X e te)(n:Gl X "max":=by rfl)(i:starEach [e] X.env=[(χ,eval e X.env)]:=by rfl)(g:starEach [] X.env=[]:=by rfl):DE X (.Call (.Name "max" p) [e] [] pos) (r1 Mp te):=by
 show PE.mono (BG (Pg m) n l boot_max (oQ h i g) μ μ (by rw[i,g]) (by rw[g];rfl)) λZ H Q o=>kF o λc P st q k=>#[c,_,st,q,λd v s f u r=>?_];unfold Mp at f;split at f
 ·let⟨w,rfl,y,f⟩:=f;let⟨p,C,rfl,j,z⟩:=r.lst;rw[z.ints_inv] at j;show#[p,w,bg,j,y,λM A B=>k _ _ s (f M A B) u (.int _)]
 ·show f.elim
def Mt(l:X.mg "min" = ξ)(m:X.calm=ζ)(h:DB X e te)(n:Gl X "min":=by rfl)(i:starEach [e] X.env=[(χ,eval e X.env)]:=by rfl)(g:starEach [] X.env=[]:=by rfl):DE X (.Call (.Name "min" p) [e] [] pos) (r1 Mq te):=by
 show PE.mono (BG (Pk m) n l boot_min (oQ h i g) μ μ (by rw[i,g]) (by rw[g];rfl)) λZ H Q o=>kF o λc P st q k=>#[c,_,st,q,λd v s f u r=>?_];unfold Mq at f;split at f
 ·let⟨w,rfl,y,f⟩:=f;let⟨p,C,rfl,j,z⟩:=r.lst;rw[z.ints_inv] at j;show#[p,w,bg,j,y,λM A B=>k _ _ s (f M A B) u (.int _)]
 ·show f.elim
end
section
variable{te:RE}{pos p:Pos}
def dc(te:RE):RA:=λa Q=>te a λd=>match d with
 | .lst b=>Q b.reverse
 |_=>False
def boot_reversed:bootBuiltins "reversed" = ψ (.type "reversed"):=γ
end
abbrev Ao(c:String)(l:Addr):Obj:={cls:=.type c,data:=.fields (LE [.ref l,.int 0 0])}
section
variable{prog:cB}{w:dD}{A:dG}{E:aF->aK->Prop}{s:aK}
def Fs{R:Result->aK->Prop}{S I:Addr}{n:Nat}{J F:θ aF->Heap->Prop}{s0:aK}(res:aF)(y:n<=sizeLine)
  (stay:∀acc h h',J acc h->(∃o,h.get? S=ψ o/\o.cls = .type "list")->h'.objs.size=h.objs.size->(∀b o,b≠S->h.get? b=ψ o->h'.get? b=ψ o)->J acc h')
  (item:∀acc (s:aK) (o:Obj) (Q:Option aF->aK->Prop) (E:aF->aK->Prop),acc.length<n->J acc s.heap->s.heap.get? S=ψ o->(∀v h',J (acc++[v]) h'->h'.get? S=ψ o->Q (ψ v) {s with heap:=h'})->Γ prog w A.in1 (pyNext (.ref I)) Q E s)
  (done:∀acc (s:aK) (o:Obj) (Q:Option aF->aK->Prop) (E:aF->aK->Prop),acc.length=n->J acc s.heap->s.heap.get? S=ψ o->(∀h',F acc h'->h'.get? S=ψ o->Q ξ {s with heap:=h'})->Γ prog w A.in1 (pyNext (.ref I)) Q E s)
  (j:∀h' acc c,acc.size=n->F acc.toList h'->h'.get? S=ψ {cls:=.type "list",dict:=ξ,data:=.seq acc c,slots:=(LE [])}->R (.ok (.ret res)) {s0 with heap:=h'}):
  ∀(k:Nat)(acc:Array aF)(h:Heap)(c:Nat),k=n-acc.size->acc.size<=n->J acc.toList h->h.get? S=ψ {cls:=.type "list",dict:=ξ,data:=.seq acc c,slots:=(LE [])} ->
   codeAny (model prog w) A (.builtin "list.extend.loop" #[[.ref S,.ref I,res],[]]) R {s0 with heap:=h}:=by
 intro k
 induction k with
 |zero=>
  intro acc h c l d f g;show fQ yM ?_;rw[eK kC _];show wpAny _ A.in1 (pyNext (.ref I) >>= _) _ _ _;apply aD;show done acc.toList {s0 with heap:=h} _ _ _ ε f g λh' m a=>?_;show aP (j h' acc c ν m a)
 |succ k q=>
  intro acc h c l d f g;show fQ yM ?_;rw[eK kC _];show wpAny _ A.in1 (pyNext (.ref I) >>= _) _ _ _;apply aD;show item acc.toList {s0 with heap:=h} _ _ _ ε f g λv h' i a=>?_;show wpAny _ A.in1 (updateSeq S (·.push v) >>= _) _ _ _;have z:acc.size<n:=ν
  have B:(acc.push v).size=acc.size+1:=Array.size_push ..;apply aD;show lB a rfl ?_ ν (by show(acc.push v).size<=sizeLine+1;lia);apply aP;show#[gU kC _,?_];show q (acc.push v) _ _ ν ν (stay _ _ _ (~~~i) #[_,a,bg] (lC ..).1 λb o u e=>(dU _ _ (Ne.symm u)).trans e) (fM _ a rfl)
end
section
variable{σ:St}
def _root_.L2.Inv.trackO{s h:aK}{a:Addr}(I:Inv X Φ σ H s)(d:Inv X Φ σ H' h)(f:s.z<=a)(e:H' a=ξ)(i:g9 X.prog X.w (f_ H' a w) h.heap a w):Inv X Φ σ (f_ H' a w) h:=by
 have y:X.env.locals≠a:=bP (bU I.lt f);have A:∀x c,X.env.cells.lookup x=ψ c->c≠a:=λx c q z=>by
  let⟨v,B⟩:=I.cell x c q;show Ω (bU B.lt (by rw[z];show f)) (iQ _)
 have C:∀{b:Addr}{o:Obj},X.s₀.heap.get? b=ψ o->b≠a:=λ{b o} q=>bP (bU (bG q) (dY I.sz f));show#[d.ok,d.os,d.bare,#[d.base.keep,d.base.slot,λb o q n D=>by rw[cY (C q)];show d.base.free b o q n D,d.base.there,λb j q=>by rw[cY (dF (d.base.tups b j q) e)];show d.base.tups b j q,λb o u q=>by rw[cY (dF (d.base.frzs b o u q) e)];show d.base.frzs b o u q,λb E q=>?_],d.loc,d.cell,by rw[cY y];show d.free,λx c q=>by rw[cY (A x c q)];show d.freeC x c q,λp k=>?_,λb u q=>?_,d.len]
 ·let⟨m,g⟩:=d.base.tbls b E q;show#[m,by rw[cY (dF g e)];show g]
 ·let⟨F,g,G,J,K⟩:=d.pin p k;have L:p.1≠a:=bP (bU (bG (I.pin p k).1) f);show#[F,by rw[cY L];show g,G,J,K]
 ·by_cases l:b=a
  ·subst l;rw[fA] at q;cases q;show i
  ·rw[cY l] at q;show(d.hok b u q).stay (λc v _ w=>w) (λc w=>by rw[cY (dF w e)];show w) λc j w=>by rw[cY (dF w e)];show w
end
def Hr:D->Option (θ D)
 | .lst a=>ψ a
 | .tup a=>ψ a
 |_=>ξ
def im(f g:RE):RA:=λc Q=>f c λx=>g c λy=>∃d e,Hr x=ψ d/\Hr y=ψ e/\d.length=e.length/\Q (d.zipWith (λa b=>D.tup [a,b]) e)
def boot_zip:bootBuiltins "zip" = ψ (.type "zip"):=γ
def n9(K:aL)(l m:Addr):It:=
 #[λi H=>∃c d x y,om K H l c/\om K H m d/\c[i]?=ψ x/\d[i]?=ψ y,λi H x e=>∃p a b,H p=ξ/\x = .ref p/\e=f_ H p (.tup [a,b])/\(∀c,om K H l c->c[i]?=ψ a)/\∀d,om K H m d->d[i]?=ψ b,
  λi H=>∃c d,om K H l c/\om K H m d/\(c.length<=i\/d.length<=i)]
def pq(z TI TO c d l m:Addr)(i:Nat)(h:Heap):Prop:=IsZip h z TI TO .none/\IsPair h TI (.ref c) (.ref d)/\(∃a b,IsPair h TO a b)/\h.IsListIter c l i/\h.IsListIter d m i
def Yr{P:cB}{w:dD}{K:aL}{n:θ Expr}{k:Nat}{pos:Pos}(z TI TO f g l m:Addr)(D:ZipApart z TI TO f g l m):
  uf P w K (.Tuple n k pos) (n9 K l m) [z,TI,TO,f,g] z (pq z TI TO f g l m) where
 mem:=η
 obj:=λi h st b d=>by
  obtain⟨F,G,⟨a,c,J⟩,⟨o1,Y,c1,d1⟩,o2,e2,c2,d2⟩:=st;erw[aV,dM,or_false] at d;rcases d with rfl |rfl |rfl |rfl |rfl
  ·show#[_,F,λv z=>by cases z]
  ·show#[_,G,λv z=>by cases z]
  ·show#[_,J,λv z=>by cases z]
  ·show#[o1,Y,λv z=>by rw[d1] at z;cases z]
  ·show#[o2,e2,λv z=>by rw[d2] at z;cases z]
 keep:=λi h B st j=>by
  obtain⟨F,G,⟨a,c,J⟩,O,h2⟩:=st;show#[j z η _ F,j TI η _ G,#[a,c,j TO η _ J],O.at λo x=>j f η o x,h2.at λo x=>j g η o x]
 item:=by
  intro X hP hw hK hc i Φ s Z H E I Q st hg;subst hP hw hK;let⟨xs,ys,x,y,R,U,C,hy⟩:=hg;let⟨its,rv,p,xq⟩:=I.list R;let⟨V,r_,p',xr⟩:=I.list U;let⟨u,hu,ru⟩:=rv.get C;let⟨u',L,z8⟩:=r_.get hy;have W:=WalksT.zip2 (prog:=X.prog) (w:=X.w) (A:=X.A) (I.ok.hd hc) z TI TO f g l m D its.toArray V.toArray;have k8:i<min its.toArray.size V.toArray.size:=by
   have a1:=(bF.mp hu).1;have a2:=(bF.mp L).1;simp;lia
  let⟨g1,g2,g3,g4,g5⟩:=id st;show W.item i s _ _ k8 #[g1,g2,g3,g4,g5,p.isList,p'.isList] λT vals O tk hv hT ht hm j=>?_;let⟨v1,v2,Y,e2,rfl⟩:=hv;have q1:v1=u:=by
   have:its.toArray[i]?=ψ u:=(~~~hu);rw[Y] at this;show cW this
  have q2:v2=u':=by
   have:V.toArray[i]?=ψ u':=(~~~L);rw[e2] at this;show cW this
  subst q1 q2;show#[_,bg,?_];have sub:∀{b:Addr},b∉[z,TI,TO,f,g]->b∉[z,TO,f,g]:=λh B=>h (by simp at B⊢;rcases B with a |a |a |a <;> simp[a]);have I1:Inv X Φ Z (f_ H T (.tup [x,y])) {s with heap:=O,toks:=tk}:=
   I.turnedT (its:=[v1,v2]) (ch:=[z,TI,TO,f,g]) (λb o d e=>j b o (sub d) e) Q hT (~~~ht) (.cons ru (.cons z8 .nil)) (by show 2<=sizeLine;decide)
  have hn:H T=ξ:=I.hok.fresh hT;show W.go n k pos i T _ _ _ hm λh2 M x8=>?_;have N:∀b∈[z,TI,TO,f,g],JR X Φ (f_ H T (.tup [x,y])) b:=λb d=>by
   let⟨f0,f1⟩:=Q b d;have:∃o,s.heap.get? b=ψ o:=by
    obtain⟨F,G,⟨a,c,J⟩,⟨o1,w1,c1,d1⟩,o2,w2,c2,d2⟩:=st;erw[aV,dM,or_false] at d;rcases d with rfl |rfl |rfl |rfl |rfl
    ·show#[_,F]
    ·show#[_,G]
    ·show#[_,J]
    ·show#[_,w1]
    ·show#[_,w2]
   let⟨o,ho⟩:=this;show#[by rw[cY (bP (bU (bG ho) hT))];show f0,f1]
  show#[.ref T,_,I1.turnedL (ch:=[z,TI,TO,f,g]) (t':=tk) (λb o d e=>x8 b o (sub d) e) N,bg,#[T,x,y,hn,bg,bg,λH_ B=>by rw[I.list_inj B R];show C,λH_ B=>by rw[I.list_inj B U];show hy],#[M.1,M.2.1,M.2.2.1,M.2.2.2.1,M.2.2.2.2.1],λb d=>(N b d).1]
 done:=by
  intro X hP hw hK hc i Φ s Z H E I Q st hg;subst hP hw hK;let⟨xs,ys,R,U,C⟩:=hg;let⟨its,rv,p,xq⟩:=I.list R;let⟨V,r_,p',xr⟩:=I.list U;obtain⟨g1,g2,⟨a,b,g3⟩,g4,g5⟩:=st;have l1:=rv.length;have l2:=r_.length;show wpAny_pyNext_zip_end (I.ok.hd hc) D g1 g2 g3 g4 g5 p.isList p'.isList ?_ λO j=>#[bg,I.turnedL (ch:=[z,TI,TO,f,g]) (t':=s.toks) (λb o d q=>j b o (λe=>d (by simp[e])) (λe=>d (by simp[e])) (λe=>d (by simp[e])) (λe=>d (by simp[e])) q) Q];rcases C with C |C
  ·show .inl (by rw[tY];show gZ ν)
  ·show .inr (by rw[tY];show gZ ν)
 self:=λ_ _ _ _ _ st h=>QV st.1 h
section
variable{X:Cx}{a b:Expr}{ta tb:RE}{pos p:Pos}{elts:θ Expr}{k:Nat}{tp:Pos}
def SO(ta tb:RE):RA:=λc Q=>ta c λx=>tb c λy=>match x,y with
 | .lst d,.lst e=>Q (d.zipWith (λa b=>D.tup [a,b]) e)
 |_,_=>False
def Jn(hm:X.mg "zip" = ξ)(ha:DE X a ta)(L:DE X b tb)(hg:Gl X "zip":=by rfl)(h2:starEach [a,b] X.env=(χ,eval a X.env)::starEach [b] X.env:=by rfl)(h1:starEach [b] X.env=[(χ,eval b X.env)]:=by rfl)(O:starEach [] X.env=[]:=by rfl):
  DI X (.Tuple elts k tp) (.Call (.Name "zip" p) [a,b] [] pos) (SO ta tb):=by
 intro Φ s Z H R I e9;let⟨c,P,st,q,kk⟩:=e9;show Call_ (oA I hg hm boot_zip (dE (i0 (yW ha (yW L QG (by rw[h1,O])) h2 pos Φ s Z H (λvs g=>∃l m B C h j,vs=[V.ref l,V.ref m]/\a_ H g/\P (B.zipWith (λa b=>D.tup [a,b]) C)/\vf X.K g l h/\cn X.K g B h/\vf X.K g m j/\cn X.K g C j) I
  #[c,_,st,q,λx v g hx f r1=>#[c,_,st.ext f,hx,λy u Q T U r2=>?_]]) λh f ⟨vs,g,G,r1,q1⟩=>?_) h2 (by rw[h1];rfl)))
 ·cases x with
  |lst B=>
   cases y with
   |lst C=>
    cases r1 with
    | @lst l h _ E M=>
     cases r2 with
     | @lst m j _ F N=>show#[l,m,B,C,h,j,bg,f.trans U,T,E.keep (.of U),M.keep (.of U),F,N]
   |_=>show T.elim
  |_=>show T.elim
 let⟨l,m,B,C,h,j,rfl,qw,hp,E,M,F,N⟩:=q1;let⟨w1,w2,rfl,rv,ru⟩:=vals2 r1;cases rv;cases ru;let⟨its,rv,pl,xy⟩:=G.list E.sq;let⟨xo,rv',J,hzz'⟩:=G.list F.sq;have W:l<f.z:=by let⟨o,n,e,_⟩:=pl;show bG e
 have Y:m<f.z:=by let⟨o,n,e,_⟩:=J;show bG e
 show call_zip_2 pl.isList J.isList λh' hz t4 ur wa wb hsz x5=>?_;have I2:Inv X Φ Z g {f with heap:=h'}:=G.kept (t':=f.toks) x5;show QV hz #[f.z+4,[f.z+4,f.z+2,f.z+3,f.z,f.z+1],_,_,g,bg,I2,Yr (f.z+4) (f.z+2) (f.z+3) f.z (f.z+1) l m (zipApart_new W Y),#[hz,t4,#[_,_,ur],wa,wb],λb L=>?_,?_]
 ·have:f.z<=b:=by
   erw[aV,dM,or_false] at L;rcases L with rfl |rfl |rfl |rfl |rfl <;> simp
  show G.fpOk this (G.hok.fresh this)
 ·show kk _ _ g hp qw λi Q w=>#[λd A=>?_,λhl=>#[h,j,(E.keep w).sq,(F.keep w).sq,by rw[<-M.length,<-N.length];simp at hl;lia]];rw[List.getElem?_zipWith] at A;cases e1:B[i]? with
  |none=>rw[e1] at A;cases A
  |some d1=>
   cases e2:C[i]? with
   |none=>rw[e1,e2] at A;cases A
   |some d2=>
    rw[e1,e2] at A;cases A;let⟨v,f1,f2⟩:=(M.keep w).get e1;let⟨u,f3,f4⟩:=(N.keep w).get e2;show#[#[h,j,v,u,(E.keep w).sq,(F.keep w).sq,f1,f3],λx H' y=>?_];let⟨pp,y1,y2,O,rfl,rfl,h_,yr⟩:=y;have e3:=h_ h (E.keep w).sq;have e4:=yr j (F.keep w).sq;rw[f1] at e3;rw[f3] at e4;cases e3;cases e4;have sm:a_ Q (f_ Q pp (.tup [v,u])):=a_.fn λb o e=>(by rw[cY (dF e O)];show e);show#[sm,.tup fA (.cons (f2.keep (.of sm)) (.cons (f4.keep (.of sm)) .nil))]
end
section
variable{prog:cB}{w:dD}{A:dG}{E:aF->aK->Prop}{s:aK}
abbrev xt(m:Bool):String:=cond m "max" "min"
abbrev ek(m:Bool):String:=cond m "max.loop" "min.loop"
abbrev el(m:Bool):CmpOp:=cond m .Gt .Lt
def Gi(m:Bool):entryFor table (ek m)=ψ (cond m Builtin.«max.loop» Builtin.«min.loop»)/\plainId (ek m)=ζ/\(toString (xt m)++toString ".loop":String)=ek m:=by
 cases m
 ·show#[F.entry_min_loop,F.plain_min_loop,μ]
 ·show#[F.entry_max_loop,F.plain_max_loop,μ]
def Vu(m:Bool){I S:Addr}{N:θ Addr}{St:Nat->Heap->Prop}{items:Array aF}{bt:Nat->Nat->Bool}{G:Heap->Prop}{R:Result->aK->Prop}(W:Walks prog w A.in1 I N [I] items.size (λi v=>items[i]?=ψ v) St)(O:S≠I)(D:S∉N)
  (F:∀(i j:Nat)(u v:aF)(s:aK)(Q:aF->aK->Prop)(E:aF->aK->Prop),items[i]?=ψ u->items[j]?=ψ v->G s.heap->Q (.bool (bt i j)) s->Γ prog w A.in1 (richCompare (el m) u v) Q E s)
  (P:∀h h',G h->(∀b o,b≠I->b≠S->h.get? b=ψ o->h'.get? b=ψ o)->G h'):
  ∀(k j:Nat)(s:aK)(vb:aF)(c:Nat),items.size-(j+1)=k->j+1<=items.size->St (j+1) s.heap->items[argBest bt j]?=ψ vb->G s.heap ->
   s.heap.get? S=ψ {cls:=.type "list",dict:=ξ,data:=.seq (LE [vb,vb]) c,slots:=(LE [])} ->
   (∀v h' tk,items[argBest bt (items.size-1)]?=ψ v->(∀b o,b≠I->b≠S->s.heap.get? b=ψ o->h'.get? b=ψ o)->R (.ok (.ret v)) {s with heap:=h',toks:=tk}) ->
   codeAny (model prog w) A (.builtin (ek m) #[[.ref I,.none,.ref S],[]]) R s:=by
 let⟨T,C,U⟩:=Gi m;cases m
 all_goals
  erw[xt,ek,el,cond_true,cond_false] at *;have n:∀{b:Addr},b≠I->b∉[I]:=λh=> ~~~h
  intro k
  induction k with
  |zero=>
   intro j s vb c hk hj H y V z q;show fQ T ?_;rw[eK C _];show wpAny _ A.in1 (seqItems? (.ref S) >>= _) _ _ s;apply aD;apply qK z rfl;show wpAny _ A.in1 (tryCatch (pyNext (.ref I)) _ >>= _) _ _ s;apply aD;apply tT;show W.done s _ _ (by rw[show items.size=j+1 by lia];show H) λh' tk f=>?_;have B:=f S _ (n O) z;show wpAny _ A.in1 (updateSeq S (λ_=>(LE [])) >>= _) _ _ _;apply aD;show lB B rfl ?_;apply aD;apply zJ;apply aP;show q vb _ tk (by rw[show items.size-1=j by lia];show y) λb o d a e=>(dU _ _ (Ne.symm a)).trans (f b o (n d) e)
  |succ k X=>
   intro j s vb c hk hj H y V z q;show fQ T ?_;rw[eK C _];show wpAny _ A.in1 (seqItems? (.ref S) >>= _) _ _ s;apply aD;apply qK z rfl;show wpAny _ A.in1 (tryCatch (pyNext (.ref I)) _ >>= _) _ _ s;apply aD;apply tT;show W.item (j+1) s _ _ ν H λv h' tk Y Z f=>?_;have B:=f S _ (n O) z;have g:G h':=P _ _ V λb o d _ e=>f b o (n d) e;show wpAny _ A.in1 (tryCatch (holding [v,v] (richCompare _ v vb >>= _)) _ >>= _) _ _ _;apply aD;apply tT;apply fS;apply aD;show F (j+1) (argBest bt j) v vb _ _ _ Y y g ?_;apply aD;apply fS;apply pV;apply aD;apply zJ;apply aP;cases lv:bt (j+1) (argBest bt j) with
   |true=>
    erw[if_true];apply aD;show lB B rfl ?_;apply aD;apply zJ;rw[U];apply aP;have J:∀b o,b≠S->h'.get? b=ψ o->(h'.update S (fE λ_=>(LE [v,v]))).get? b=ψ o:=λb o a e=>(dU _ _ (Ne.symm a)).trans e;show#[gU C _,X (j+1) _ v _ ν ν (W.frame _ _ _ Z λb y o e=>J b o (by rintro rfl;show D y) e) (by erw[argBest,lv,if_true];show Y) (P _ _ g λb o _ a e=>J b o a e) (fM _ B rfl) λK l L e M=>?_];show q K l L e λb o d a e=>M b o d a (J b o a (f b o (n d) e))
   |false=>
    erw[aO,if_false];apply aD;apply zJ;rw[U];apply aP;show#[gU C _,X (j+1) _ vb c ν ν Z (by erw[argBest,lv,aO,if_false];show y) g B λK l L e M=>?_];show q K l L e λb o d a e=>M b o d a (f b o (n d) e)
def Nu(m:Bool){l:Addr}{St:Nat->Heap->Prop}{T:String}{items:Array aF}{bt:Nat->Nat->Bool}{G:Heap->Prop}{Q:aF->aK->Prop}(W:Walks prog w A.in1 s.z [s.z,l] [s.z] items.size (λi v=>items[i]?=ψ v) St)(lt:l<s.z)(L:St 0 (s.heap.push (Ao T l)))(X:0<items.size)
  (C:∀(i j:Nat)(u v:aF)(s:aK)(Q:aF->aK->Prop)(E:aF->aK->Prop),items[i]?=ψ u->items[j]?=ψ v->G s.heap->Q (.bool (bt i j)) s->Γ prog w A.in1 (richCompare (el m) u v) Q E s)
  (Y:∀h',(∀b o,s.heap.get? b=ψ o->h'.get? b=ψ o)->G h') (q:∀v h' tk,items[argBest bt (items.size-1)]?=ψ v->(∀b o,s.heap.get? b=ψ o->h'.get? b=ψ o)->Q v {s with heap:=h',toks:=tk}) {B:Fin->aK->Prop}
  (Z:∀c s',c.quiet=ζ/\codeAny (model prog w) A c (λr s'=>match r with
   | .ok (.ret v)=>Q v s'
   | .ok _=>False
   | .error e=>E e s') s'->B (.again c) s'):Γ prog w A.in1 (newList [] >>= λa=>again (.builtin (toString (xt m)++toString ".loop") #[[.ref s.z,.none,a],[]])) B E {s with heap:=s.heap.push (Ao T l)}:=by
 let⟨D,F,M⟩:=Gi m;have T':=@Vu prog w A m;cases m
 all_goals
  erw[xt,ek,el,cond_true,cond_false] at *;apply aD;show fD ?_;rw[M];apply aP;show Z _ _ ?_;have d:(s.heap.push (Ao T l)).objs.size=s.z+1:=mC ..;generalize N:s.heap.push (Ao T l)=f at d;rw[N] at L;have k1:∀b o,s.heap.get? b=ψ o->f.get? b=ψ o:=λb o e=>by rw[<-N];show aR _ e
  show#[gU F _,?_];show codeAny _ A (.builtin _ #[[.ref s.z,.none,.ref f.objs.size],[]]) _ {s with heap:=f.push {cls:=.type "list",dict:=ξ,data:=.seq ([]:θ aF).toArray}};rw[d];have H:(f.push {cls:=.type "list",dict:=ξ,data:=.seq ([]:θ aF).toArray}).get? (s.z+1)=ψ {cls:=.type "list",dict:=ξ,data:=.seq (LE []) 0,slots:=(LE [])}:=by rw[<-d];show bT _ rfl
  have I:∀b o,f.get? b=ψ o->(f.push {cls:=.type "list",dict:=ξ,data:=.seq ([]:θ aF).toArray}).get? b=ψ o:=λb o e=>aR _ e;generalize f.push {cls:=.type "list",dict:=ξ,data:=.seq ([]:θ aF).toArray} = h2 at H I;have k:∀{b:Addr}{o:Obj},s.heap.get? b=ψ o->b≠s.z/\b≠s.z+1:=λe=>#[bP (bG e),bP (iX (bG e))];show fQ D ?_;rw[eK F _];show wpAny _ A.in1 (seqItems? (.ref (s.z+1)) >>= _) _ _ _;apply aD;apply qK H rfl;show wpAny _ A.in1 (tryCatch (pyNext (.ref s.z)) _ >>= _) _ _ _;apply aD;apply tT;show W.item 0 _ _ _ X (W.frame _ _ _ L λb _ o e=>I b o e) λv h' tk hv nv O=>?_;have P:∀{b:Addr},b≠s.z->b∉[s.z]:=λh=> ~~~h
  have R:=O (s.z+1) _ (P (qP _)) H;show wpAny _ A.in1 (updateSeq (s.z+1) (λ_=>(LE [v,v])) >>= _) _ _ _;apply aD;show lB R rfl ?_;rw[M];apply aP;have U:∀b o,b≠s.z+1->h'.get? b=ψ o->(h'.update (s.z+1) (fE λ_=>(LE [v,v]))).get? b=ψ o:=λb o b2 e=>(dU _ _ (Ne.symm b2)).trans e;have n:∀b o,s.heap.get? b=ψ o->(h'.update (s.z+1) (fE λ_=>(LE [v,v]))).get? b=ψ o:=λb o e=>U b o (k e).2 (O b o (P (k e).1) (I b o (k1 b o e)));have y:=fM (fE λ_=>(LE [v,v])) R rfl;show#[gU F _,?_];show T' (G:=λh=>∀b o,s.heap.get? b=ψ o->h.get? b=ψ o) (bt:=bt) W (qP _) (by erw[aV,dM,or_false,not_or];show#[qP _,kN (iX lt)]) (λi j u v s' B E' D e2 g c=>C i j u v s' B E' D e2 (Y _ g) c)
   (λh3 h4 g J b o e=>J b o (k e).1 (k e).2 (g b o e)) (items.size-1) 0 _ v _ ν ν (W.frame _ _ _ nv λb V o e=>U b o (by erw[aV,dM,or_false] at V;rcases V with rfl |rfl;show bP (qO _);show bP (iX lt)) e) (by simpa [argBest] using hv) n y λv' K xv e J=>?_
  show q v' K xv e λb o e=>J b o (k e).1 (k e).2 (n b o e)
def Af{l:Addr}{St:Nat->Heap->Prop}{T:String}{items:Array aF}{bt:Nat->Nat->Bool}{G:Heap->Prop}{Q:aF->aK->Prop}(W:Walks prog w A.in1 s.z [s.z,l] [s.z] items.size (λi v=>items[i]?=ψ v) St)(lt:l<s.z)
  (a:∀{Q E},Q (.ref s.z) {s with heap:=s.heap.push (Ao T l)}->Γ prog w A.in1 (pyIter (.ref l)) Q E s) (d:St 0 (s.heap.push (Ao T l))) (e:0<items.size)
  (c:∀(i j:Nat)(u v:aF)(s:aK)(Q:aF->aK->Prop)(E:aF->aK->Prop),items[i]?=ψ u->items[j]?=ψ v->G s.heap->Q (.bool (bt i j)) s->Γ prog w A.in1 (richCompare .Lt u v) Q E s)
  (f:∀h',(∀b o,s.heap.get? b=ψ o->h'.get? b=ψ o)->G h') (q:∀v h' tk,items[argBest bt (items.size-1)]?=ψ v->(∀b o,s.heap.get? b=ψ o->h'.get? b=ψ o)->Q v {s with heap:=h',toks:=tk}):
  Γ prog w A (call (.builtin "min") [.ref l]) Q E s:=by
 show KM F.kind_min F.plain_min F.entry_min (F.args_min1 _) ?_;show wpAny _ A.in1 (pJ "min" ["key","default"] 0 #[[],[]] >>= _) _ _ s;apply aD;show jK (show pJ "min" ["key","default"] 0 #[[],[]]=pure [ξ,ξ] from rfl) ?_;apply aD;apply aP;apply aD;show a ?_;show Nu χ W lt d e c f q λ_ _ h=>h
def Pj{G:Heap->Prop}(d:A.handled=ξ)(a:s.heap.IsList l items)(f:0<items.size)
  (c:∀(i j:Nat)(u v:aF)(s:aK)(Q:aF->aK->Prop)(E:aF->aK->Prop),items[i]?=ψ u->items[j]?=ψ v->G s.heap->Q (.bool (bt i j)) s->Γ prog w A.in1 (richCompare .Lt u v) Q E s)
  (g:∀h',(∀b o,s.heap.get? b=ψ o->h'.get? b=ψ o)->G h') (q:∀v h' tk,items[argBest bt (items.size-1)]?=ψ v->(∀b o,s.heap.get? b=ψ o->h'.get? b=ψ o)->Q v {s with heap:=h',toks:=tk}):
  Γ prog w A (call (.builtin "min") [.ref l]) Q E s:=by
 have lt:l<s.z:=by let⟨_,e,_⟩:=a;show bG e
 show Af (T:="list_iterator") (VJ (A:=A.in1) d _ l (bP lt) items) lt (λq=>tR a q) #[#[_,bT _ rfl,bg,bg],a.at λo e=>aR _ e] f c g q
def Ji{G:Heap->Prop}(d:A.handled=ξ)(a:s.heap.IsTuple l items)(f:0<items.size)
  (c:∀(i j:Nat)(u v:aF)(s:aK)(Q:aF->aK->Prop)(E:aF->aK->Prop),items[i]?=ψ u->items[j]?=ψ v->G s.heap->Q (.bool (bt i j)) s->Γ prog w A.in1 (richCompare .Lt u v) Q E s)
  (g:∀h',(∀b o,s.heap.get? b=ψ o->h'.get? b=ψ o)->G h') (q:∀v h' tk,items[argBest bt (items.size-1)]?=ψ v->(∀b o,s.heap.get? b=ψ o->h'.get? b=ψ o)->Q v {s with heap:=h',toks:=tk}):
  Γ prog w A (call (.builtin "min") [.ref l]) Q E s:=by
 have lt:l<s.z:=by let⟨_,e,_⟩:=a;show bG e
 show Af (T:="tuple_iterator") (Walks.tuple (A:=A.in1) d _ l (bP lt) items) lt (λq=>yI a q) #[#[_,bT _ rfl,bg,bg],a.at λo e=>aR _ e] f c g q
end
abbrev qJ(ns:θ Int):D:=.tup (ns.map .int)
theorem FQ:∀{a b c:θ Int},HT.lexLt a b=ζ->HT.lexLt b c=ζ->HT.lexLt a c=ζ
 | [],[],_,h,_=>by cases h
 | [],_::_,[],_,h=>by cases h
 | [],_::_,_::_,_,_=>rfl
 |_::_,[],_,h,_=>by cases h
 |_::_,_::_,[],_,h=>by cases h
 |x::i,y::j,z::k,e,d=>by
  rw[HT.lexLt_cons] at *;by_cases g:x=y
  ·subst g;rw[υ rfl] at e;by_cases f:x=z
   ·rw[υ f] at d⊢;show FQ e d
   ·rw[ω f] at d⊢;show d
  ·rw[ω g] at e;by_cases f:y=z
   ·subst f;rw[ω g];show e
   ·rw[ω f] at d;erw[decide_eq_true_eq] at e d;rw[ω ν];erw[decide_eq_true_eq];lia
theorem PR:∀(a:θ Int),HT.lexLt a a=χ
 | []=>rfl
 |x::b=>by rw[HT.lexLt_cons,υ rfl];show PR b
theorem FG(c:∀i j k,bt i j=ζ->bt j k=ζ->bt i k=ζ)(a:∀i,bt i i=χ):∀k,argBest bt k<=k/\∀j,j<=k->bt j (argBest bt k)=χ
 | 0=>#[aY _,λj b=>by rw[Nat.le_zero.mp b];show a 0]
 |k+1=>by
  let⟨f,d⟩:=FG c a k;cases hb:bt (k+1) (argBest bt k) with
  |true=>
   erw[argBest,hb,if_true];show#[aY _,λj b=>?_];by_cases e:j=k+1
   ·subst e;show a _
   ·cases hc:bt j (k+1) with
    |false=>rfl
    |true=>
     have:=c j (k+1) _ hc hb;rw[d j ν] at this;cases this
  |false=>
   erw[argBest,hb,aO,if_false];show#[ν,λj b=>?_];by_cases e:j=k+1
   ·subst e;show hb
   ·show d j ν
def cn.tupI_inv{K:aL}{H:Hp}{ns:θ Int}{v:V}(r:je K H (qJ ns) v):∃a,v = .ref a/\H a=ψ (.tup (ns.map V.int)):=by
 cases r with
 |tup h b=>rw[b.ints_inv] at h;show#[_,bg,h]
section
variable{e a b:Expr}{p pos:Pos}
def Zh:R22:=λx y Q=>∃c d:θ Int,x=qJ c/\y=qJ d/\Q (.bl (HT.lexLt c d))
def We(g:g_ k X.A):qz X (compareOp .Lt) Zh:=by
 intro Φ s Z H x y v u Q I h i j;let⟨d,e,P,r1,r2,q,l⟩:=j;let⟨m,n,o,w,q⟩:=q;subst o w;let⟨a,C,rfl,c,z⟩:=r1.tup;let⟨b,D,rfl,f,B⟩:=r2.tup;rw[z.ints_inv] at c;rw[B.ints_inv] at f;show T3 (X:=X) (by have:=g.un;lia) Φ s Z H _ _ v u Q I h i #[a,b,m,n,bg,bg,m7.of c,m7.of f,l _ _ H q (a_.refl H) (.bl _)]
def Mr:D->(D->Prop)->Prop:=λd Q=>match d with
 | .lst f=>∃c:List (List Int),f=c.map qJ/\c≠[]/\∀M,M∈c->(∀x∈c,HT.lexLt x M=χ)->Q (qJ M)
 | .tup f=>∃c:List (List Int),f=c.map qJ/\c≠[]/\∀M,M∈c->(∀x∈c,HT.lexLt x M=χ)->Q (qJ M)
 |_=>False
def Mu(hr:g_ k X.A)(hm:X.mg "min" = ξ)(hc:X.calm=ζ)(h:DB X e te)(hg:Gl X "min":=by rfl)(hs:starEach [e] X.env=[(χ,eval e X.env)]:=by rfl)(hn:starEach [] X.env=[]:=by rfl):
  DE X (.Call (.Name "min" p) [e] [] pos) (r1 Mr te):=by
 have call:yO X (.builtin "min") (λO H Q=>∃(d:D)(v:V)(P:D->Prop),O=[v]/\j2 X.K H d v/\Mr d P/\∀z w,P z->je X.K H z w->Q w H):=by
  intro Φ s Z H O us Q I rs hq;let⟨d,v,P,rfl,rb,J,kk⟩:=hq;cases d with
  |lst ds=>
   let⟨f,rfl,oi,J⟩:=J;let⟨l,vs,rfl,hq,R⟩:=rb.lst;let⟨u,rfl,rx⟩:=vals1 rs;cases rx;let⟨B,rv,pl,hz⟩:=I.list hq;have l1:=R.length;have l2:=rv.length;have uh:0<f.length:=lD.mpr oi;rw[aJ] at l1;have n:∀(i:Nat)(u:aF),B[i]?=ψ u->∃y a C,f[i]?=ψ y/\vs[i]?=ψ (.ref a)/\u = .ref a/\c9 (y.map V.int) C/\IsTup s.heap a C.toArray:=λi u e=>by
    have hi:i<f.length:=(by have:=(bF.mp e).1;lia);let⟨v,L,T⟩:=R.get (i:=i) (d:=qJ f[i]) (by rw[bC,aG hi];rfl);let⟨a,rfl,ha⟩:=cn.tupI_inv T;let⟨u',F,U⟩:=rv.get L;rw[e] at F;cases F;cases U;let⟨C,M,N,_⟩:=I.tuple (m7.of (K:=X.K) ha);show#[_,a,C,aG hi,L,bg,M,N]
   show Pj (bt:=λi j=>HT.lexLt (f.getD i []) (f.getD j [])) (G:=λh=>∀b o,s.heap.get? b=ψ o->h.get? b=ψ o) (I.ok.hd hc) pl.isList ε (λi j u v s' Q' E' L T g c=>?_) (λh' g=>g) λv h' tk ev kp=>?_
   ·let⟨y,a,C,E,_,rfl,M,N⟩:=n i u (~~~L);let⟨ms,b,us,W,_,rfl,g3,g4⟩:=n j v (~~~T);have Y:f.getD i []=y:=(by rw[cC,E];rfl);have q2:f.getD j []=ms:=(by rw[cC,W];rfl);rw[Y,q2] at c;have hu:=hr.un;have oo:∀{a:Addr}{O:Array aF},IsTup s.heap a O->IsTup s'.heap a O:=λ⟨o,e,r⟩=>#[o,g _ o e,r];show HT.lt_tupInts (A:=X.A.in1) (oo N) (oo g4) (intsAre_of M) (intsAre_of g3) (by show X.A.units+1<cLine;lia) c
   ·let⟨b1,b2⟩:=FG (bt:=λi j=>HT.lexLt (f.getD i []) (f.getD j [])) (λ_ _ _=>FQ) (λ_=>PR _) (B.toArray.size-1);generalize argBest (λi j=>HT.lexLt (f.getD i []) (f.getD j [])) (B.toArray.size-1)=m at b1 b2 ev;let⟨y,a,C,E,W,rfl,M,N⟩:=n m v (~~~ev);have hm:m<f.length:=(bF.mp E).1;show#[.ref a,H,I.kept kp,bg,kk _ _ (J y (bJ E) λx hx=>?_) ?_]
    ·let⟨j,hj,rfl⟩:=dS hx;have:=b2 j ε;have Y:f.getD j []=f[j]:=(by rw[cC,aG hj];rfl);have q2:f.getD m []=y:=(by rw[cC,E];rfl);rw[Y,q2] at this;show this
    ·let⟨w,F,U⟩:=R.get (i:=m) (d:=qJ y) (by rw[bC,E];rfl);rw[W] at F;cases F;show U
  |tup ds=>
   let⟨f,rfl,oi,J⟩:=J;let⟨l,vs,rfl,hq,R⟩:=rb.tup;let⟨u,rfl,rx⟩:=vals1 rs;cases rx;let⟨B,rv,pl,hz⟩:=I.tuple (m7.of (K:=X.K) hq);have l1:=R.length;have l2:=rv.length;have uh:0<f.length:=lD.mpr oi;rw[aJ] at l1;have n:∀(i:Nat)(u:aF),B[i]?=ψ u->∃y a C,f[i]?=ψ y/\vs[i]?=ψ (.ref a)/\u = .ref a/\c9 (y.map V.int) C/\IsTup s.heap a C.toArray:=λi u e=>by
    have hi:i<f.length:=(by have:=(bF.mp e).1;lia);let⟨v,L,T⟩:=R.get (i:=i) (d:=qJ f[i]) (by rw[bC,aG hi];rfl);let⟨a,rfl,ha⟩:=cn.tupI_inv T;let⟨u',F,U⟩:=rv.get L;rw[e] at F;cases F;cases U;let⟨C,M,N,_⟩:=I.tuple (m7.of (K:=X.K) ha);show#[_,a,C,aG hi,L,bg,M,N]
   show Ji (bt:=λi j=>HT.lexLt (f.getD i []) (f.getD j [])) (G:=λh=>∀b o,s.heap.get? b=ψ o->h.get? b=ψ o) (I.ok.hd hc) pl ε (λi j u v s' Q' E' L T g c=>?_) (λh' g=>g) λv h' tk ev kp=>?_
   ·let⟨y,a,C,E,_,rfl,M,N⟩:=n i u (~~~L);let⟨ms,b,us,W,_,rfl,g3,g4⟩:=n j v (~~~T);have Y:f.getD i []=y:=(by rw[cC,E];rfl);have q2:f.getD j []=ms:=(by rw[cC,W];rfl);rw[Y,q2] at c;have hu:=hr.un;have oo:∀{a:Addr}{O:Array aF},IsTup s.heap a O->IsTup s'.heap a O:=λ⟨o,e,r⟩=>#[o,g _ o e,r];show HT.lt_tupInts (A:=X.A.in1) (oo N) (oo g4) (intsAre_of M) (intsAre_of g3) (by show X.A.units+1<cLine;lia) c
   ·let⟨b1,b2⟩:=FG (bt:=λi j=>HT.lexLt (f.getD i []) (f.getD j [])) (λ_ _ _=>FQ) (λ_=>PR _) (B.toArray.size-1);generalize argBest (λi j=>HT.lexLt (f.getD i []) (f.getD j [])) (B.toArray.size-1)=m at b1 b2 ev;let⟨y,a,C,E,W,rfl,M,N⟩:=n m v (~~~ev);have hm:m<f.length:=(bF.mp E).1;show#[.ref a,H,I.kept kp,bg,kk _ _ (J y (bJ E) λx hx=>?_) ?_]
    ·let⟨j,hj,rfl⟩:=dS hx;have:=b2 j ε;have Y:f.getD j []=f[j]:=(by rw[cC,aG hj];rfl);have q2:f.getD m []=y:=(by rw[cC,E];rfl);rw[Y,q2] at this;show this
    ·let⟨w,F,U⟩:=R.get (i:=m) (d:=qJ y) (by rw[bC,E];rfl);rw[W] at F;cases F;show U
  |_=>show J.elim
 show PE.mono (BG call hg hm boot_min (oQ h hs hn) μ μ (by rw[hs,hn]) (by rw[hn];rfl)) λZ H Q hh=>kF hh λt P st q k=>#[t,_,st,q,λd v H1 J s1 r=>#[d,v,P,bg,r,J,λz w hz rz=>k z w H1 hz s1 rz]]
def dNe:R22:=λx y Q=>match x,y with
 | .int i,.int j=>Q (.bl !(decide (i=j)))
 | .bl i,.bl j=>Q (.bl !(decide (i=j)))
 | .tup c,.tup d=>match pi (k5 5) c d with
  |some b=>Q (.bl !b)
  |none=>False
 | .non,.non=>Q (.bl χ)
 |_,_=>False
def Wf(R:g_ k X.A):qz X (compareOp .NotEq) dNe:=by
 intro Φ s Z H x y v u Q I g l T;let⟨d,e,P,r1,r2,q,n⟩:=T;have hu:=R.un;unfold dNe at q;split at q
 ·rename_i i j;rw[r1.int_inv] at g;rw[r2.int_inv] at l;let⟨t,rfl⟩:=g;let⟨U,rfl⟩:=l;have e:(!(decide (i=j))) = !(i == j):=by rw[pD]
  rw[e] at q;show SeqAt.RcNeAt.int_int i t j U _ _ _ _ #[.bl _,H,I,bg,n _ _ H q (a_.refl H) (.bl _)]
 ·rename_i i j;rw[r1.bl_inv] at g;rw[r2.bl_inv] at l;cases g;cases l;have e:(!(decide (i=j))) = !(i == j):=by rw[pD]
  rw[e] at q;show SeqAt.RcNeAt.bool_bool i j _ _ _ _ #[.bl _,H,I,bg,n _ _ H q (a_.refl H) (.bl _)]
 ·rename_i o w;split at q
  ·rename_i b h;let⟨a,vs,rfl,W,C⟩:=r1.tup;let⟨c,ws,rfl,Y,D⟩:=r2.tup;cases g;cases l;let⟨m,E,ht,_⟩:=I.tuple (m7.of W);let⟨F,G,xl,_⟩:=I.tuple (m7.of Y);have l1:o.length=m.length:=C.length.trans E.length;have l2:w.length=F.length:=D.length.trans G.length;have rc:MP X.A s (.ref a) (.ref c) (!b):=by
    have:=SeqAt.RcNeAt.tuples (A:=X.A) (s:=s) (e:=λj=>match o[j]?,w[j]? with |some x,ψ y=>(k5 5 x y).getD χ |_,_=>χ) ht xl ν (λj J L=>?_)
    ·erw[aZ,<-l1,<-l2] at this;have al:=HJ h;rw[<-al];show this
    ·erw[aZ] at J L;have z:o[j]?=ψ (o[j]'ν):=aG _;have B:w[j]?=ψ (w[j]'ν):=aG _;let⟨k,M⟩:=NH h j _ _ z B;rw[z,B];erw[M,nV];let⟨v1,f1,f2⟩:=C.get z;let⟨v2,f3,f4⟩:=D.get B;let⟨u1,N,g4⟩:=E.get f1;let⟨u2,O,g6⟩:=G.get f3;have a1:m.toArray[j]=u1:=by
      have:=aG J;rw[this] at N;simpa using cW N
     have a2:F.toArray[j]=u2:=by
      have:=aG L;rw[this] at O;simpa using cW O
     rw[a1,a2];show(KQ I 5 M f2 f4 g4 g6 (by show X.A.units+1+5<cLine;lia)).2
   show rc _ _ _ _ #[.bl _,H,I,bg,n _ _ H q (a_.refl H) (.bl _)]
  ·show q.elim
 ·have f:∀{v:V},j2 X.K H .non v->v = .non:=λr=>by
   rcases r with r | ⟨_,_,_,e,_⟩
   ·cases r;rfl
   ·cases e
  rw[f r1] at g;rw[f r2] at l;cases g;cases l;show SeqAt.RcNeAt.none_none _ _ _ _ #[.bl _,H,I,bg,n _ _ H q (a_.refl H) (.bl _)]
 ·show q.elim
def To:R22:=λx y Q=>match x with
 | .lst c=>∃j:Nat,(∃d,c[j]?=ψ d/\k5 6 d y=ψ ζ)/\(∀(i:Nat) d,i<j->c[i]?=ψ d->k5 6 d y=ψ χ)/\(∀d∈c,∃b,k5 6 d y=ψ b)/\Q (.int (j:Int))
 |_=>False
def RelV.det(h:RelV v u)(h':RelV v' u):v=v':=RelV.inj h h'
end
section
variable{σ:St}{H:Hp}{s:aK}
def iL{α β c:Type}{f:α->β->c}{g:c->α}(d:∀a b,g (f a b)=a){ks:θ α}:∀{vs:θ β},ks.length=vs.length->(iF f ks vs).map g=ks:=by
 induction ks with
 |nil=>intro vs h;rfl
 |cons k ks e=>
  intro vs h;cases vs with
  |nil=>cases h
  |cons v vs=>rw[lI,aN,d,e (wU h)]
def iN{α β c:Type}{f:α->β->c}{g:c->β}(d:∀a b,g (f a b)=b){ks:θ α}:∀{vs:θ β},ks.length=vs.length->(iF f ks vs).map g=vs:=by
 induction ks with
 |nil=>intro vs h;rw[oE h.symm];rfl
 |cons k ks e=>
  intro vs h;cases vs with
  |nil=>cases h
  |cons v vs=>rw[lI,aN,d,e (wU h)]
def Vg(x:jl):Int:=match x with
 | .inl i=>i
 | .inr _=>0
def Qg(c:ks.length=vs.length)(d:u4.length=bL.length)(h:DN ks vs=DN u4 bL):ks=u4/\vs=bL:=by
 have a:=Ψ (pY λx:jl×V=>Vg x.1) h;have b:=Ψ (pY λx:jl×V=>x.2) h;unfold DN at a b;rw[iL (λ_ _=>rfl) c,iL (λ_ _=>rfl) d] at a;rw[iN (λ_ _=>rfl) c,iN (λ_ _=>rfl) d] at b;show#[a,b]
def Jw(c:ks.length=vs.length)(d:u4.length=bL.length)(h:hZ ks vs=hZ u4 bL):ks=u4/\vs=bL:=by
 have a:=Ψ (pY λx:θ jl×V=>x.1.map Vg) h;have b:=Ψ (pY λx:θ jl×V=>x.2) h;have e:∀(k:θ Int),(k.map (eI:Int->jl)).map Vg=k:=λk=>by rw[cO];show vA k
 unfold hZ at a b;rw[iL (g:=λx:θ jl×V=>x.1.map Vg) (λk _=>e k) c,iL (g:=λx:θ jl×V=>x.1.map Vg) (λk _=>e k) d] at a;rw[iN (λ_ _=>rfl) c,iN (λ_ _=>rfl) d] at b;show#[a,b]
def RJ(I:Inv X Φ σ H s)(h:H a=ψ (.frz o (.dT kvs)))(h':vf X.K H a vs):False:=by
 let⟨f,i,g,_⟩:=I.list h'.sq;let⟨j,b,d,_⟩:=g.isList;let⟨_,_,_,k,_,l,m,n,e,c,_⟩:=I.hok a _ h;rw[e] at b;cases b;rw[c.1] at d;simp at d
def RH(I:Inv X Φ σ H s)(h:H a=ψ (.frz o (.dK kvs)))(h':vf X.K H a vs):False:=by
 let⟨f,i,g,_⟩:=I.list h'.sq;let⟨j,b,d,_⟩:=g.isList;let⟨_,_,_,k,_,l,m,n,e,c,_⟩:=I.hok a _ h;rw[e] at b;cases b;rw[c.1] at d;simp at d
def SR(I:Inv X Φ σ H s)(h:H a=ψ (.tup us))(h':vf X.K H a vs):False:=by
 let⟨f,j,g,_⟩:=I.list h'.sq;obtain⟨k,i,⟨o,e,c,_⟩,_⟩:=I.tuple (m7.of (K:=X.K) h);let⟨l,b,d,_⟩:=g.isList;rw[e] at b;cases b;rw[c] at d;simp at d
def fq(K:aL)(H:Hp)(d:D):V->Prop
 | .non=>.non=d
 | .bl b=>.bl b=d
 | .int i=>.int i=d
 | .str x=>.str x=d
 | .ref a=>(∃e c,H a=ψ (.tup c)/\cn K H e c/\.tup e=d)\/(∃e c,vf K H a c/\cn K H e c/\.lst e=d) \/
  (∃f e c o,H a=ψ (.frz o (.dK (DN f c)))/\f.length=c.length/\cn K H e c/\.dct f e=d) \/
  ∃f e c o,H a=ψ (.frz o (.dT (hZ f c)))/\f.length=c.length/\cn K H e c/\.dtt f e=d
 |_=>False
def je.inv{K:aL}{d:D}{v:V}(r:je K H d v):fq K H d v:=by
 cases r with
 |tup h q=>show .inl #[_,_,h,q,bg]
 |lst h q=>show .inr (.inl #[_,_,h,q,bg])
 |dct h l q=>show .inr (.inr (.inl #[_,_,_,_,h,l,q,bg]))
 |dtt h l q=>show .inr (.inr (.inr #[_,_,_,_,h,l,q,bg]))
 |_=>rfl
def Rm{K:aL}{d:D}{v:V}{a:θ D}{vs:θ V}(h:∀e,je K H e v->d=e)(t:∀es,cn K H es vs->a=es)(es:θ D)(r:cn K H es (v::vs)):d::a=es:=by
 cases r with
 |cons b c=>rw[h _ b,t _ c]
def je.det(I:Inv X Φ σ H s)(r:je X.K H d v):je X.K H d' v->d=d':=
 @je.rec X.K H (λd v _=>∀d',je X.K H d' v->d=d') (λc f _=>∀b,cn X.K H b f->c=b) (λ_ r=>r.inv) (λ_ _ r=>r.inv) (λ_ _ r=>r.inv) (λ_ _ r=>r.inv) (λh _ i d' r=>by
  rcases r.inv with⟨_,_,a,q,rfl⟩ | ⟨_,_,a,_⟩ | ⟨_,_,_,_,a,_⟩ | ⟨_,_,_,_,a,_⟩
  ·rw[h] at a;cases a;rw[i _ q]
  ·show(SR I h a).elim
  all_goals rw[h] at a;cases a) (λh _ i d' r=>by
  rcases r.inv with⟨_,_,a,_⟩ | ⟨_,_,a,q,rfl⟩ | ⟨_,_,_,_,a,_⟩ | ⟨_,_,_,_,a,_⟩
  ·show(SR I a h).elim
  ·rw[I.list_inj a.sq h.sq] at q;rw[i _ q]
  ·show(RH I a h).elim
  ·show(RJ I a h).elim) (λh l _ i d' r=>by
  rcases r.inv with⟨_,_,a,_⟩ | ⟨_,_,a,_⟩ | ⟨_,_,_,_,a,m,q,rfl⟩ | ⟨_,_,_,_,a,_⟩
  ·rw[h] at a;cases a
  ·show(RH I h a).elim
  ·rw[h] at a;let⟨rfl,rfl⟩:=Qg l m (by injection a with e;injection e with _ e;injection e);rw[i _ q]
  ·rw[h] at a;cases a) (λh l _ i d' r=>by
  rcases r.inv with⟨_,_,a,_⟩ | ⟨_,_,a,_⟩ | ⟨_,_,_,_,a,_⟩ | ⟨_,_,_,_,a,m,q,rfl⟩
  ·rw[h] at a;cases a
  ·show(RJ I h a).elim
  ·rw[h] at a;cases a
  ·rw[h] at a;let⟨rfl,rfl⟩:=Jw l m (by injection a with e;injection e with _ e;injection e);rw[i _ q]) (λ_ r=>by cases r;rfl) (λ_ _ h t=>Rm h t) _ _ r _
end
section
variable{X:Cx}{e a b:Expr}{te ta tb:RE}{p pos:Pos}
def Ky(ta tb:RE):RE:=λc Q=>ta c λx=>(∃d,x = .lst d)/\tb c λy=>To x y Q
def Uh{k:Nat}{apos cpos:Pos}(hr:g_ k X.A)(ha:DB X a ta)(B:DE X b tb)(og:attributeBase a "index" X.env (eval a X.env)=eval a X.env:=by rfl)
  (ug:((backTo cpos (starEach [b] X.env)).all (λx=>!x.1) && (backToKw cpos (keywordEach [] X.env)).all (λx=>x.1.isSome) && decide (([b]:θ Expr).length+([]:θ nQ).length+(if([]:θ nQ).isEmpty then 0 else 1)<30))=ζ:=by rfl)
  (oh:(apos.endLine == cpos.line)=ζ:=by rfl) (R:starEach [b] X.env=[(χ,eval b X.env)]:=by rfl) (T:starEach [] X.env=[]:=by rfl):
  DE X (.Call (.Attribute a "index" apos) [b] [] cpos) (Ky ta tb):=by
 have mt:hQ X "list.index" (λx G H Q=>∃(d e:D)(u:V)(P:D->Prop),G=[u]/\j2 X.K H d x/\je X.K H e u/\To d e P/\∀z w,P z->je X.K H z w->Q w H):=by
  intro Φ s Z H x G v us Q I rx rv e9;let⟨d,e,u,P,M,rd,re,q,kk⟩:=e9;subst M;let⟨u',rfl,ru⟩:=rv.one;cases d with
  |lst g=>
   obtain⟨j,⟨dj,ej,hj⟩,U,k7,q⟩:=q;let⟨l,G,rfl,W,rr⟩:=rd.lst;cases rx;let⟨f,r_,pl,N⟩:=I.list W;obtain⟨⟨cls,dd,data,sl⟩,ho,hc,n,hd⟩:=pl.isList;simp only at hc hd;subst hc hd;have l1:=rr.length;have l2:=r_.length;have hu:=hr.un;have l8:j<g.length:=(bF.mp ej).1
   let M:aF->Bool:=λy=>(cF g.length).any λi=>match g[i]?,f[i]? with
    |some d,ψ z=>z == y && k5 6 d e == ψ ζ
    |_,_=>χ
   have o:∀(i:Nat)(y:aF),f[i]?=ψ y->∃d v,g[i]?=ψ d/\je X.K H d v/\RelV v y/\∃b,k5 6 d e=ψ b:=λi y J=>by
    have C:i<g.length:=(by have:=(bF.mp J).1;lia);let⟨v,e1,e2⟩:=rr.get (aG C);let⟨y',f1,f2⟩:=r_.get e1;rw[J] at f1;cases f1;show#[_,v,aG C,e2,f2,k7 _ (nU C)]
   have Y:∀(i:Nat)(y:aF)(d:D)(b:Bool),f[i]?=ψ y->g[i]?=ψ d->k5 6 d e=ψ b->M y=b:=λi y d b J ed B=>by
    let⟨d',v,O,q2,q3,_⟩:=o i y J;rw[ed] at O;cases O;cases b with
    |true=>
     have C:i<g.length:=(bF.mp ed).1;show List.any_eq_true.mpr #[i,cT.mpr C,?_];erw[ed,J,B];simp
    |false=>
     show MB.mpr λi' o6=>?_;cases ex:g[i']? with
     |none=>simp
     |some d'=>
      cases ez:f[i']? with
      |none=>simp
      |some z=>
       erw[kG,beq_iff_eq,not_and];intro N wj;subst N;let⟨d2,v2,p1,p2,p3,_⟩:=o i' z ez;rw[ex] at p1;cases p1;have:=RelV.det q3 p3;subst this;rw[je.det I q2 p2] at B;rw[B] at wj;cases wj
   have E:∀(i:Nat)(h:i<f.toArray.size),f[i]?=ψ f.toArray[i]:=λi h=>by
    have h':i<f.length:=(~~~h);rw[aG h'];simp
   show xU F.slot_list_index #[_,ho,bg] F.entry_list_index (F.args_list_index_2 _ _) (SeqAt.list_indexAt l f.toArray n dd sl u' M j ε ?_ ?_ λm hm k8=>?_) #[ho,λy hy=>?_,?_]
   ·have R:(sizeLine:Int)<2 ^ 63-1:=μ;lia
   ·show Y j _ dj ζ (E j _) ej hj
   ·have L:m<g.length:=(by simp at hm;lia);show Y m _ g[m] χ (E m hm) (aG L) (U m _ k8 (aG L))
   ·let⟨i,C,rfl⟩:=dS (List.mem_toArray.mp hy);let⟨d,v,O,q2,q3,b,B⟩:=o i f[i] (aG C);rw[Y i _ d b (aG C) O B];show(KQ I 6 B q2 re q3 ru (by show X.A.units+1+6<cLine;lia)).2
   ·show#[.int (j:Int),H,I.tok _,#[_,bg],kk _ _ q (.int _)]
  |_=>show q.elim
 show PE.mono (Gv kR PySem.F.slot_list_index PySem.F.type_list_index mt ha (oQ B R T) og ug oh (by rw[R,T]) (by rw[T];rfl)) λZ H Q hh=>kF hh λc P st q k=>#[c,_,st,q,λx v H1 hx s1 r1=>#[?_,c,_,st.ext s1,hx.2,λy u H2 hy s2 r2=>#[x,y,u,P,bg,r1.same s2,r2,hy,λz w N rz=>k z w H2 N (s1.trans s2) rz]]];obtain⟨⟨g,rfl⟩,_⟩:=hx;let⟨l,G,rfl,W,_⟩:=r1.lst;show .inl #[bg,G,W]
end
end
section
open PySem PySem.SetTable
def ef(N i:Nat):Nat:=(i*5+1) % N
def Co(N:Nat):Nat->Nat->Nat
 | 0,i=>i
 |m+1,i=>Co N m (ef N i)
theorem NI(N:Nat):∀a b i,Co N (a+b) i=Co N b (Co N a i)
 | 0,b,i=>by rw[wV];rfl
 |a+1,b,i=>by rw[Nat.add_right_comm];show NI N a b (ef N i)
def Ox(N:Nat):Nat->Nat->θ Nat
 | 0,_=>[]
 |m+1,i=>i::Ox N m (ef N i)
theorem PV:∀{m i:Nat},j∈Ox N m i->∃k,k<m/\Co N k i=j
 | 0,_,h=>by cases h
 |m+1,i,h=>by
  rcases aV.mp h with rfl |h
  ·show#[0,ν,bg]
  ·let⟨k,a,e⟩:=PV h;show#[k+1,ν,e]
def o4(N:Nat):Prop:=(∀j,j<N->j∈Ox N N 0)/\Co N N 0=0
def YB(h:((cF N).all λj=>(Ox N N 0).contains j)=ζ)(k:Co N N 0=0):o4 N:=
 #[λj a=>by have:=uI.mp h j (cT.mpr a);simpa using this,k]
def W2:o4 8:=YB γ γ
def F8:o4 32:=YB γ γ
def Xy:o4 128:=YB γ γ
def o4.reach(h:o4 N)(hi:i<N)(e:j<N):∃k,k<N/\Co N k i=j:=by
 let⟨a,f,c⟩:=PV (h.1 i hi);let⟨b,g,d⟩:=PV (h.1 j e);by_cases l:a<=b
 ·show#[b-a,ν,?_];rw[<-c,<-NI,show a+(b-a)=b by lia,d]
 ·show#[b+(N-a),ν,?_];rw[<-c,<-NI,show a+(b+(N-a))=N+b by lia,NI,h.2,d]
def Em(P:Nat->Prop)(mask:Nat):Nat->Nat->Nat->Prop
 | 0,i,_=>P i
 |m+1,i,pt=>Em P mask m (leap mask i pt).1 (leap mask i pt).2
theorem Ls{P:Nat->Prop}{mask:Nat}:∀m i,P (Co (mask+1) m i)->Em P mask m i 0
 | 0,_,h=>h
 |m+1,i,h=>by
  unfold Em;have e:leap mask i 0=(ef (mask+1) i,0):=by simp[leap,ef]
  rw[e];show Ls m (ef (mask+1) i) h
theorem Io{P:Nat->Prop}{mask:Nat}(R:o4 (mask+1)){j:Nat}(d:j<=mask)(c:P j):∀(b i pt:Nat),i<=mask->pt<32 ^ b->∃m,m<=mask+b/\Em P mask m i pt
 | 0,i,pt,f,a=>by
  have:pt=0:= ~~~a
  subst this;let⟨k,l,e⟩:=R.reach (i:=i) (j:=j) ν ν;show#[k,ν,Ls k i (by rw[e];show c)]
 |b+1,i,pt,f,a=>by
  have g:(leap mask i pt).1<=mask:=by unfold leap;show mZ (mH _ ν)
  have h:(leap mask i pt).2<32 ^ b:=by
   unfold leap;fail;rw[Nat.pow_succ] at a;lia
  let⟨m,n,e⟩:=Io R d c b _ _ g h;show#[m+1,ν,e]
def Md(h:Int):bits h<32 ^ 13:=by
 unfold bits;have:(h % (2 ^ 64:Int))<2 ^ 64:=Int.emod_lt_of_pos _ μ;have a:0<=h % (2 ^ 64:Int):=Int.emod_nonneg _ μ;have:(h % (2 ^ 64:Int)).toNat<2 ^ 64:=ν
 show bU this μ
theorem IS{α:Type}[DecidableEq α]:∀(l m:θ α),l.Nodup->(∀x∈l,x∈m)->l.length<=m.length
 | [],_,_,_=>dZ _
 |x::l,m,f,a=>by
  have b:=a x η;have c:=jY.mp f;have:=IS l (m.erase x) c.2 λy d=>by
   have ne:y≠x:=λe=>c.1 (e▸d);show(vC ne).mpr (a y (by simp[d]))
  rw[rG b] at this;have:0<m.length:=sV b;simp;lia
structure lh(t:SetTable)(n:Nat):Prop where
 size:t.place.size=n
 dum:t.dummies = (LE [])
 room:n<=t.mask
 round:o4 (t.mask+1)
 ris:t.place.toList.Pairwise (· < ·)
def slot_of{t:SetTable}(a:t.dummies = (LE []))(j:Nat):t.slot j = .empty\/∃i,t.slot j = .live i/\t.place[i]?=ψ j:=by
 unfold slot;fail;by_cases h:(t.place[below t.place j]? == ψ j)=ζ
 ·rw[υ h];show gI #[_,bg,~~~h]
 ·rw[ω h,a,ω (by simp[has])];show iH rfl
def Lk{t:SetTable}(T:lh t n):∃j,j<=t.mask/\t.slot j = .empty:=by
 apply mT;intro a;have all:∀j∈cF (t.mask+1),j∈t.place.toList:=by
  intro j b;rcases slot_of T.dum j with h | ⟨i,h,e⟩
  ·show Ω #[j,by have:=cT.mp b;lia,h] a
  ·rw[pW];show Array.mem_of_getElem? e
 have:=IS _ _ OX all;rw[iE,dA,T.size] at this;have:=T.room;lia
def ZW(t:SetTable)(p:Probe)(m:Nat):Prop:=p.dummy=ξ/\p.more<=9/\Em (λj=>t.slot j = .empty) t.mask m p.i p.perturb/\(m=0->p.j=p.i)
def UB(p:Probe)(m:Nat):Nat:=p.more+10*m
def HP(mask i:Nat):runEnd mask i-i<=9:=by unfold runEnd;split <;> lia
def Ec{t:SetTable}(h:ZW t p m)(b:t.slot p.j≠.empty):∃m',ZW t (t.advance p) m'/\UB (t.advance p) m'<UB p m:=by
 let⟨c,g,a,d⟩:=h;have f:m≠0:=by rintro rfl;rw[d rfl] at b;show b a
 unfold advance;split
 ·show#[m,#[c,by fail;lia,a,λe=>Ω e f],by unfold UB;fail;lia]
 ·obtain⟨k,rfl⟩:∃k,m=k+1:=#[m-1,ν];show#[k,#[c,HP _ _,a,λ_=>rfl],?_];unfold UB;have:=HP t.mask (leap t.mask p.i p.perturb).1;fail;lia
theorem Hb{t:SetTable}(b:t.dummies = (LE []))(hashAt:Nat->Int)(h:Int):∀(fuel:Nat)(p:Probe)(m:Nat),ZW t p m->UB p m<fuel ->
  (∃j,Ha t hashAt h fuel p=ψ (.empty j ξ)/\t.slot j = .empty)\/(∃j i next m',Ha t hashAt h fuel p=ψ (.candidate j i next)/\t.slot j = .live i/\t.place[i]?=ψ j/\ZW t next m'/\UB next m'<UB p m)
 | 0,_,_,_,h=>Ω h (oV _)
 |fuel+1,p,m,c,o=>by
  unfold Ha;rcases slot_of b p.j with e | ⟨i,e,f⟩
  ·rw[e];fail;rw[c.1];show iH #[_,bg,e]
  ·rw[e];fail;let⟨m',d,g⟩:=Ec c (by rw[e];show λx=>nomatch x);split
   ·show gI #[_,_,_,m',bg,e,f,d,g]
   ·rcases Hb b hashAt h fuel (t.advance p) m' d ν with r | ⟨j,i,k,a,r,r2,l,n,q⟩
    ·show iH r
    ·show gI #[j,i,k,a,r,r2,l,n,ν]
def Ru{t:SetTable}(T:lh t n)(h:Int):∃m,ZW t (t.probeStart h) m/\UB (t.probeStart h) m<10*turns t.mask:=by
 let⟨j,a,b⟩:=Lk T;let⟨m,c,e⟩:=Io (P:=λj=>t.slot j = .empty) T.round a b 13 (bits h % (t.mask+1)) (bits h) (mZ (mH _ ν)) (Md h);show#[m,#[bg,HP _ _,e,λ_=>rfl],?_];have:=HP t.mask (bits h % (t.mask+1));unfold UB probeStart turns;fail;lia
theorem Nh{mask:Nat}{owner:Array (Option Nat)}:∀(fuel m i pt:Nat),i<=mask->owner.size=mask+1->Em (λj=>owner.getD j (ψ 0)=ξ) mask m i pt->m<fuel->∃j,uX mask owner fuel i pt=ψ j/\j<=mask/\owner.getD j (ψ 0)=ξ
 | 0,_,_,_,_,_,_,h=>Ω h (oV _)
 |fuel+1,m,i,pt,g,b,a,l=>by
  unfold uX;cases hq:(cF (runEnd mask i+1-i)).find? λk=>(owner.getD (i+k) (ψ 0)).isNone with
  |some k=>
   have c:=List.find?_some hq;have d:=List.mem_of_find?_eq_some hq;have n:=cT.mp d;show#[i+k,bg,?_,~~~c];have:runEnd mask i<=mask:=(by unfold runEnd;split <;> lia);lia
  |none=>
   fail;have e:owner.getD i (ψ 0)≠ξ:=by
    have f:=JV.mp hq 0 (cT.mpr (by unfold runEnd;split <;> lia));simpa using f
   obtain⟨k,rfl⟩:∃k,m=k+1:=by
    cases m with
    |zero=>show Ω a e
    |succ k=>show#[k,bg]
   show Nh fuel k _ _ (by unfold leap;show mZ (mH _ ν)) b a ν
def NU(owner:Array (Option Nat))(n:Nat):θ Nat:=(cF n).filterMap λj=>owner.getD j ξ
theorem Ft{α:Type}{f g:Nat->Option α}:∀(l:θ Nat),(∀a∈l,f a=g a)->l.filterMap f=l.filterMap g
 | [],_=>rfl
 |a::l,h=>by rw[eX,eX,h a η,Ft l λb c=>h b (by simp[c])]
theorem IQ{α:Type}{f g:Nat->Option α}{x:α}{j:Nat}:∀(l:θ Nat),l.Nodup->j∈l->(∀i,i≠j->f i=g i)->f j=ξ->g j=ψ x->(l.filterMap g).Perm (x::l.filterMap f)
 | [],_,h,_,_,_=>by cases h
 |i::l,n,o,b,c,d=>by
  have k:=jY.mp n;by_cases e:i=j
  ·subst e;rw[eX,eX,c,d];fail;have:l.filterMap g=l.filterMap f:=by
    show Ft l λa q=>(b a (λe=>k.1 (e▸q))).symm
   rw[this]
  ·have s:j∈l:=(by rcases aV.mp o with h |h;show Ω h.symm e;show h);have m:=IQ l k.2 s b c d;rw[eX,eX,b i e];cases g i with
   |none=>show m
   |some y=>show(m.cons y).trans (VD x y _)
def Qv{N c:Nat}(d:(NU owner N).Perm (cF c))(m:owner.size=N)(n:c<N):∃j,j<N/\owner.getD j (ψ 0)=ξ:=by
 apply mT;intro f;have a:∀(l:θ Nat),(∀j∈l,∃k,owner.getD j ξ=ψ k)->(l.filterMap λj=>owner.getD j ξ).length=l.length:=by
  intro l
  induction l with
  |nil=>intro _;rfl
  |cons j l g=>
   intro h;let⟨k,e⟩:=h j η;rw[eX,e];have:=g λj b=>h j (by simp[b]);rw[aT,aT,this]
 have:=a (cF N) (by
  intro j b;have i:=cT.mp b;cases h:owner.getD j ξ with
  |some k=>show#[k,bg]
  |none=>
   show Ω #[j,i,?_] f;have lt:j<owner.size:=ν;simp[lX,lt] at h⊢;show h)
 have e:=d.length_eq;unfold NU at e;rw[this] at e;simp at e;lia
theorem Gc{mask:Nat}(R:o4 (mask+1)):∀(hs:θ Int)(owner:Array (Option Nat))(c:Nat),owner.size=mask+1->(NU owner (mask+1)).Perm (cF c)->c+hs.length<=mask+1 ->
  ∃v4 ,(hs.foldl (λacc h=>do
    let (owner,k) <-acc
    let j <-uX mask owner (turns mask) (bits h % (mask+1)) (bits h)
    pure (owner.setIfInBounds j (ψ k),k+1)) (ψ (owner,c)))=ψ (v4,c+hs.length)/\v4.size=mask+1/\(NU v4 (mask+1)).Perm (cF (c+hs.length))
 | [],owner,c,hs,b,_=>#[owner,bg,hs,b]
 |h::hs,owner,c,d,b,g=>by
  erw[aT] at g;let⟨l,o,q⟩:=Qv b d ν;let⟨m,y,em⟩:=Io (P:=λj=>owner.getD j (ψ 0)=ξ) R (j:=l) ν q 13 (bits h % (mask+1)) (bits h) (mZ (mH _ ν)) (Md h);let⟨j,s,z,e⟩:=Nh (turns mask) m _ _ (mZ (mH _ ν)) d em (by unfold turns;lia);rw[oU];have step:((do
    let (owner,k) <-ψ (owner,c)
    let j <-uX mask owner (turns mask) (bits h % (mask+1)) (bits h)
    pure (owner.setIfInBounds j (ψ k),k+1)):Option (Array (Option Nat)×Nat))=ψ (owner.setIfInBounds j (ψ c),c+1):=by
   show(uX mask owner (turns mask) (bits h % (mask+1)) (bits h) >>= λj=>_)=_;rw[s];rfl
  rw[step];have lt:j<owner.size:=ν
  have a:(NU (owner.setIfInBounds j (ψ c)) (mask+1)).Perm (cF (c+1)):=by
   unfold NU;show(IQ (f:=λi=>owner.getD i ξ) (x:=c) (j:=j) _ OX (cT.mpr ν) ?_ ?_ ?_).trans ?_
   ·intro i u;erw[iC];rw[Array.getElem?_setIfInBounds_ne (Ne.symm u)]
   ·erw[iC] at e⊢;have:owner[j]?=ψ owner[j]:=cJ lt;rw[this] at e⊢;show e
   ·erw[iC];rw[Array.getElem?_setIfInBounds_self_of_lt lt];rfl
   ·rw[fP (n:=c)];show(List.Perm.cons c b).trans (tZ (l₁:=[c]))
  let⟨v,r1,r2,w⟩:=Gc R hs (owner.setIfInBounds j (ψ c)) (c+1) (by simp[d]) a ν;show#[v,?_,r2,?_]
  ·rw[r1,aT,show c+1+hs.length=c+(hs.length+1) by lia]
  ·rw[aT,show c+(hs.length+1)=c+1+hs.length by lia];show w
def A7{mask:Nat}(R:o4 (mask+1))(finger moves:Nat)(led plain:Bool)(a:Array Int)(h:a.size<=mask):
  ∃t order,laid mask finger moves led plain a=ψ (t,order)/\lh t a.size/\t.mask=mask/\t.led=led/\t.plain=plain/\order.toList.Perm (cF a.size):=by
 let⟨o,e,sz,c⟩:=Gc R a.toList (SU (mask+1) ξ) 0 η (by
  have:NU (SU (mask+1) ξ) (mask+1)=[]:=by
   unfold NU;rw[List.filterMap_eq_nil_iff];intro j i;have:=cT.mp i;simp[iC,this]
  rw[this];show ET _) (by rw[dA];lia)
 have m:layClean mask a=ψ o:=by
  unfold layClean;rw[<-Array.foldl_toList];have d:=e;erw[wV] at d;rw[d];rfl
 unfold laid;rw[m];erw[wV,dA] at c;have f:∀l:θ Nat,(l.filterMap λj=>(o.getD j ξ).map (j,·)).map (·.2)=l.filterMap λj=>o.getD j ξ:=by
  intro l
  induction l with
  |nil=>rfl
  |cons j l b=>
   rw[eX,eX];cases o.getD j ξ with
   |none=>show b
   |some k=>show Ψ (k :: ·) b
 have n:∀l:θ Nat,((l.filterMap λj=>(o.getD j ξ).map (j,·)).map (·.1)).Sublist l:=by
  intro l
  induction l with
  |nil=>show List.Sublist.refl _
  |cons j l b=>
   rw[eX];cases o.getD j ξ with
   |none=>show b.cons j
   |some k=>show b.cons_cons j
 show#[_,_,bg,#[?_,bg,h,R,tX (n _) sW],bg,bg,bg,?_]
 ·have q:=Ψ jE (f (cF (mask+1)));have g:=c.length_eq;unfold NU at g;erw[aJ,iE] at q g;erw[aZ,aJ];lia
 ·fail;rw[f];show c
theorem VQ(e:xs.toList.Pairwise (· < ·)):∀(fuel lo hi:Nat),lo<=hi->hi<=xs.size->hi-lo<=fuel->(∀i x,i<lo->xs[i]?=ψ x->x<j)->(∀i x,hi<=i->xs[i]?=ψ x->j<=x) ->
  VP xs j fuel lo hi<=xs.size/\(∀i x,i<VP xs j fuel lo hi->xs[i]?=ψ x->x<j)/\(∀i x,VP xs j fuel lo hi<=i->xs[i]?=ψ x->j<=x)
 | 0,lo,hi,o,d,q,a,b=>by
  have:lo=hi:=ν
  subst this;show#[d,a,b]
 |fuel+1,lo,hi,o,d,q,a,b=>by
  unfold VP;by_cases l:lo<hi
  ·rw[υ l];fail;have m:(lo+hi) / 2<xs.size:=ν;have em:xs[(lo+hi) / 2]?=ψ xs[(lo+hi) / 2]:=cJ m;have s:xs.getD ((lo+hi) / 2) j=xs[(lo+hi) / 2]:=(by simp[lX,m]);have mono:∀(i k x y:Nat),i<k->xs[i]?=ψ x->xs[k]?=ψ y->x<y:=by
    intro i k x y u c f;have n:k<xs.size:=(lY.mp f).1;have:=fW.mp e i k ε (~~~n) u;rw[cJ ν] at c;rw[cJ n] at f;cases c;cases f;simpa using this
   rw[s];split
   ·rename_i h;show VQ e fuel _ _ ν d ν (λi x v c=>?_) b;by_cases g:i=(lo+hi) / 2
    ·subst g;rw[em] at c;cases c;show h
    ·show nA (mono i ((lo+hi) / 2) x _ ν c em) h
   ·rename_i h;show VQ e fuel _ _ ν ν ν a (λi x v c=>?_);by_cases g:i=(lo+hi) / 2
    ·subst g;rw[em] at c;cases c;lia
    ·have:=mono ((lo+hi) / 2) i _ x ν em c;lia
  ·rw[ω l];have:lo=hi:=ν;subst this;show#[d,a,b]
def Ef(j:Nat)(a:xs.toList.Pairwise (· < ·)):below xs j<=xs.size/\(∀i x,i<below xs j->xs[i]?=ψ x->x<j)/\(∀i x,below xs j<=i->xs[i]?=ψ x->j<=x):=
 VQ a xs.size 0 xs.size (dZ _) (aY _) ν (λi x h=>Ω h (oV _)) λi x h e=>by
  have:=(lY.mp e).1;lia
def zZ{α:Type}(xs:Array α)(p:Nat)(x:α)(a:p<=xs.size):(insertAt xs p x).toList=xs.toList.take p++x::xs.toList.drop p:=by
 unfold insertAt;rw[wB,LV,EQ,EQ];erw[List.extract_eq_drop_take,wT,EU,fK,EG];congr 2;rw[iS η]
def IR{α:Type}(xs:Array α)(p:Nat)(x:α)(a:p<=xs.size):(insertAt xs p x).size=xs.size+1:=by
 rw[<-dA,zZ xs p x a];simp;lia
def Cp{α:Type}(xs:Array α)(p:Nat)(x:α)(a:p<=xs.size)(y:α):y∈(insertAt xs p x).toList↔y=x\/y∈xs.toList:=by
 rw[zZ xs p x a,bQ,aV];constructor
 ·rintro (h |h |h)
  ·show gI (qA h)
  ·show iH h
  ·show gI (EW h)
 ·rintro (h |h)
  ·show gI (iH h)
  ·rw[<-mO p xs.toList] at h;rcases bQ.mp h with h |h
   ·show iH h
   ·show gI (gI h)
def V0{t:SetTable}(T:lh t n)(b:t.slot j = .empty)(q:n+1<=t.mask):lh (t.put j).1 (n+1)/\(t.put j).2=below t.place j/\below t.place j<=n/\(t.put j).1.mask=t.mask/\(t.put j).1.led=t.led/\(t.put j).1.plain=t.plain/\(t.put j).1.moves=t.moves:=by
 let⟨c,s,d⟩:=Ef j T.ris;have u:t.place[below t.place j]?≠ψ j:=by
  intro h;unfold slot at b;dsimp only at b;rw[υ (~~~h)] at b;cases b
 have v:(if has t.dummies j=ζ then eraseAt t.dummies (below t.dummies j) else t.dummies) = (LE []):=by
  rw[T.dum];simp[has]
 show#[#[?_,v,q,T.round,?_],bg,by rw[<-T.size];show c,bg,bg,bg,bg]
 ·show(insertAt t.place _ j).size=_;rw[IR _ _ _ c,T.size]
 ·show(insertAt t.place _ j).toList.Pairwise _;rw[zZ _ _ _ c];show jG.mpr #[tX (MF _ _) T.ris,iO.mpr #[λx f=>?_,tX (List.drop_sublist _ _) T.ris],λx f y g=>?_]
  ·let⟨i,l,e⟩:=dS f;erw[gR,dA] at l;rw[ME] at e;have a:t.place[below t.place j+i]?=ψ x:=(by rw[cJ ν,<-e];simp);have:=d _ x ν a;rcases KD this with h |h
   ·show h
   ·subst h;exfalso;cases i with
    |zero=>show u a
    |succ i=>
     have m:below t.place j<t.place.size:=ν;have w:t.place[below t.place j]?=ψ t.place[below t.place j]:=cJ m;have D:=d _ _ (aY _) w;have z:=fW.mp T.ris (below t.place j) (below t.place j+(i+1)) (~~~m) ε ν;rw[cJ ν] at a;injection a with a;simp at z;lia
  ·let⟨i,l,e⟩:=dS f;erw[jF,dA] at l;rw[List.getElem_take] at e;have a:t.place[i]?=ψ x:=(by rw[cJ ν,<-e];simp);have A:=s i x ν a;rcases aV.mp g with rfl |g
   ·show A
   ·let⟨k,B,o⟩:=dS g;erw[gR,dA] at B;rw[ME] at o;have C:t.place[below t.place j+k]?=ψ y:=(by rw[cJ ν,<-o];simp);have:=d _ y ν C;lia
def xA(t:SetTable)(k:Nat):Nat:=if k=0 then 0 else t.place.getD (k-1) 0+1
def Kg{t:SetTable}(T:lh t n)(a:k<=n):below t.place (xA t k)=k:=by
 let⟨o,j,l⟩:=Ef (xA t k) T.ris;have mono:∀(i k x y:Nat),i<k->t.place[i]?=ψ x->t.place[k]?=ψ y->x<y:=by
  intro i k x y m e b;have a:k<t.place.size:=(lY.mp b).1;have:=fW.mp T.ris i k ε (~~~a) m;rw[cJ ν] at e;rw[cJ a] at b;cases e;cases b;simpa using this
 have sz:=T.size;have c:∀i,i<n->t.place[i]?=ψ (t.place.getD i 0):=by
  intro i q;rw[cJ ν];have:i<t.place.size:=ν
  simp[lX,this]
 rcases ML (below t.place (xA t k)) k with h |h |h
 ·exfalso;have:=l (k-1) _ ν (c (k-1) ν);unfold xA at this;rw[ω ν] at this;lia
 ·show h
 ·exfalso;have f:=c k ν;have d:=j k _ h f;unfold xA at d;by_cases g:k=0
  ·rw[υ g] at d;lia
  ·rw[ω g] at d;have:=mono (k-1) k _ _ ν (c (k-1) ν) f;lia
section
variable{prog:cB}{w:dD}{A:dG}{E:aF->aK->Prop}{s:aK}
def Hw(g:IsTupleKey (intKind prog w) s.heap ks a)(q:Q χ s):Γ prog w A (ofAClassStatement 8 (.ref a)) Q E s:=by
 have i:=g.typeIs;let⟨o,b,n,j,_,k,l⟩:=g;unfold ofAClassStatement;show aD (xB i ?_);fail;rw[υ μ];show aD (aP ?_);erw[dX,aO,if_false];show aD (qK j k ?_)
 try fail
 show aD ?_;rw[<-JO];show qX _ (λrest r c=>r.1=ξ/\c=s/\∀v∈rest,carriedByValue v=ζ) _ ?_ ?_ _ _ #[bg,bg,l.byValue]
 ·rintro v rest r c ⟨d,rfl,h⟩;have m:=h v dL;have e:ofAClassStatement 7 v=pure χ:=by
   cases v with
   |ref a=>simp[carriedByValue] at m
   |_=>first |rfl | (unfold ofAClassStatement;rfl)
  rw[e];show aD (aP ?_);erw[aO,if_false];show aP #[bg,bg,λu f=>h u (cR _ f)]
 ·rintro⟨r1,r2⟩ c ⟨d,rfl,_⟩;simp only at d;subst d;show aP q
def Lm(f:IsTupleKey (intKind prog w) s.heap ks a)(q:Q ζ s):Γ prog w A (hashByValue 8 (.ref a)) Q E s:=by
 have j:=f.typeIs;let⟨o,b,n,l,_,m,u⟩:=f;unfold hashByValue;show aD (pA j F.slot_tuple_hash.lookup ?_)
 try fail
 show aD (qK l m ?_)
 try fail
 show aD ?_;show wpAny _ _ (forIn b _ _) _ _ s;rw[<-JO];show qX _ (λrest r c=>r.1=ξ/\c=s/\∃g,ItemsAre (intKind prog w) g rest) _ ?_ ?_ _ _ #[bg,bg,ks,u]
 ·rintro v rest r c ⟨d,rfl,g,y⟩;cases y with
  | @cons k _ h _ i z=>
   have e:hashByValue 7 v=pure ζ:=by
    obtain⟨t,rfl⟩:∃t,v = .int k t:=by
     cases v <;> simp[intKind,FE] at i;show#[_,by rw[i]]
    rfl
   rw[e];show aD (aP ?_);erw[dX,aO,if_false];show aP #[bg,bg,_,z]
 ·rintro⟨r1,r2⟩ c ⟨d,rfl,_⟩;simp only at d;subst d;show aP q
def G3{ks:θ Int}{a:Addr}{stored:θ aF}{Q:Bool->aK->Prop}(f:IsTupleKey (intKind prog w) s.heap ks a)(l:∀y∈stored,∃u4 b,y = .ref b/\IsTupleKey (intKind prog w) s.heap u4 b)(q:Q χ s):
  Γ prog w A (searchCouldBeSeen (.ref a) stored) Q E s:=by
 unfold searchCouldBeSeen;show aD ?_;show qX _ (λrest r c=>r.1=ξ/\c=s/\∀y∈rest,y∈stored) _ ?_ ?_ _ _ #[bg,bg,λ_ h=>h]
 ·rintro v rest r c ⟨d,rfl,g⟩;let⟨u4,b,rfl,i⟩:=l v (g v dL);have j:∀y∈rest,y∈stored:=λu e=>g u (cR _ e);fail;by_cases k:((a == b) || (carriedByValue (eO a) && carriedByValue (eO b)))=ζ
  ·rw[υ k];show aP #[bg,bg,j]
  ·rw[ω k];show aD (EN f ?_);erw[dX,aO,if_false];show aD (EN i ?_);erw[dX,aO,if_false];show aD (Hw f ?_);erw[aO,if_false];show aD (Hw i ?_);erw[aO,if_false];show aP #[bg,bg,j]
 ·rintro⟨r1,r2⟩ c ⟨d,rfl,_⟩;simp only at d;subst d;show aP q
def oK(w:dD):Bool:=w.params.followText "set-order"
def EsOk(prog:cB)(w:dD)(h:Heap)(es:Array (Int×aF)):Prop:=∀e∈es.toList,∃a b,e=(tupleKeyHash (intKind prog w) a,.ref b)/\IsTupleKey (intKind prog w) h a b
def Sh(mask n:Nat):Prop:=(mask=7/\n<=4)\/(mask=31/\n<=18)\/(mask=127/\n<=76)
def pI(es:Array (Int×aF))(ep:Nat)(t:SetTable):Obj:={cls:=.type "set",dict:=ξ,data:=.set es ep t}
def lh.fits{t:SetTable}(T:lh t n):t.fits n=ζ:=by
 unfold SetTable.fits fill;rw[T.dum,T.size];simp;show T.room
def Uz{mask n:Nat}(h:Sh mask n):(mask % 2 == 0)=χ:=by
 rcases h with⟨rfl,_⟩ | ⟨rfl,_⟩ | ⟨rfl,_⟩ <;> rfl
theorem Be{S a:Addr}{t:SetTable}(C:A.units<cLine)(k:s.heap.get? S=ψ (pI es ep t))(T:lh t es.size)(D:Sh t.mask es.size)(l:EsOk prog w s.heap es)
  (n:IsTupleKey (intKind prog w) s.heap ks a) (F:(∃e∈es.toList,∃b,e.2 = .ref b/\IsTupleKey (intKind prog w) s.heap ks b)->Q (.there ξ) s) (G:∀j,t.slot j = .empty->Q (.free j χ) s):
  ∀(fuel:Nat)(vc:Option Probe)(m:Nat),ZW t (vc.getD (t.probeStart (tupleKeyHash (intKind prog w) ks))) m->UB (vc.getD (t.probeStart (tupleKeyHash (intKind prog w) ks))) m<10*turns t.mask->UB (vc.getD (t.probeStart (tupleKeyHash (intKind prog w) ks))) m<fuel ->
   Γ prog w A (setSearchFrom S (.ref a) (tupleKeyHash (intKind prog w) ks) ζ fuel vc) Q E s
 | 0,_,_,_,_,h=>Ω h (oV _)
 |fuel+1,vc,m,L,H,X=>by
  unfold setSearchFrom;show aD (jV k rfl T.fits ?_);fail;rw[ω (by unfold SetTable.gaveWay;rw[Uz D];show cL)];unfold probe;rcases Hb T.dum _ (tupleKeyHash (intKind prog w) ks) (10*turns t.mask) _ m L H with⟨j,e,ej⟩ | ⟨j,i,next,m',e,ej,q5,o6,wp⟩
  ·rw[e];fail;show aP (G j ej)
  ·rw[e];fail;have o:i<es.size:=by
    have:=(lY.mp q5).1;rw[T.size] at this;show this
   have I:es[i]?=ψ es[i]:=cJ o;have J:es[i]∈es.toList:=η;let⟨M,b,q,K⟩:=l _ J;have rest:Γ prog w A (match es[i]? with
    |some (u,y)=>do
     let c <-holding [y] (eqBool y (eO a))
     let d <-setState S
     if(ζ && c)=ζ then pure (VH ξ)
      else
       match d.2.snd.sameMemory t.moves t.mask with
       |some same=>
        let f <-match if same=ζ then d.2.snd.slot j else Slot.empty with
        |Slot.live g=>
         match d.fst[g]? with
         |some (u,N)=>do pure (if <-isSame N y then ψ g else ξ)
         |none=>pure ξ
        |_=>pure ξ
        match f with
        |none=>do
         rule "set.search.anew"
         setSearchFrom S (eO a) (tupleKeyHash (intKind prog w) ks) ζ fuel ξ
        |some g=>
         if c=ζ then pure (VH (ψ g))
         else setSearchFrom S (eO a) (tupleKeyHash (intKind prog w) ks) ζ fuel (ψ next)
       |_=>unsupported "set.changed-during-lookup:is-the-new-block-at-the-old-address"
    |_=>unsupported "internal:set-entry") Q E s:=by
    rw[I,q];fail;show aD (fS (wpAny_eqBool_tuple C K n ?_));show aD (jV k rfl T.fits ?_);fail;by_cases v:M=ks
    ·subst v;rw[υ η];show aP (F #[_,J,b,by rw[q],K])
    ·rw[ω (by simp[v])];have O:t.sameMemory t.moves t.mask=ψ ζ:=(by unfold sameMemory;rw[υ η]);rw[O];fail;rw[υ rfl,ej];fail;rw[I,q];fail;show aD ?_;have same:isSame (.ref b) (.ref b)=pure ζ:=by
      show(if(b == b)=ζ then pure ζ else _)=_;rw[υ η]
     rw[same];show aP (aD (aP ?_));rw[υ rfl];fail;rw[ω (by simp[v])];show Be C k T D l n F G fuel (ψ next) m' o6 (nA wp H) (by erw[nV];lia)
   cases yu:t.led with
   |true=>
    erw[dX,aO,if_false];show rest
   |false=>
    erw[lZ,if_true];show aD (G3 n ?_ ?_)
    ·intro y P;let⟨R,z,rfl⟩:=bD.mp P;have:=(Array.mem_filter.mp (pW.mp z)).1;let⟨B,U,V,W⟩:=l R (pW.mpr this);show#[B,U,by rw[V],W]
    ·erw[aO,if_false];show rest
structure qd(prog:cB)(w:dD)(h:Heap)(S:Addr)(es:Array (Int×aF)):Prop where
 tab:∃ep t,h.get? S=ψ (pI es ep t)/\lh t es.size/\Sh t.mask es.size/\t.led = !oK w/\t.plain=ζ/\True
 els:EsOk prog w h es
 dis:True
def BB{S b:Addr}{t:SetTable}(e:h.get? S=ψ (pI es ep t))(f:∀b o,b≠S->h.get? b=ψ o->h'.get? b=ψ o)(g:IsTupleKey (intKind prog w) h ks b):IsTupleKey (intKind prog w) h' ks b:=by
 let⟨o,a,n,c,i,d,j⟩:=g;show#[o,a,n,f b o ?_ c,i,d,j];rintro rfl;rw[e] at c;cases c;show nomatch d
def Fw(h:n<100):VI n=n*4:=by
 unfold VI;rw[ω ν]
def Li{S a:Addr}(hu:A.units<cLine)(H:qd prog w s.heap S es)(K:IsTupleKey (intKind prog w) s.heap ks a)(hn:es.size<76)
  (q:∀b h' tk yo,qd prog w h' S yo->(∀y∈yo.toList,y∈es.toList\/y.2 = .ref a)->(∀y∈es.toList,y∈yo.toList)->(∃y∈yo.toList,∃b,y.2 = .ref b/\IsTupleKey (intKind prog w) h' ks b)->yo.size<=es.size+1 ->
   (∀b o,b≠S->s.heap.get? b=ψ o->h'.get? b=ψ o)->h'.objs.size=s.z->s.toks<=tk->Q b {s with heap:=h',toks:=tk}):
  Γ prog w A (setAdd S (.ref a)) Q E s:=by
 obtain⟨⟨ep,t,g,T,L,X,W,_⟩,Y,_⟩:=H;unfold setAdd;show fS (aD (wpAny_pyHash_tuple hu K ?_));unfold setAddHashed;show fS ?_;unfold setAddHashedIn;show aD (jV (s:={s with toks:=s.toks+(ks.length+1)}) g rfl T.fits ?_);fail;have nb:byScan (.ref a) es=χ:=by unfold byScan;simp[Value.scannable]
 rw[nb];erw[aO,if_false];let⟨m,hi,hm⟩:=Ru T (tupleKeyHash (intKind prog w) ks);have Z:UB (t.probeStart (tupleKeyHash (intKind prog w) ks)) m<100000:=by
  show bU hm ?_;unfold turns;rcases L with⟨e,_⟩ | ⟨e,_⟩ | ⟨e,_⟩ <;> rw[e] <;> decide
 unfold setSearch;show aD (Be (s:={s with toks:=s.toks+(ks.length+1)}) hu g T L Y K ?_ ?_ 100000 ξ m hi hm Z)
 ·rintro⟨e,D,b,e2,B⟩;fail;show aP ?_;show q χ s.heap _ es #[#[ep,t,g,T,L,X,W,#[]],Y,#[]] (λy f=>iH f) (λy f=>f) #[e,D,b,e2,B] ν (λb o _ e=>e) rfl (by show s.toks<=s.toks+_;lia)
 ·intro j hj;fail;show aD (jV (s:={s with toks:=s.toks+(ks.length+1)}) g rfl T.fits ?_);fail;have N:es.size+1<=t.mask:=by rcases L with⟨e,h⟩ | ⟨e,h⟩ | ⟨e,h⟩ <;> lia
  let⟨T1,p1,p2,p3,p4,p5,p6⟩:=V0 T hj N;rw[p5,W];erw[if_true];show aD (Lm (s:={s with toks:=s.toks+(ks.length+1)}) K ?_);erw[if_true];rw[p1];have sz:=IR es (below t.place j) (tupleKeyHash (intKind prog w) ks,eO a) p2;have mem:=Cp es (below t.place j) (tupleKeyHash (intKind prog w) ks,eO a) p2;generalize insertAt es (below t.place j) (tupleKeyHash (intKind prog w) ks,eO a)=d at sz mem;show aD (OM (s:={s with toks:=s.toks+(ks.length+1)}) g rfl ?_ (by rw[sz,gX];lia));have up1:∀b o,b≠S->s.heap.get? b=ψ o->(s.heap.update S (qB d (t.put j).1)).get? b=ψ o:=λb o B e=>(dU _ _ (Ne.symm B)).trans e;obtain⟨F,M⟩:∃F,(s.heap.update S (qB d (t.put j).1)).get? S=ψ (pI d F (t.put j).1):=#[_,fM _ g rfl];have z1:(s.heap.update S (qB d (t.put j).1)).objs.size=s.z:=(lC ..).1;generalize s.heap.update S (qB d (t.put j).1)=k at up1 M z1;have C:EsOk prog w k d:=by
   intro e D;rcases (mem e).mp D with rfl |D
   ·show#[ks,a,bg,BB g up1 K]
   ·let⟨u4,b,r1,r2⟩:=Y e D;show#[u4,b,r1,BB g up1 r2]
  have u:lh (t.put j).1 d.size:=by rw[sz];show T1
  have zp:(t.put j).1.fill=d.size:=by unfold fill;rw[u.size,u.dum];simp
  by_cases tf:(t.put j).1.tooFull=ζ
  ·rw[tf];erw[lZ,Bool.and_self,if_true];have G:=tf;unfold tooFull at G;rw[zp,p3,sz] at G;erw[ge_iff_le,decide_eq_true_eq] at G;have vv:(t.mask=7/\es.size=4)\/(t.mask=31/\es.size=18):=(by rcases L with⟨e,h⟩ | ⟨e,h⟩ | ⟨e,h⟩ <;> lia);unfold setRelay;show aD (aD (jV (s:={s with heap:=k,toks:=s.toks+(ks.length+1)}) M rfl u.fits ?_));fail;have hw:SetTable.sizeAbove (grown (es.size+1))=(if t.mask=7 then 32 else 128):=by
    rw[Fw ν];rcases vv with⟨e,h⟩ | ⟨e,h⟩ <;> rw[e,h] <;> decide
   rw[ω (by rw[hw,gX];split <;> decide)];have R:o4 ((if t.mask=7 then 31 else 127)+1):=by
    split
    ·show F8
    ·show Xy
   let⟨l,c,l1,T2,l3,l4,l5,l6⟩:=A7 R (t.put j).1.finger ((t.put j).1.movedTo (if t.mask=7 then 31 else 127)) (t.put j).1.led (t.put j).1.plain (d.map (·.1)) (by rw[UT,sz];rcases vv with⟨e,h⟩ | ⟨e,h⟩ <;> rw[e,h] <;> decide);have er:(t.put j).1.relaid (d.map (·.1)) (grown (es.size+1))=ψ (l,c):=by
    unfold relaid;rw[hw];have:(if t.mask=7 then 32 else 128)-1=(if t.mask=7 then 31 else 127):=(by split <;> rfl);rw[this];show l1
   rw[er];rw[UT] at T2 l6;have O:(c.filterMap (d[·]?)).toList.Perm d.toList:=by
    rw[Array.toList_filterMap];show(l6.filterMap _).trans ?_;have:(cF d.size).filterMap (d[·]?)=d.toList:=by
     apply sU;intro i;have key:∀n,n<=d.size->(cF n).filterMap (d[·]?)=d.toList.take n:=by
      intro n
      induction n with
      |zero=>intro _;rfl
      |succ n ih=>
       intro hn;rw[fP,EC,ih ν];have:d[n]?=ψ d[n]:=cJ ν;erw[eX,this,List.filterMap_nil];rw[gD];simp[show n<d.size by lia]
     rw[key _ (aY _),<-dA,jH]
    rw[this]
   have P:(c.filterMap (d[·]?)).size=d.size:=(by rw[<-dA,O.length_eq,dA]);have oi:((c.filterMap (d[·]?)).size != d.size)=χ:=(by rw[P];simp);show aD ?_;show wpAny _ _ (if((c.filterMap (d[·]?)).size != d.size)=ζ then(unsupported "internal:set-table-lost-an-element" >>= λ_=>pure (c.filterMap (d[·]?),l)) else pure (c.filterMap (d[·]?),l)) _ _ _;rw[oi];erw[aO,if_false];show aP ?_;fail;have U:∀y,y∈(c.filterMap (d[·]?)).toList↔y∈d.toList:=λy=>O.mem_iff;generalize c.filterMap (d[·]?)=I at P U;show OM (s:={s with heap:=k,toks:=s.toks+(ks.length+1)}) M rfl ?_ (by rw[P,sz,gX];lia);have vd:∀b o,b≠S->s.heap.get? b=ψ o->(k.update S (qB I l)).get? b=ψ o:=λb o B e=>(dU _ _ (Ne.symm B)).trans (up1 b o B e);have V:∀b o,b≠S->k.get? b=ψ o->(k.update S (qB I l)).get? b=ψ o:=λb o B e=>(dU _ _ (Ne.symm B)).trans e;obtain⟨J,g2⟩:∃J,(k.update S (qB I l)).get? S=ψ (pI I J l):=#[_,fM _ M rfl];have z2:(k.update S (qB I l)).objs.size=s.z:=((lC ..).1).trans z1;show aP (q ζ (k.update S (qB I l)) _ I #[#[J,l,g2,by rw[P];show T2,?_,by rw[l4,p4];show X,by rw[l5,p5];show W,#[]],?_,#[]] (λy f=>?_) (λy f=>(U y).mpr ((mem y).mpr (gI f))) #[_,(U _).mpr ((mem _).mpr (iH rfl)),a,bg,BB g vd K] ν vd z2 (by show s.toks<=s.toks+_;lia))
   ·rw[l3,P,sz];unfold Sh;rcases vv with⟨e,h⟩ | ⟨e,h⟩ <;> rw[e,h] <;> decide
   ·intro e D;let⟨u4,b,r1,r2⟩:=C e ((U e).mp D);show#[u4,b,r1,BB M V r2]
   ·rcases (mem y).mp ((U y).mp f) with rfl |h
    ·show gI rfl
    ·show iH h
  ·have v:(t.put j).1.tooFull=χ:=(~~~tf);rw[v];erw[xI,aO,if_false];show aP (q ζ k _ d #[#[F,_,M,u,?_,by rw[p4];show X,by rw[p5];show W,#[]],C,#[]] (λy f=>?_) (λy f=>(mem y).mpr (gI f)) #[_,(mem _).mpr (iH rfl),a,bg,BB g up1 K] ν up1 z1 (by show s.toks<=s.toks+_;lia))
   ·unfold tooFull at v;rw[zp,p3,sz] at v;erw[ge_iff_le,decide_eq_false_iff_not] at v;rw[p3,sz];unfold Sh;rcases L with⟨e,h⟩ | ⟨e,h⟩ | ⟨e,h⟩ <;> lia
   ·rcases (mem y).mp f with rfl |h
    ·show gI rfl
    ·show iH h
end
end
section
open PySem PySem.SetTable PyProof.Rows
section
variable{prog:cB}{w:dD}{s:aK}
def qd.other{S:Addr}(H:qd prog w h S es)(d:∀b o,h.get? b=ψ o->(∃e∈es.toList,e.2 = .ref b)\/b=S->h'.get? b=ψ o):qd prog w h' S es:=by
 obtain⟨⟨i,t,j,r⟩,c,_⟩:=H;show#[#[i,t,d _ _ j (gI rfl),r],λe f=>?_,#[]];let⟨k,b,g,o,a,n,l,m,q,u⟩:=c e f;show#[k,b,g,o,a,n,d b o l (iH #[e,f,by rw[g]]),m,q,u]
structure o7(prog:cB)(w:dD)(items:Array aF)(key:Nat->List Int)(S:Addr)(i:Nat)(h:Heap):Prop where
 ex:∃es,qd prog w h S es/\(∀y∈es.toList,∃j,j<i/\items[j]?=ψ y.2)/\(∀j,j<i->∃y∈es.toList,∃b,y.2 = .ref b/\IsTupleKey (intKind prog w) h (key j) b)/\es.size<=i
def Yi(hh:A.in1.handled=ξ)(oi:l≠I)(hu:A.in1.units<cLine)(S:Addr)(zu:S≠I)(P:S≠l)
  (hi:∀i v,items[i]?=ψ v->∃a,v = .ref a/\IsTupleKey (intKind prog w) h0 (key i) a/\a≠S/\a≠I) (K:items.size<=76):
  ∀(k i:Nat)(s:aK),items.size-i=k->i<=items.size->s.heap.IsListIter I l i/\s.heap.IsList l items->o7 prog w items key S i s.heap ->
   (∀b o,b≠S->b≠I->h0.get? b=ψ o->s.heap.get? b=ψ o) ->
   (∀h' tk,o7 prog w items key S items.size h'->(∀b o,b≠S->b≠I->h0.get? b=ψ o->h'.get? b=ψ o)->R (.ok (.ret .none)) {s with heap:=h',toks:=tk}) ->
   codeAny (model prog w) A (.builtin "set.update.loop" #[[.ref S,.ref I],[]]) R s:=by
 have W:=VJ (prog:=prog) (w:=w) (A:=A.in1) hh I l oi items;have L:∀{b:Addr},b≠I->b∉[I]:=λh=> ~~~h
 have ub:∀{h:Heap}{i:Nat}{a:Addr},(∀b o,b≠S->b≠I->h0.get? b=ψ o->h.get? b=ψ o)->IsTupleKey (intKind prog w) h0 (key i) a->a≠S->a≠I->IsTupleKey (intKind prog w) h (key i) a:=by
  intro h i a g Q m d;let⟨o,c,n,C,M,u,E⟩:=Q;show#[o,c,n,g a o m d C,M,u,E]
 have move:∀{h h':Heap}{i:Nat},i<=items.size->o7 prog w items key S i h->(∀b o,b≠I->h.get? b=ψ o->h'.get? b=ψ o)->o7 prog w items key S i h':=by
  intro h h' i T ⟨es,D,B,U,d3⟩ g;show#[es,D.other λb o e hm=>g b o ?_ e,B,λj N=>?_,d3]
  ·rcases hm with⟨y,f,ey⟩ |rfl
   ·let⟨j,N,z⟩:=B y f;let⟨a,q,_,_,G⟩:=hi j y.2 z;rw[ey] at q;cases q;show G
   ·show zu
  ·let⟨y,f,b,H,o,c,n,C,M,u,E⟩:=U j N;show#[y,f,b,H,o,c,n,g b o ?_ C,M,u,E];let⟨V,xh,z⟩:=B y f;let⟨a,q,_,_,G⟩:=hi V y.2 z;rw[H] at q;cases q;show G
 intro k
 induction k with
 |zero=>
  intro i s Q T st D g X;have Y:i=items.size:=ν
  subst Y;show fQ F.entry_set_update_loop ?_;rw[eK F.plain_set_update_loop _];show wpAny _ A.in1 (pyNext (.ref I) >>= _) _ _ s;show aD (W.done s _ _ st λh' tk J=>?_);show wpAny _ A.in1 (ret eU) _ _ _;show aP (X h' tk (move (aY _) D λb o K e=>J b o (L K) e) λb o m d e=>J b o (L d) (g b o m d e))
 |succ k ih=>
  intro i s Q T st D g X;have k8:i<items.size:=ν
  show fQ F.entry_set_update_loop ?_;rw[eK F.plain_set_update_loop _];show wpAny _ A.in1 (pyNext (.ref I) >>= _) _ _ s;show aD (W.item i s _ _ k8 st λv h' tk hv nv J=>?_);let⟨a,rfl,Z,yn,yq⟩:=hi i v hv;let⟨es,D1,B,U,d3⟩:=move T D (λb o K e=>J b o (L K) e);have yd:∀b o,b≠S->b≠I->h0.get? b=ψ o->h'.get? b=ψ o:=λb o m d e=>J b o (L d) (g b o m d e);show wpAny _ A.in1 (holding [eO a] (setAdd S (.ref a)) >>= _) _ _ _;show aD (fS ?_);show Li (s:={s with heap:=h',toks:=tk}) hu D1 (ub yd Z yn yq) ν λ_ M tk2 yp D2 m1 m2 m3 m4 O z2 _=>?_;show aP #[gU F.plain_set_update_loop _,ih (i+1) _ ν k8 #[nv.1.at λo e=>O _ o (Ne.symm zu) e,nv.2.at λo e=>O _ o (Ne.symm P) e] ?_ (λb o m d e=>O b o m (yd b o m d e)) λu A_ D3 qt=>X u A_ D3 qt];show#[yp,D2,λy f=>?_,λj N=>?_,ν]
  ·rcases m1 y f with h |h
   ·let⟨j,N,z⟩:=B y h;show#[j,ν,z]
   ·show#[i,ν,by rw[h];show hv]
  ·by_cases wk:j=i
   ·subst wk;show m3
   ·let⟨y,f,b,H,o,c,n,C,sv,u,E⟩:=U j ν;show#[y,m2 y f,b,H,o,c,n,O b o ?_ C,sv,u,E];let⟨V,xh,z⟩:=B y f;let⟨a',q,_,G,_⟩:=hi V y.2 z;rw[H] at q;cases q;show G
def Hu(a:aF)(h:Q₁ (.ref s.z) {s with heap:=s.heap.push (pI (LE []) 0 (.fresh 0 0 (!oK w)))}):
  codeAny (model prog w) A (.call (.builtin "set.__new__") #[[.type "set",a],[]]) (wants Q₁ E) s:=by
 apply rR;show wpAny _ A.in1 (checkBuiltinCall "set.__new__" #[[.type "set",a],[]] >>= λ_=>again (.builtin "set.__new__" #[[.type "set",a],[]])) _ _ s;apply aD;show jK (PySem.F.newCall_set_1 a) (aP #[gU EH _,fQ PySem.F.entry_set_new ?_]);rw[eK EH _];unfold Builtin.«set.__new__» Builtin.Frozenset.newClass;have b:=sub_set_self;let⟨c,g,d,e,os⟩:=s;fail;wp_walk;show qW (aP ?_);fail;erw[newObj];apply aD;show wpAny_alloc (aP ?_);show aP h
def Rv(b:Bool):lh (.fresh 0 0 b) 0:=#[bg,bg,dZ _,W2,pN]
def IU(l:Addr):Obj:={cls:=.type "list_iterator",data:=.fields (LE [.ref l,.int 0 0])}
def YZ(hh:A.handled=ξ)(hu:A.units+8<cLine)(hl:s.heap.IsList l items)
  (hi:∀i v,items[i]?=ψ v->∃a,v = .ref a/\IsTupleKey (intKind prog w) s.heap (key i) a) (hb:items.size<=76)
  (q:∀h' tk,o7 prog w items key s.z items.size h'->(∀b o,s.heap.get? b=ψ o->h'.get? b=ψ o)->Q (.ref s.z) {s with heap:=h',toks:=tk}):
  Γ prog w A (call (.type "set") [.ref l]) Q E s:=by
 let⟨c,tl,O⟩:=PySem.F.called_set.mro;have H:=PySem.F.called_set.made;have V_:=PySem.F.called_set.sub;apply LR;apply rR;show wpAny _ _ (callAny (.type "set") _) _ _ _;show aP #[JP _ γ,fQ AU ?_];rw[JN (EM "set" [.ref l] []) rfl];have h1:=PySem.F.called_set.notType;have f:=PySem.F.called_set.canCreate;have vi:=PySem.F.typeCall_set_1 (.ref l)
 repeat (any_goals (first |assumption |wp_step))
 show oM (Hu (.ref l) (E:=E) (Q₁:=λh P=>h = .ref s.z/\P = {s with heap:=s.heap.push (pI (LE []) 0 (.fresh 0 0 (!oK w)))}) #[bg,bg]) λr P k=>?_
 match r,k with
 | .error e,k=>show k
 | .ok (.ret h),k=>
  let⟨rfl,rfl⟩:=k;have B:(s.heap.push (pI (LE []) 0 (.fresh 0 0 (!oK w)))).get? s.z=ψ (pI (LE []) 0 (.fresh 0 0 (!oK w))):=bT _ rfl;have I:(s.heap.push (pI (LE []) 0 (.fresh 0 0 (!oK w)))).objs.size=s.z+1:=mC ..;have J:∀b o,s.heap.get? b=ψ o->(s.heap.push (pI (LE []) 0 (.fresh 0 0 (!oK w)))).get? b=ψ o:=λb o e=>aR _ e;have T:zV {s with heap:=s.heap.push (pI (LE []) 0 (.fresh 0 0 (!oK w)))} (.ref s.z) "set":=#[_,B,bg];have wn:=PySem.F.called_set.init.lookup;have u9:=PySem.F.called_set.init.bind (.ref s.z)
  repeat (any_goals (first |assumption |wp_step))
  generalize s.heap.push (pI (LE []) 0 (.fresh 0 0 (!oK w)))=f at B I J T;show oM (vD (R:=wants (λr U=>r = .none/\∃h' tk,U = {s with heap:=h',toks:=tk}/\o7 prog w items key s.z items.size h'/\(∀b o,s.heap.get? b=ψ o->h'.get? b=ψ o)) E) PySem.F.called_set.init.plain PySem.F.entry_set_init (check_set_init_1 T ?_)) λr₂ U d=>?_
  ·let⟨ol,m,V,nl,n⟩:=hl;let⟨W,K,L,C⟩:=ol;simp only at V n;subst V;subst n;have yx:=J _ _ m;have X:=PySem.F.sub_list_set;have Y:=PySem.F.sub_list_frozenset;have oi:(jR "list" == jR "dict")=χ:=μ;have u:f.IsList l items:=#[_,yx,bg,nl,bg];have lt:l<s.z:=bG m;unfold Builtin.«set.__init__» noKeywords Builtin.Frozenset.updateFrom;generalize M:pyIter=PI;unfold pI at B
   wp_walk
   subst M;show tR u ?_;apply aD;apply YQ;rw[I];have Z:(f.push (IU l)).get? (s.z+1)=ψ (IU l):=(by rw[<-I];show bT _ rfl);have G:∀b o,f.get? b=ψ o->(f.push (IU l)).get? b=ψ o:=λb o e=>aR _ e;show codeAny _ _ _ _ {s with heap:=f.push (IU l)};generalize f.push (IU l)=h3 at Z G;have g:∀{b:Addr}{o:Obj},s.heap.get? b=ψ o->b≠s.z/\b≠s.z+1:=λe=>#[bP (bG e),bP (iX (bG e))];show Yi (A:=A.in1.in1) (s:={s with heap:=h3}) (key:=key) (h0:=s.heap) (by simp[hh]) (bP (iX lt)) (by show A.units+3<cLine;lia) s.z (bP (qO _)) (kN lt) (λi v e=>?_) hb items.size 0 (wT _) (dZ _) #[#[_,Z,bg,bg],u.at λo e=>G _ o e] ?_ (λb o _ _ e=>G b o (J b o e)) λh' tk D N=>?_
   ·let⟨a,rfl,hk⟩:=hi i v e;show#[a,bg,hk,?_];let⟨o,_,_,ho,_⟩:=hk;show g ho
   ·show#[(LE []),#[#[0,_,G _ _ B,Rv _,iH #[bg,dZ _],bg,bg,#[]],(λe he=>by simp at he),#[]],λy hy=>by simp at hy,λj hj=>Ω hj (oV _),dZ _]
   ·show wpAny _ _ _ _ _ _;apply aP;show wpAny _ _ (ret eU) _ _ _;show aP #[bg,h',tk,bg,D,λb o e=>N b o (g e).1 (g e).2 e]
  ·match r₂,d with
   | .error e,d=>show d
   | .ok (.ret r),d=>
    let⟨rfl,h',tk,rfl,D,N⟩:=d
    repeat (any_goals (first |assumption |wp_step))
    show q _ _ D N
end
theorem Nz{α:Type}(next:Nat->Nat):∀(fuel k:Nat)(left:θ α)(out:Array α),left.length<=fuel->(NV next fuel k left out).toList.Perm (out.toList++left)
 | 0,k,left,out,h=>by
  have:left=[]:=oE ν;subst this;simp[NV]
 |fuel+1,k,left,out,h=>by
  unfold NV;cases e:left[next k % left.length]? with
  |none=>
   fail;have:left=[]:=by
    cases left with
    |nil=>rfl
    |cons x r=>
     have:=List.getElem?_eq_none_iff.mp e;have:=mH (next k) (show 0<(x::r).length by simp);lia
   subst this;simp
  |some x=>
   fail;have b:next k % left.length<left.length:=(bF.mp e).1;show(Nz next fuel (k+1) (left.eraseIdx (next k % left.length)) (out.push x) (by rw[List.length_eraseIdx_of_lt b];lia)).trans ?_;rw[LV,fK];show mM _ ?_;have c:left[next k % left.length]=x:=(bF.mp e).2;have d:left=left.take (next k % left.length)++x::left.drop (next k % left.length+1):=by
    rw[<-c,<-gJ b,mO]
   rw[List.eraseIdx_eq_take_drop_succ]
   conv=>rhs;rw[d]
   rw[EG];show(OY (a:=x)).symm
def Qy{α:Type}(next:Nat->Nat)(xs:Array α):(pickOrder next xs).toList.Perm xs.toList:=by
 have:=Nz next xs.size 0 xs.toList (LE []) η;simpa [pickOrder] using this
def Wm:Manifest.owners.lookup (String.ofList ['r','o','t','a','r','e','t','i','_','t','e','s'].reverse)=ψ Manifest.sig_set_iterator:=by kernel_rfl
def tM:Slot "set_iterator" "__next__" "set_iterator.__next__" :=
 .of (owner:="set_iterator") (n:="__next__") (by rw[rW,mP];kernel_rfl) γ γ γ (by first |show .inl γ |show .inr γ) (by rw[xW];kernel_rfl)
def IM:entryFor table "set_iterator.__next__" = ψ Builtin.«set_iterator.__next__»:=AZ (by kernel_rfl)
def MS(a:aF):argsOk "set_iterator.__next__" ⟨[a],[]⟩:=by
 unfold argsOk;rw[signature?_of (id:="set_iterator.__next__") (n:=['_','_','t','x','e','n','_','_']) (o:=['r','o','t','a','r','e','t','i','_','t','e','s']) (by kernel_rfl) Wm];kernel_rfl
def Ci:entryFor table "set.__iter__" = ψ Builtin.«frozenset.__iter__»:=entryFor_alias (id':="frozenset.__iter__") (by kernel_rfl) rfl γ (by kernel_rfl)
section
variable{w:dD}{s:aK}
def lA(w:dD)(S:Addr)(ep:Nat)(es:Array (Int×aF)):Array (Int×aF):=if oK w=ζ then pickOrder (w.params.setOrder S ep) es else es
def QS(S:Addr)(ep:Nat)(es:Array (Int×aF)):(lA w S ep es).toList.Perm es.toList:=by
 unfold lA;split
 ·show Qy _ _
 ·show ET _
def slotAt(w:dD)(t:SetTable)(k:Nat):Nat:=if oK w=ζ then 0 else xA t k
def AC(w:dD)(S:Addr)(n ep:Nat)(t:SetTable)(k:Nat):Obj:={cls:=.type "set_iterator",data:=.fields (LE [rawInt (slotAt w t k),rawInt k,.ref S,rawInt n,rawInt ep])}
def Hv{S:Addr}{t:SetTable}(d:s.heap.get? S=ψ (pI es ep t))(T:lh t es.size)(g:t.led = !oK w)(h:t.plain=ζ)(i:k<=es.size)
  (q:Q ((lA w S ep es)[k]?.map λe=>(e.2,slotAt w t (k+1))) s):Γ prog w A (setNext S (slotAt w t k) k ep) Q E s:=by
 unfold setNext;apply aD;show jV d rfl T.fits ?_;unfold setsByText;apply aD;apply aD;show qW (aP ?_);show wpAny _ _ (if oK w=ζ then _ else _) _ _ _;by_cases a:oK w=ζ
 ·rw[υ a,ω η];apply aD;unfold setWalk;apply aD;show jV d rfl T.fits ?_;unfold setsByText;apply aD;apply aD;show qW (aP ?_);show wpAny _ _ (if oK w=ζ then _ else _) _ _ _;rw[υ a];apply aD;show qW (aP (aP ?_));unfold lA slotAt at q;erw[υ a] at q;unfold slotAt;erw[υ a];show q
 ·have c:oK w=χ:= ~~~a
  rw[ω a];show wpAny _ _ (if(!t.plain && decide (es.size > 1))=ζ then _ else _) _ _ _;rw[h];erw[dX,xJ,aO,if_false];show wpAny _ _ ((if(!t.led && !es.isEmpty)=ζ then unsupported "set:maker-not-led" else pure ()) >>= _) _ _ _;rw[g,c];erw[lZ,dX,xJ,aO,if_false];apply aD;apply aP;apply aP;have j:=Kg T i;unfold lA slotAt at q;erw[ω a] at q;unfold slotAt;erw[ω a];rw[j];by_cases f:k<es.size
  ·have b:es[k]?=ψ es[k]:=cJ f;have l:t.place[k]?=ψ (t.place.getD k 0):=by
    have:k<t.place.size:=(by rw[T.size];show f);rw[cJ this];simp[lX,this]
   rw[b] at q;rw[b,l];have m:xA t (k+1)=t.place.getD k 0+1:=(by unfold xA;rw[ω ν];simp);rw[m] at q;show q
  ·have b:es[k]?=ξ:=sO ν;rw[b] at q;rw[b];show q
def GY{c:aF}(a:s.heap.get? I=ψ {cls:=c,dict:=d,data:=.fields vs,slots:=sl})(hi:i<vs.size)
  (q:∀h',h'.get? I=ψ {cls:=c,dict:=d,data:=.fields (vs.setIfInBounds i x),slots:=sl}->qL I s.heap h'->Q () {s with heap:=h'}):Γ prog w A (setField (.ref I) i x) Q E s:=by
 show HC a rfl hi (q _ ?_ (lC ..));have:=fM (IK λvs=>vs.setIfInBounds i x) a rfl;rw[this];rfl
structure t_(w:dD)(S I:Addr)(es:Array (Int×aF))(ep:Nat)(t:SetTable)(k:Nat)(h:Heap):Prop where
 set:h.get? S=ψ (pI es ep t)
 it:h.get? I=ψ (AC w S es.size ep t k)
def Qp{S I:Addr}{t:SetTable}(D:t_ w S I es ep t k s.heap)(ne:S≠I)(T:lh t es.size)(f:t.led = !oK w)(g:t.plain=ζ)(h:k<es.size)(i:(lA w S ep es)[k]?=ψ x)
  (q:∀h',t_ w S I es ep t (k+1) h'->qL I s.heap h'->Q (ψ x.2) {s with heap:=h'}):Γ prog w A (pyNext (.ref I)) Q E s:=by
 have c:s.TypeIs (.ref I) "set_iterator":=#[_,D.it,bg];unfold pyNext;apply aD;apply uZ;show kX (name:=iG "__next__") c tM (jJ tM c IM ?_ (MS _));unfold Builtin.«set_iterator.__next__»;apply aD;show jK (a:=(eO I,[])) rfl ?_;apply aD;show yH D.it rfl ?_;dsimp only[rawInt];apply aD;show wO D.set rfl T.fits ?_;rw[ω η];apply aD;show wpAny _ _ (setNext S ((slotAt w t k:Nat):Int).toNat ((k:Nat):Int).toNat ((ep:Nat):Int).toNat) _ _ _;erw[gF];show Hv D.set T f g (kM h) ?_;rw[i];dsimp only[Option.map];have b:=D.it;unfold AC at b;apply aD;show GY b η λj l d=>?_;apply aD;show GY (s:={s with heap:=j}) l η λm n e=>?_;show aP #[x.2,bg,aP (q m #[?_,?_] (d.trans e))]
 ·rw[e.2 S ne,d.2 S ne];show D.set
 ·rw[n];rfl
def Vx{S I:Addr}{t:SetTable}(d:A.handled=ξ)(D:t_ w S I es ep t es.size s.heap)(ne:S≠I)(T:lh t es.size)(f:t.led = !oK w)(g:t.plain=ζ)
  (q:∀h',Heap.ExtBut I s.heap h'->Q ξ {s with heap:=h'}):Γ prog w A (pyNext (.ref I)) Q E s:=by
 have e:s.TypeIs (.ref I) "set_iterator":=#[_,D.it,bg];have h:(lA w S ep es)[es.size]?=ξ:=by
  apply sO;rw[<-dA,(QS S ep es).length_eq,dA];show aY _
 unfold pyNext;apply aD;apply uZ;show kX (name:=iG "__next__") e tM (jJ tM e IM ?_ (MS _));unfold Builtin.«set_iterator.__next__»;apply aD;show jK (a:=(eO I,[])) rfl ?_;apply aD;show yH D.it rfl ?_;dsimp only[rawInt];apply aD;show wO D.set rfl T.fits ?_;rw[ω η];apply aD;show wpAny _ _ (setNext S ((slotAt w t es.size:Nat):Int).toNat ((es.size:Nat):Int).toNat ((ep:Nat):Int).toNat) _ _ _;erw[gF];show Hv D.set T f g (aY _) ?_;rw[h];dsimp only[Option.map];have c:=D.it;unfold AC at c;apply aD;show GY c η λj k i=>?_;show wpAny _ _ (newExc (.type "StopIteration") [] >>= _) _ _ _;apply aD;erw[newExc,newTuple];apply aD;show fD ?_ (by size_fits);show aD (m:=firstArgMember _ _) ?_;show jK (a:=eU) (by first |rfl | (erw[firstArgMember];rfl)) ?_;show fD ?_ (by size_fits);erw[raiseNew];apply aD;apply ZS
 first |rw[show A.in1.handled=ξ from d] |rw[d]
 show aD (aP (wpAny_throw ?_));apply aD;show uQ (T:="StopIteration") (b:=ζ) #[_,bT _ rfl,bg] WK ?_;show aP (q _ ((i.extBut.push _).push _))
def Ve{S:Addr}{t:SetTable}(b:s.heap.get? S=ψ (pI es ep t))(T:lh t es.size)(d:t.plain=ζ)
  (q:Q (.ref s.z) {s with heap:=s.heap.push (AC w S es.size ep t 0)}):Γ prog w A (pyIter (.ref S)) Q E s:=by
 have c:s.TypeIs (.ref S) "set":=#[_,b,bg];show OL c F.slot_set_iter (jJ F.slot_set_iter c Ci ?_ (F.args_set_iter_1 _));unfold Builtin.«frozenset.__iter__» Builtin.Frozenset.slot0 Builtin.Frozenset.sizeOf;apply aD;show jK (a:=S) rfl ?_;apply aD;apply aD;show wO b rfl T.fits (aP ?_);apply aD;unfold setDrawn;apply aD;show jV b rfl T.fits ?_;unfold setsByText;apply aD;apply aD;show qW (aP (aP ?_));have e:(!(model prog w).w.params.followText "set-order" && (!t.plain && decide (es.size > 1)))=χ:=by rw[d];simp
 show wpAny _ _ (if(!(model prog w).w.params.followText "set-order" && (!t.plain && decide (es.size > 1)))=ζ then _ else _) _ _ _;rw[e];erw[aO,if_false];apply aD;apply aP;apply aD;show wpAny_setEpoch_of b rfl T.fits ?_;apply aD;unfold newFields;show fD ?_;have f:slotAt w t 0=0:=by unfold slotAt xA;split <;> rfl
 show aP #[_,bg,"set_iterator",_,#[_,bT _ rfl,bg],tM.lookup,?_];unfold AC at q;rw[f] at q;show q
end
section
variable{s:aK}
def Yg{S:Addr}(a:s.TypeIs (.ref S) "set")(q:Q χ s):Γ prog w A (lG (.ref S)) Q E s:=by
 unfold lG;apply aD;show pA a F.slot_set_len.lookup ?_;fail;have e:splitId "set.__len__" = ψ ("set","__len__"):=γ
 rw[e];fail;apply aD;show uQ (b:=ζ) a sub_set_self ?_;erw[dX,aO,if_false];have d:∀(c:Bool)(X Y:Sem Bool),c=ζ->Γ prog w A X Q E s->Γ prog w A (if c=ζ then X else Y) Q E s:=λc X Y f h=>by rw[υ f];show h
 show d _ _ _ γ ?_;apply aD;show xB a ?_;show aP q
def Ht{S I:Addr}{t:SetTable}(D:t_ w S I es ep t k h)(a:∀b o,b=S\/b=I->h.get? b=ψ o->h'.get? b=ψ o):t_ w S I es ep t k h':=
 #[a _ _ (iH rfl) D.set,a _ _ (gI rfl) D.it]
def Ek{S:Addr}{t:SetTable}(hh:A.handled=ξ)(L:s.heap.get? S=ψ (pI es ep t))(T:lh t es.size)(hl:t.led = !oK w)(W:t.plain=ζ)(hz:es.size<=100)
  (q:∀h',(∀b o,s.heap.get? b=ψ o->h'.get? b=ψ o)->s.z<=h'.objs.size->Q ((lA w S ep es).toList.map (·.2)) {s with heap:=h'}):Γ prog w A (collect (.ref S)) Q E s:=by
 have m:S<s.z:=bG L;have wl:(lA w S ep es).size=es.size:=by rw[<-dA,(QS S ep es).length_eq,dA]
 unfold collect;apply aD;apply YQ;show fQ F.entry_proto_collect ?_;rw[eK F.plain_proto_collect _];show wpAny _ A.in1 (newList [] >>= λl=>again (.builtin "list.__iadd__" #[[l,.ref S],[]])) _ _ s;apply aD;show fD ?_;show aP #[gU F.plain_list_iadd _,fQ F.entry_list_iadd ?_];rw[eK F.plain_list_iadd _];show wpAny _ A.in1 (jL (.ref s.z) (.ref S) (.ref s.z)) _ _ {s with heap:=s.heap.push {cls:=.type "list",data:=.seq ([]:θ aF).toArray}};have Z:(s.heap.push {cls:=.type "list",data:=.seq ([]:θ aF).toArray}).objs.size=s.z+1:=mC ..;have hL:(s.heap.push {cls:=.type "list",data:=.seq ([]:θ aF).toArray}).get? s.z=ψ {cls:=.type "list",data:=.seq ([]:θ aF).toArray}:=bT _ rfl;have u:∀b o,s.heap.get? b=ψ o->(s.heap.push {cls:=.type "list",data:=.seq ([]:θ aF).toArray}).get? b=ψ o:=λb o e=>aR _ e;generalize s.heap.push {cls:=.type "list",data:=.seq ([]:θ aF).toArray} = h1 at Z hL u;have ty:∀{h:Heap}{g d t os},(∀b o,s.heap.get? b=ψ o->h.get? b=ψ o)->zV ⟨h,g,d,t,os⟩ (.ref S) "set":=λM=>#[_,M _ _ L,bg];unfold jL;apply aD;show xB (T:="set") (ty u) ?_;have g1:nH (.ref s.z) (.ref S)=χ:=by simp[nH,kN m]
 have g2:(jR "set" == jR "list")=χ:=μ
 have g3:(jR "set" == jR "tuple")=χ:=μ
 erw[g1,g2,g3,II,aO,if_false];apply aD;show Ve (s:={s with heap:=h1}) (u _ _ L) T W ?_;show wpAny _ _ _ _ _ {s with heap:=h1.push (AC w S es.size ep t 0)};have hI:(h1.push (AC w S es.size ep t 0)).get? (s.z+1)=ψ (AC w S es.size ep t 0):=by rw[<-Z];show bT _ rfl
 have B:∀b o,h1.get? b=ψ o->(h1.push (AC w S es.size ep t 0)).get? b=ψ o:=λb o e=>aR _ e;rw[show Shared.z {s with heap:=h1}=_ from Z];generalize h1.push (AC w S es.size ep t 0)=h2 at hI B;apply aD;apply fS;show Yg (ty λb o e=>B b o (u b o e)) ?_;have key:∀(c:Bool)(X Y:Sem Fin){N:Fin->aK->Prop}{O:aF->aK->Prop}{P:aK},c=ζ->Γ prog w A.in1 X N O P->Γ prog w A.in1 (if c=ζ then X else Y) N O P:=λc X Y _ _ _ hc h=>by rw[υ hc];show h
 show key _ _ _ γ ?_;have C:=B _ _ hL;apply aD;apply YO;apply aD;show wpAny _ _ (updateSeq s.z (·.push .none) >>= λ_=>updateSeq s.z (·.pop)) _ _ _;apply aD;show lB C rfl ?_;have D:=fM (fE (·.push eU)) C rfl;show lB (hz:=by seq_fits) D rfl ?_;have G:=fM (fE (·.pop)) D rfl;have f:∀b o,b≠s.z->h2.get? b=ψ o->((h2.update s.z (fE (·.push eU))).update s.z (fE (·.pop))).get? b=ψ o:=
  λb o R e=>(dU _ _ (Ne.symm R)).trans ((dU _ _ (Ne.symm R)).trans e)
 generalize (h2.update s.z (fE (·.push eU))).update s.z (fE (·.pop))=h4 at G f;apply aP;show#[gU kC _,?_];have j:S≠s.z+1:=bP (iX m);have H:S≠s.z:=bP m;have U:s.z+1≠s.z:=qP _;have i:∀{b:Addr}{o:Obj},s.heap.get? b=ψ o->b≠s.z/\b≠s.z+1:=λe=>#[bP (bG e),bP (iX (bG e))];show Fs (A:=A) (s0:=s) (n:=es.size) (J:=λa h=>t_ w S (s.z+1) es ep t a.length h/\a=((lA w S ep es).toList.map (·.2)).take a.length/\∀b o,s.heap.get? b=ψ o->h.get? b=ψ o)
  (F:=λa h=>a=(lA w S ep es).toList.map (·.2)/\∀b o,s.heap.get? b=ψ o->h.get? b=ψ o) (.ref s.z) (by rw[gX];lia) ?_ ?_ ?_ (λh' a c hsz hF ua=>?_) es.size (LE []) h4 _ rfl (dZ _) ?_ G
 ·rintro a h h' ⟨v,y,I⟩ V hz M;show#[Ht v λb o R e=>M b o ?_ e,y,λb o e=>M b o (i e).1 (I b o e)];rcases R with rfl |rfl
  ·show H
  ·show U
 ·rintro a P o N O k8 ⟨v,y,I⟩ V k;have hw:a.length<(lA w S ep es).size:=ν
  show Qp v j T hl W k8 (cJ hw) λh' D' sb=>k _ h' #[~~~D',?_,λb o e=>?_] ?_
  ·rw[bI,kE,gD,<-y];simp[hw]
  ·rw[sb.2 b (i e).2];show I b o e
  ·rw[sb.2 _ (Ne.symm U)];show V
 ·rintro a P o N O K ⟨v,y,I⟩ V k;rw[K] at v y;show Vx (A:=A.in1) (by simp[hh]) v j T hl W λh' eb=>k h' #[?_,λb o e=>eb b o (i e).2 (I b o e)] (eb _ _ (Ne.symm U) V);rw[y,iS];simp[wl]
 ·show wpAny _ A (load s.z >>= _) _ _ _;apply aD;show wpAny_load ua ?_;show aP ?_;rw[hF.1];show q h' hF.2 (kM (bG ua))
 ·show#[#[f _ _ H (B _ _ (u _ _ L)),f _ _ U hI],bg,λb o e=>f b o (i e).1 (B b o (u b o e))]
end
end
section
open PySem PySem.W PyProof.Rows
def jI{α:Type}(lt:Nat->Nat->Bool):KasT α->α
 | .ret a=>a
 | .ask i j k=>jI lt (k (lt i j))
theorem xE{α β:Type}{lt:Nat->Nat->Bool}{f:α->KasT β}:∀t:KasT α,jI lt (t.bind f)=jI lt (f (jI lt t))
 | .ret _=>rfl
 | .ask i j k=>xE (k (lt i j))
def kIn{α:Type}(lt:Nat->Nat->Bool)(n:Nat):KasT α->Prop
 | .ret _=>True
 | .ask i j k=>i<n/\j<n/\kIn lt n (k (lt i j))
theorem qG{α β:Type}{lt:Nat->Nat->Bool}{f:α->KasT β}:∀t:KasT α,kIn lt n t->kIn lt n (f (jI lt t))->kIn lt n (t.bind f)
 | .ret _,_,h=>h
 | .ask i j k,⟨a,b,c⟩,h=>#[a,b,qG (k (lt i j)) c h]
theorem WM{α:Type}{lt:Nat->Nat->Bool}{s:aK}{Q:α->aK->Prop}(a:∀i j (C:Bool->aK->Prop),i<n->j<n->C (lt i j) s->cmp i j C s):
  ∀t:KasT α,kIn lt n t->Q (jI lt t) s->t.kasWp cmp Q s
 | .ret _,_,h=>h
 | .ask i j k,⟨b,c,d⟩,h=>a i j _ b c (WM a (k (lt i j)) d h)
section
variable{O:KeyOrd}{key:Nat->O.α}{N:Nat}
def j6(O:KeyOrd)(key:Nat->O.α)(i j:Nat):Bool:=O.blt (key i) (key j)
def kk(O:KeyOrd)(key:Nat->O.α)(p:Array Nat)(i:Nat):O.α:=key (p.getD i 0)
def Up(O:KeyOrd)(key:Nat->O.α)(p:Array Nat)(n:Nat):Prop:=∀i j,i<=j->j<n->O.kle (kk O key p i) (kk O key p j)
def Dn(O:KeyOrd)(key:Nat->O.α)(p:Array Nat)(n:Nat):Prop:=∀i j,i<=j->j<n->O.kle (kk O key p j) (kk O key p i)
def Lo(p:Array Nat)(N:Nat):Prop:=∀i,p.getD i 0<N
def CO(h:p.Perm q)(b:Lo q N):Lo p N:=by
 intro i;by_cases a:i<p.size
 ·have m:p[i]∈p:=Array.getElem_mem a;have d:p[i]∈q:=h.mem_iff.mp m;let⟨j,f,e⟩:=Array.getElem_of_mem d;have:=b j;simp[lX,f] at this;simp[lX,a];rw[<-e];show this
 ·have c:=b q.size;simp[lX] at c;simp[lX,a];show c
def FL(h:p[i]?=q[j]?):kk O key p i=kk O key q j:=by
 unfold kk;rw[iC,iC,h]
def Jy(b:j<=p.size)(k:Nat):kk O key (HL p i j) k=if i<=k/\k<j then kk O key p (i+j-1-k) else kk O key p k:=by
 have e:=getElem?_mirror_all (i:=i) b k;unfold HL;by_cases a:i<=k/\k<j
 ·rw[υ a] at e⊢;show FL e
 ·rw[ω a] at e⊢;show FL e
def PN(a:j<=p.size)(h:∀k,i<=k->k<j->kk O key p k=kk O key p (j-1))(k:Nat):kk O key (HL p i j) k=kk O key p k:=by
 rw[Jy a];split
 ·rw[h _ ν ν,h k ν ν]
 ·rfl
def Qi(c:src<p.size)(f:d<=src)(k:Nat):
  kk O key (bubble p src d) k=if k=src-d then kk O key p src else if src-d<k/\k<=src then kk O key p (k-1) else kk O key p k:=by
 have e:=getElem?_bubble c d f k;by_cases a:k=src-d
 ·rw[υ a] at e⊢;show FL e
 ·rw[ω a] at e⊢;by_cases b:src-d<k/\k<=src
  ·rw[υ b] at e⊢;show FL e
  ·rw[ω b] at e⊢;show FL e
def GX(p:Array Nat)(i j:Nat):(HL p i j).Perm p:=mirror_perm _ _ _ _
def H8(f:1<=n)(h:Up O key p n)(b:O.kle (kk O key p (n-1)) (kk O key p n)):Up O key p (n+1):=by
 intro i j c g;by_cases a:j<n
 ·show h i j c a
 ·have d:j=n:=ν
  subst d;by_cases e:i=j
  ·subst e;show kY _
  ·show uH (h i (j-1) ν ν) b
def Cf(f:1<=n)(h:Dn O key p n)(b:O.kle (kk O key p n) (kk O key p (n-1))):Dn O key p (n+1):=by
 intro i j c g;by_cases a:j<n
 ·show h i j c a
 ·have d:j=n:=ν
  subst d;by_cases e:i=j
  ·subst e;show kY _
  ·show uH b (h i (j-1) ν ν)
theorem Jf(lo:Lo p N):∀(f n:Nat),1<=n->Up O key p n->kIn (j6 O key) N (yT p f n)/\n<=jI (j6 O key) (yT p f n)/\jI (j6 O key) (yT p f n)<=n+f/\Up O key p (jI (j6 O key) (yT p f n)) /\
  (jI (j6 O key) (yT p f n)=n+f\/O.klt (kk O key p (jI (j6 O key) (yT p f n))) (kk O key p (jI (j6 O key) (yT p f n)-1)))
 | 0,n,_,h=>#[trivial,aY _,aY _,h,iH rfl]
 |f+1,n,a,h=>by
  erw[yT,jI,kIn];cases hb:j6 O key (p.getD n 0) (p.getD (n-1) 0) with
  |true=>
   erw[if_true];show#[#[lo _,lo _,trivial],aY _,by erw[jI];lia,h,gI hb]
  |false=>
   erw[aO,if_false];let⟨b,g,i,c,d⟩:=Jf lo f (n+1) ν (H8 a h hb);show#[#[lo _,lo _,b],ν,ν,c,?_];rcases d with e |e
   ·show iH ν
   ·show gI e
def Hy(lo:Lo p N)(a:1<=n)(e:n<=nrem)(hz:nrem<=p.size)(h:Dn O key p n):
  kIn (j6 O key) N (xF n nrem p)/\1<=(jI (j6 O key) (xF n nrem p)).1/\(jI (j6 O key) (xF n nrem p)).1<=nrem/\(jI (j6 O key) (xF n nrem p)).2.Perm p/\Up O key (jI (j6 O key) (xF n nrem p)).2 (jI (j6 O key) (xF n nrem p)).1:=by
 unfold xF;have b:Up O key (HL p 0 n) n:=by
  intro i j f g;rw[Jy ν,Jy ν,υ ν,υ ν];show h _ _ ν ν
 let⟨c,k,l,d,_⟩:=Jf (CO (GX p 0 n) lo) (nrem-n) n a b;rw[xE];show#[qG _ c trivial,?_,?_,GX p 0 n,d]
 ·show 1<=_;erw[jI];lia
 ·erw[jI];lia
theorem UJ:∀(f:Nat)(p:Array Nat)(n q:Nat),Lo p N->1<=n->n+f<=p.size->Dn O key p n->q+1<=n->(∀i,n-(q+1)<=i->i<n->kk O key p i=kk O key p (n-1)) ->
  kIn (j6 O key) N (mL f p n q)/\(jI (j6 O key) (mL f p n q)).1.Perm p/\n<=(jI (j6 O key) (mL f p n q)).2.1/\(jI (j6 O key) (mL f p n q)).2.1<=n+f /\
  Dn O key (jI (j6 O key) (mL f p n q)).1 (jI (j6 O key) (mL f p n q)).2.1/\(jI (j6 O key) (mL f p n q)).2.2+1<=(jI (j6 O key) (mL f p n q)).2.1 /\
  (∀i,(jI (j6 O key) (mL f p n q)).2.1-((jI (j6 O key) (mL f p n q)).2.2+1)<=i->i<(jI (j6 O key) (mL f p n q)).2.1->kk O key (jI (j6 O key) (mL f p n q)).1 i=kk O key (jI (j6 O key) (mL f p n q)).1 ((jI (j6 O key) (mL f p n q)).2.1-1))
 | 0,p,n,q,lo,o,A,h,s,c=>#[trivial,rN _,aY _,aY _,h,s,c]
 |f+1,p,n,q,lo,o,A,h,s,c=>by
  erw[mL,jI,kIn];cases hb:j6 O key (p.getD n 0) (p.getD (n-1) 0) with
  |true=>
   erw[if_true];by_cases v:q > 0
   ·erw[υ v];have w:=PN (O:=O) (key:=key) (p:=p) (i:=n-(q+1)) (j:=n) ν c;have u:=GX p (n-(q+1)) n;have B:Dn O key (HL p (n-(q+1)) n) (n+1):=by
     have C:=Cf o h (pM hb);intro i j D E;rw[w,w];show C i j D E
    let⟨d,g,y,z,k,l,m⟩:=UJ f (HL p (n-(q+1)) n) (n+1) 0 (CO u lo) ν (by rw[u.size_eq];lia) B ν (λi a b=>by congr 1;lia);show#[#[lo _,lo _,d],g.trans u,ν,ν,k,l,m]
   ·erw[ω v];let⟨d,g,y,z,k,l,m⟩:=UJ f p (n+1) 0 lo ν ν (Cf o h (pM hb)) ν (λi a b=>by congr 1;lia);show#[#[lo _,lo _,d],g,ν,ν,k,l,m]
  |false=>
   erw[aO,if_false,jI,kIn];cases hc:j6 O key (p.getD (n-1) 0) (p.getD n 0) with
   |true=>
    erw[if_true];show#[#[lo _,lo _,lo _,lo _,trivial],rN _,aY _,by erw[jI];lia,h,s,c]
   |false=>
    erw[aO,if_false];have e:kk O key p n=kk O key p (n-1):=HY hc hb;let⟨d,g,y,z,k,l,m⟩:=UJ f p (n+1) (q+1) lo ν ν (Cf o h (by rw[e];show kY _)) ν (λi a b=>by
     rw[show n+1-1=n by lia];by_cases F:i=n
     ·subst F;rfl
     ·rw[e];show c i ν ν)
    show#[#[lo _,lo _,lo _,lo _,d],g,ν,ν,k,l,m]
def RI(lo:Lo p N)(s:n+1<=nrem)(hz:nrem<=p.size)(h:Dn O key p (n+1)):
  kIn (j6 O key) N (qS n nrem p)/\1<=(jI (j6 O key) (qS n nrem p)).1/\(jI (j6 O key) (qS n nrem p)).1<=nrem/\(jI (j6 O key) (qS n nrem p)).2.Perm p/\Up O key (jI (j6 O key) (qS n nrem p)).2 (jI (j6 O key) (qS n nrem p)).1:=by
 unfold qS;let⟨f,c,u,v,g,w,m⟩:=UJ (N:=N) (nrem-(n+1)) p (n+1) 0 lo ν ν h ν (λi a b=>by congr 1;lia);rw[xE];generalize k:jI (j6 O key) (mL (nrem-(n+1)) p (n+1) 0)=r at *;by_cases d:r.2.2 > 0
 ·have sz:r.1.size=p.size:=c.size_eq;have l:=PN (O:=O) (key:=key) (p:=r.1) (i:=r.2.1-(r.2.2+1)) (j:=r.2.1) ν m;have e:=(GX r.1 (r.2.1-(r.2.2+1)) r.2.1).trans c;have t:=Hy (O:=O) (key:=key) (N:=N) (CO e lo) (n:=r.2.1) (nrem:=nrem) ν ν (by rw[e.size_eq];lia) (λi j o q=>by rw[l,l];show g i j o q);rw[υ d];show#[qG _ f ?_,t.2.1,t.2.2.1,t.2.2.2.1.trans e,t.2.2.2.2];rw[k,υ d];show t.1
 ·have t:=Hy (O:=O) (key:=key) (N:=N) (CO c lo) (n:=r.2.1) (nrem:=nrem) ν ν (by rw[c.size_eq];lia) g;rw[ω d];show#[qG _ f ?_,t.2.1,t.2.2.1,t.2.2.2.1.trans c,t.2.2.2.2];rw[k,ω d];show t.1
def Tk(lo:Lo p N)(C:1<=nrem)(hz:nrem<=p.size):
  kIn (j6 O key) N (uN nrem p)/\1<=(jI (j6 O key) (uN nrem p)).1/\(jI (j6 O key) (uN nrem p)).1<=nrem/\(jI (j6 O key) (uN nrem p)).2.Perm p/\Up O key (jI (j6 O key) (uN nrem p)).2 (jI (j6 O key) (uN nrem p)).1:=by
 unfold uN;let⟨c,u,D,d,v⟩:=Jf (O:=O) (key:=key) lo (nrem-1) 1 (aY _) (λi j o q=>by have:i=j:=ν;subst this;show kY _);rw[xE];generalize e:jI (j6 O key) (yT p (nrem-1) 1)=n at *;by_cases a:n=nrem
 ·rw[υ (~~~a)];show#[qG _ c (by rw[e,υ (~~~a)];trivial),u,by show n<=nrem;lia,rN _,d]
 ·rw[ω (~~~a)];have s:O.klt (kk O key p n) (kk O key p (n-1)):=v.resolve_left ν;by_cases b:n > 1
  ·rw[υ b];erw[jI];cases hb:j6 O key (p.getD 0 0) (p.getD (n-1) 0) with
   |true=>
    erw[if_true];show#[qG _ c (by rw[e,ω (~~~a),υ b];show#[lo _,lo _,by rw[hb];trivial]),by show 1<=n;lia,by show n<=nrem;lia,rN _,d]
   |false=>
    erw[aO,if_false];have f:∀k,0<=k->k<n->kk O key p k=kk O key p (n-1):=by
     intro k _ g;have w:=d 0 k ν g;have y:=d k (n-1) ν ν;show HY y (uH hb w)
    have g:=PN (O:=O) (key:=key) (p:=p) (i:=0) (j:=n) ν f;have h:=GX p 0 n;have t:=RI (O:=O) (key:=key) (N:=N) (CO h lo) (n:=n) (nrem:=nrem) ν (by rw[h.size_eq];lia) (λi j o q=>by
     rw[g,g];by_cases l:j<n
     ·rw[f i ν ν,f j ν l];show kY _
     ·have z:j=n:=ν;subst z;by_cases m:i=j
      ·subst m;show kY _
      ·rw[f i ν ν];show pM s)
    show#[qG _ c (by rw[e,ω (~~~a),υ b];show#[lo _,lo _,by rw[hb];show t.1]),t.2.1,t.2.2.1,t.2.2.2.1.trans h,t.2.2.2.2]
  ·rw[ω b];have E:n=1:=ν;have t:=RI (O:=O) (key:=key) (N:=N) lo (n:=n) (nrem:=nrem) ν hz (λi j o q=>by
    by_cases m:i=j
    ·subst m;show kY _
    ·have A:i=n-1:=ν;have B:j=n:=ν;rw[A,B];show pM s)
   show#[qG _ c (by rw[e,ω (~~~a),ω b];show t.1),t.2]
theorem XM(lo:Lo p N)(e:Up O key p k):∀(f l r:Nat),l<=r->r<=k->r-l<=f->(∀i,i<l->O.kle (kk O key p i) (kk O key p k))->(∀i,r<=i->i<k->O.klt (kk O key p k) (kk O key p i)) ->
  kIn (j6 O key) N (BA p k f l r)/\jI (j6 O key) (BA p k f l r)<=k/\(∀i,i<jI (j6 O key) (BA p k f l r)->O.kle (kk O key p i) (kk O key p k))/\(∀i,jI (j6 O key) (BA p k f l r)<=i->i<k->O.klt (kk O key p k) (kk O key p i))
 | 0,l,r,g,c,j,a,b=>by
  have:l=r:=ν
  subst this;show#[trivial,c,a,b]
 |f+1,l,r,g,c,j,a,b=>by
  erw[BA];by_cases d:l ≥ r
  ·have:l=r:=ν;subst this;rw[υ d];show#[trivial,c,a,b]
  ·rw[ω d];erw[jI,kIn];cases hb:j6 O key (p.getD k 0) (p.getD ((l+r) / 2) 0) with
   |true=>
    erw[if_true];have t:=XM lo e f l ((l+r) / 2) ν ν ν a (λi h m=>KeyOrd.klt_of_klt_of_kle hb (e _ _ h m));show#[#[lo _,lo _,t.1],t.2]
   |false=>
    erw[aO,if_false];have t:=XM lo e f ((l+r) / 2+1) r ν c ν (λi h=>uH (e i ((l+r) / 2) ν ν) hb) b;show#[#[lo _,lo _,t.1],t.2]
theorem Sr:∀(f:Nat)(p:Array Nat)(k:Nat),Lo p N->k+f<=p.size->Up O key p k->kIn (j6 O key) N (Cr f p k)/\(jI (j6 O key) (Cr f p k)).Perm p/\Up O key (jI (j6 O key) (Cr f p k)) (k+f)
 | 0,p,k,lo,n,h=>#[trivial,rN _,h]
 |f+1,p,k,lo,n,h=>by
  erw[Cr];let⟨o,C,q,s⟩:=XM lo h k 0 k ν ν ν (λi u=>Ω u ν) (λi D v=>Ω v ν);rw[xE];generalize w:jI (j6 O key) (BA p k k 0 k)=l at *;have b:=bubble_perm p k (k-l);have c:=λi=>Qi (O:=O) (key:=key) (p:=p) (src:=k) (d:=k-l) ν ν i;have y:Up O key (bubble p k (k-l)) (k+1):=by
   intro i j E F;rw[c,c,show k-(k-l)=l by lia];by_cases e:i=l
   ·rw[υ e];by_cases a:j=l
    ·rw[υ a];show kY _
    ·rw[ω a,υ ν];show pM (s _ ν ν)
   ·rw[ω e];by_cases a:j=l
    ·rw[υ a,ω ν];show q _ ν
    ·rw[ω a];by_cases g:l<i/\i<=k
     ·rw[υ g,υ ν];show h _ _ ν ν
     ·rw[ω g];by_cases m:l<j/\j<=k
      ·rw[υ m];show h _ _ ν ν
      ·rw[ω m];show h _ _ ν ν
  let⟨z,A,B⟩:=Sr f (bubble p k (k-l)) (k+1) (CO b lo) (by rw[b.size_eq];lia) y;show#[qG _ o (by rw[w];show z),A.trans b,?_];rw[show k+(f+1)=k+1+f by lia];show B
def G2(f:1<=n):kIn (j6 O key) n (FK n)/\(jI (j6 O key) (FK n)).Perm (jP (cF n))/\Up O key (jI (j6 O key) (FK n)) n:=by
 have lo:Lo (jP (cF n)) n:=by
  intro i;by_cases b:i<n
  ·simp[lX,b]
  ·simp[lX,b];lia
 unfold FK;let⟨c,g,j,a,d⟩:=Tk (O:=O) (key:=key) lo (nrem:=n) f η;rw[xE];generalize e:jI (j6 O key) (uN n (jP (cF n)))=r at *;have sz:r.2.size=n:=by rw[a.size_eq];simp
 by_cases h:r.1<n
 ·have t:=Sr (O:=O) (key:=key) (N:=n) (n-max r.1 1) r.2 (max r.1 1) (CO a lo) ν (by rw[show max r.1 1=r.1 by lia];show d);rw[υ h];show#[qG _ c (by rw[e,υ h];show t.1),t.2.1.trans a,?_];have:=t.2.2
  rwa [show max r.1 1+(n-max r.1 1)=n by lia] at this
 ·rw[ω h];show#[qG _ c (by rw[e,ω h];trivial),a,?_];rw[show n=r.1 by lia];show d
end
end
section
open PySem PySem.W PySem.SetTable PyProof.Rows
def oO:θ Int->θ Int->Bool
 | [],[]=>χ
 | [],_::_=>ζ
 |_::_,[]=>χ
 |a::c,b::bs=>if a=b then oO c bs else decide (a<b)
theorem Gd:∀a,oO a a=χ
 | []=>rfl
 |a::b=>by erw[oO,if_true];show Gd b
theorem KW:∀a b c,oO a b=ζ->oO b c=ζ->oO a c=ζ
 | [],[],c,h,_=>by simp[oO] at h
 | [],_::_,[],_,h=>by simp[oO] at h
 | [],_::_,_::_,_,_=>rfl
 |_::_,[],_,h,_=>by simp[oO] at h
 |_::_,_::_,[],_,h=>by simp[oO] at h
 |a::f,b::bs,c::g,h,k=>by
  erw[oO] at h k⊢;by_cases e:a=b
  ·subst e;rw[υ rfl] at h;by_cases d:a=c
   ·subst d;rw[υ rfl] at k⊢;show KW f bs g h k
   ·rw[ω d] at k⊢;show k
  ·rw[ω e] at h;by_cases d:b=c
   ·subst d;rw[ω e];show h
   ·rw[ω d] at k;erw[decide_eq_true_eq] at h k;rw[ω ν];erw[decide_eq_true_eq];lia
theorem KU:∀a b,oO a b=χ->oO b a=χ->a=b
 | [],[],_,_=>rfl
 | [],_::_,h,_=>by simp[oO] at h
 |_::_,[],_,h=>by simp[oO] at h
 |a::c,b::bs,h,k=>by
  erw[oO] at h k;by_cases e:a=b
  ·subst e;rw[υ rfl] at h k;rw[KU c bs h k]
  ·rw[ω e] at h;rw[ω (Ne.symm e)] at k;erw[decide_eq_false_iff_not] at h k;lia
def Vl(a b c:θ Int)(h:oO a c=ζ):oO a b=ζ\/oO b c=ζ:=by
 cases h1:oO a b with
 |true=>show iH rfl
 |false=>
  right;cases h2:oO b a with
  |true=>show KW b a c h2 h
  |false=>rw[<-KU a b h1 h2];show h
def B7:KeyOrd:=#[θ Int,oO,Gd,KW,Vl,KU]
section
variable{prog:cB}{w:dD}{A:dG}{E:aF->aK->Prop}{s:aK}
def int_inv(h:(intKind prog w).is k v=ζ):∃t,v = .int k t:=by
 cases v <;> simp[intKind,FE] at h;show#[_,by rw[h]]
def B8:∀(ns ms:θ Int)(vs us:θ aF)(i:Nat),ItemsAre (intKind prog w) ns vs->ItemsAre (intKind prog w) ms us->fin=decide (vs.length<us.length)->Q (oO ns ms) s->KatLex prog w A ζ fin Q (vs.zip us) i s:=by
 intro ns
 induction ns with
 |nil=>
  intro ms vs us i b c a q;cases b;cases c with
  |nil=>simp at a;subst a;show kat_nil q
  |cons _ _=>simp at a;subst a;show kat_nil q
 |cons n ns f=>
  intro ms vs us i b c a q;cases b with
  |cons b g=>
   cases c with
   |nil=>simp at a;subst a;show kat_nil q
   | @cons m u ms us c h=>
    rw[oH];show kat_cons ((intKind prog w).eqBool b c ?_);by_cases e:n=m
    ·subst e;rw[decide_eq_true rfl];show kat_yes (f ms _ us (i+1) g h (~~~a) (by simpa [oO] using q))
    ·rw[decide_eq_false e];let⟨j,rfl⟩:=int_inv b;let⟨k,rfl⟩:=int_inv c;have d:Q (decide (n<m)) s:=(by simpa [oO,e] using q);show kat_no ?_;cases hi:(i == 0) with
     |true=>show oneLt_int d
     |false=>show kat_one _ _ (PySem.wpAny_lt_int (by show d))
def oj(prog:cB)(w:dD)(h:Heap)(vs:θ aF)(nss:θ (θ Int)):Prop:=vs.length=nss.length/\∀i v,vs[i]?=ψ v->∃a,v = .ref a/\IsTupleKey (intKind prog w) h (nss.getD i []) a
theorem WN:∀(vs:θ aF)(nss:θ (θ Int)),oj prog w h vs nss->(∀ns∈nss,ns≠[])->∃fs:θ aF,KatTups h vs fs/\fs.length=vs.length/\∀f∈fs,∃k t,f = .int k t
 | [],nss,_,_=>#[[],trivial,bg,λf c=>by cases c]
 |v::vs,nss,H,g=>by
  match nss,H with
  | [],H=>show Ω H.1 η
  |ns::nss,H=>
   let⟨a,rfl,o,b,n,j,l,m,d⟩:=H.2 0 v rfl;let⟨fs,q,u,y⟩:=WN vs nss #[by have:=H.1;simpa using this,λi v e=>H.2 (i+1) v e] λz B=>g z (cR _ B);erw[List.getD_cons_zero] at d
   match ns,d,g ns (dL ..) with
   | [],_,h=>show Ω rfl h
   |k::F,d,_=>
    generalize e:b.toList=C at d;cases d with
    |cons D G=>
     let⟨t,rfl⟩:=int_inv D;show#[.int k t::fs,#[#[a,o,b,n,bg,j,l,m,?_],q],by simp[u],λf c=>?_]
     ·rw[<-tW,e];rfl
     ·rcases aV.mp c with rfl |c
      ·show#[k,t,bg]
      ·show y f c
def oj.other(K:oj prog w h vs nss)(g:h.get? a=ψ (seqObj "list" xs n))(j:∀b o,b≠a->h.get? b=ψ o->h'.get? b=ψ o):oj prog w h' vs nss:=by
 show#[K.1,λi v e=>?_];let⟨b,rfl,o,c,m,d,f,k,l⟩:=K.2 i v e;show#[b,bg,o,c,m,j b o ?_ d,f,k,l];rintro rfl;rw[g] at d;cases d;show Ω f (by simp[seqObj])
def range_getD{α:Type}(d:α)(xs:θ α):(cF xs.length).map (λi=>xs.getD i d)=xs:=by
 apply AL η;intro i b a;simp[a]
def Yl{a:Addr}{vs:θ aF}{nss:θ (θ Int)}{n:Nat}{P:PySem.Fin->aK->Prop}(N:s.heap.get? a=ψ (seqObj "list" vs.toArray n))(R:vs.length=nss.length)(wf:vs.length<64)
  (tups:∀h',(∀b o,b≠a->s.heap.get? b=ψ o->h'.get? b=ψ o)->∃fs:θ aF,KatTups h' vs fs/\fs.length=vs.length/\∀f∈fs,∃k t,f = .int k t)
  (ask:∀h',(∀b o,b≠a->s.heap.get? b=ψ o->h'.get? b=ψ o)->∀(i j:Nat)(C:Bool->aK->Prop),i<vs.length->j<vs.length->C (oO (nss.getD i []) (nss.getD j [])) {s with heap:=h'} ->
   ∃x ox xs nx y oy ys ny,(vs.getD i eU = .ref x/\h'.get? x=ψ ox/\ox.data = .seq xs nx)/\(vs.getD j eU = .ref y/\h'.get? y=ψ oy/\oy.data = .seq ys ny)/\KatLex prog w A ζ (decide (xs.size<ys.size)) C (xs.toList.zip ys.toList) 0 {s with heap:=h'})
  (q:∀h' (p:θ Nat) c,p.Perm (cF vs.length)->h'.get? a=ψ (seqObj "list" (jP (p.map λi=>vs.getD i eU)) c)->(p.map λi=>nss.getD i []).Pairwise (λx y=>oO y x=χ)->(∀b o,b≠a->s.heap.get? b=ψ o->h'.get? b=ψ o)->P (.done (.ret .none)) {s with heap:=h'}):
  Γ prog w A (Builtin.«list.sort» #[[.ref a],[]]) P E s:=by
 have lt:a<s.z:=bG N;rw[list_sort_plain];apply aD;show listItems_at N rfl ?_;apply aD;show ZE N rfl ?_ (by rw[aZ,gX];lia) (dZ _);obtain⟨D,u⟩:∃D,(s.heap.update a (fE λ_=>((LE []):Array aF))).get? a=ψ (seqObj "list" (LE []) D):=#[_,TQ N λ_=>(LE [])];have up1:∀b o,b≠a->s.heap.get? b=ψ o->(s.heap.update a (fE λ_=>((LE []):Array aF))).get? b=ψ o:=λb o m e=>(dU _ _ (Ne.symm m)).trans e;generalize s.heap.update a (fE λ_=>((LE []):Array aF))=B at u up1;apply aD;show seqEpoch_at u rfl ?_;apply aD;show wpAny_newTuple ?_ (by show vs.length<=_;rw[gX];lia);apply aD;show JM ?_ (dZ _);apply fS;show Γ prog w A _ P E {s with heap:=(B.push (seqObj "tuple" vs.toArray 0)).push (seqObj "list" (LE []) 0)};have U:∀b o,b≠a->s.heap.get? b=ψ o->((B.push (seqObj "tuple" vs.toArray 0)).push (seqObj "list" (LE []) 0)).get? b=ψ o:=λb o m e=>aR _ (aR _ (up1 b o m e));have V:((B.push (seqObj "tuple" vs.toArray 0)).push (seqObj "list" (LE []) 0)).get? a=ψ (seqObj "list" (LE []) D):=aR _ (aR _ u);generalize (B.push (seqObj "tuple" vs.toArray 0)).push (seqObj "list" (LE []) 0)=d at U V;have F:∀(p:θ Nat)(h:SortSt),(arrOf h).map (·.2)=jP (p.map λi=>vs.getD i eU)->failedOf h=ξ->p.Perm (cF vs.length)->(p.map λi=>nss.getD i []).Pairwise (λx y=>oO y x=χ) ->
   Γ prog w A (do
    let sorted:=(arrOf h).map (·.2)
    let l:=(<-seqEpoch a) != D
    AH (.ref a) λ_=>sorted
    if let some e:=failedOf h then rule "list.sort.comparison-raised";throw e
    if l then rule "list.sort.modified";raiseError "ValueError" "list modified during sort"
    ret .none) P E {s with heap:=d}:=by
  intro p h B Y W hs;have H:(p.map λi=>vs.getD i eU).length<=64:=by rw[aJ,W.length_eq,iE];lia
  generalize Z:(p.map λi=>vs.getD i eU)=g at B H;fail;apply aD;show seqEpoch_at (s:={s with heap:=d}) V rfl ?_;rw[B];apply aD;show ZE (s:={s with heap:=d}) V rfl ?_ (dZ _) (by show g.toArray.size<=_;rw[aZ,gX];lia);obtain⟨c,hc⟩:∃c,(d.update a (fE λ_=>g.toArray)).get? a=ψ (seqObj "list" g.toArray c):=#[_,TQ V λ_=>g.toArray];have qt:∀b o,b≠a->d.get? b=ψ o->(d.update a (fE λ_=>g.toArray)).get? b=ψ o:=λb o m e=>(dU _ _ (Ne.symm m)).trans e;generalize d.update a (fE λ_=>g.toArray)=h3 at hc qt;rw[Y];erw[bne_self_eq_false,aO,if_false];show aP (q h3 p c W (by rw[Z];show hc) hs λb o m e=>qt b o m (U b o m e))
 fail;by_cases I:vs.length<2
 ·have J:vs.toArray.size<2:=by rw[aZ];show I
  rw[υ J,υ J];apply aD;apply aP;apply aD;show wpAny _ _ (pure ((),SortSt.mk' general' (vs.toArray.zip vs.toArray) (LE []) 7 ξ)) _ _ _;apply aP;show F (cF vs.length) _ ?_ rfl (ET _) ?_
  ·show(vs.toArray.zip vs.toArray).map (·.2)=_;rw[range_getD];apply Array.toList_inj.mp;simp[List.map_snd_zip]
  ·rw[R,range_getD]
   match nss,R with
   | [],_=>show pN
   | [x],_=>show AN _ _
   |_::_::_,R=>simp at R;lia
 ·have J:¬vs.toArray.size<2:=by rw[aZ];show I
  rw[ω J,ω J];let⟨fs,f1,f2,f3⟩:=tups d U;apply aD;show kat_kind (s:={s with heap:=d}) (T:=.type "int") f1 ν (λv hv=>?_) μ ?_
  ·let⟨k,t,rfl⟩:=f3 v hv;show Looks.now
  have hT:(jR "int" != jR "tuple")=ζ:=μ
  rw[hT];let⟨i1,i2,i3⟩:=G2 (O:=B7) (key:=λi=>nss.getD i []) (n:=vs.length) ν;have zm:(jI (j6 B7 λi=>nss.getD i []) (FK vs.length)).size=vs.length:=by rw[i2.size_eq];simp
  generalize W:jI (j6 B7 λi=>nss.getD i []) (FK vs.length)=p at i2 i3 zm;apply aD;show iB (kat_run (ks:=vs) (vs:=vs) (Q:=λh K=>K = {s with heap:=d}/\arrOf h=p.map (kas_item (vs.toArray.zip vs.toArray))/\failedOf h=ξ) (G:=λp' K=>p'=p/\K = {s with heap:=d}) rfl ν wf (λp' h K a1 a2 a3 a4=>#[a4.2,by rw[a2,a4.1],a3]) ?_) ?_ λ_ _ e=>e
  ·show WM (lt:=j6 B7 λi=>nss.getD i []) (n:=vs.length) (s:={s with heap:=d}) (λi j C X L c=>?_) _ i1 #[W,bg];unfold kas_ask;obtain⟨x,ox,xs,nx,y,oy,ys,ny,⟨ex,wL,w5⟩,⟨ey,xa,xb⟩,kx⟩:=ask d U i j _ X L c;rw[ex,ey];show kat_lt (s:={s with heap:=d}) wL w5 xa xb kx
  ·rintro⟨⟨⟩,h⟩ K ⟨rfl,uv,Y⟩;have M:=kat_snds (ks:=vs) (vs:=vs) rfl uv;have pl:p.toList.Perm (cF vs.length):=(~~~i2.toList);show F p.toList h M Y pl ?_;show gG.mpr (fW.mpr λi j X L r6=>?_);have:=i3 i j ν (by simp at L;lia);unfold kk at this;erw[dA] at X L;have D:p.getD i 0=p[i]:=(by simp[lX,X]);have e2:p.getD j 0=p[j]:=(by simp[lX,L]);rw[D,e2] at this;show this
def Bd(d:s.heap.get? a=ψ (seqObj "list" vs.toArray n))(K:oj prog w s.heap vs nss)(L:∀ns∈nss,ns≠[])(M:vs.length<64)
  (q:∀h' out mss c,h'.get? a=ψ (seqObj "list" (jP out) c)->oj prog w h' out mss->(∀v∈out,v∈vs)->mss.Perm nss->mss.Pairwise (λx y=>oO y x=χ)->(∀b o,b≠a->s.heap.get? b=ψ o->h'.get? b=ψ o)->P (.done (.ret .none)) {s with heap:=h'}):
  Γ prog w A (Builtin.«list.sort» #[[.ref a],[]]) P E s:=by
 show Yl d K.1 M (λh' g=>WN vs nss (K.other d g) L) (λh' g i j C N h c=>?_) λh' p c H O Q I=>?_
 ·have f:=K.other d g;let⟨x,R,T,U,V,k,W,l,u⟩:=f.2 i (vs.getD i eU) (by simp[N]);let⟨y,X,Y,Z,ny,z,hy2,B,D⟩:=f.2 j (vs.getD j eU) (by simp[h]);show#[x,T,U,V,y,Y,Z,ny,#[R,k,l],#[X,z,B],B8 _ _ _ _ 0 u D η c]
 ·have f:=K.other d I;have lt:∀j∈p,j<vs.length:=λj h=>cT.mp (H.mem_iff.mp h);show q h' _ _ c O #[η,λi v e=>?_] (λv hv=>?_) ((H.map _).trans (by rw[K.1,range_getD])) Q I
  ·rw[bC] at e;let⟨j,J,rfl⟩:=lJ.mp e;let⟨b,F,G⟩:=f.2 j (vs.getD j eU) (by simp[lt j (bJ J)]);show#[b,F,?_];rw[show(p.map λi=>nss.getD i []).getD i []=nss.getD j [] by rw[cC,bC,J];rfl];show G
  ·let⟨j,m,rfl⟩:=bD.mp hv;simp[lt j m]
def TM{S:Addr}{es:Array (Int×aF)}{Q:aF->aK->Prop}(hh:A.handled=ξ)(H:qd prog w s.heap S es)(wf:es.size<64){nss:θ (θ Int)}(hn:∀ns∈nss,ns≠[])
  (W:∀e∈es.toList,∃ns∈nss,∃a,e.2 = .ref a/\IsTupleKey (intKind prog w) s.heap ns a)
  (q:∀h' D out mss c,s.z<=D->h'.get? D=ψ (seqObj "list" (jP out) c)->oj prog w h' out mss->(∀v∈out,∃e∈es.toList,e.2=v)->(∀ns,ns∈mss↔∃e∈es.toList,∃a,e.2 = .ref a/\IsTupleKey (intKind prog w) s.heap ns a)->mss.Pairwise (λx y=>oO y x=χ) ->
   mss.length=es.size->(∀b o,s.heap.get? b=ψ o->h'.get? b=ψ o)->Q (.ref D) {s with heap:=h'}):
  Γ prog w A (call (.builtin "sorted") [.ref S]) Q E s:=by
 obtain⟨⟨f,t,ho,T,hf,hl,hp,_⟩,els,_⟩:=H;have B:=QS (w:=w) S f es;have M:(lA w S f es).toList.length=es.size:=by rw[B.length_eq,dA]
 show yJ kind_sorted plain_sorted entry_sorted (args_sorted1 _) ?_;unfold Builtin.«sorted»;show aD (m:=checkCount "sorted" 1 1 _) (aP ?_);apply aD;show Ek (A:=A.in1) (by simp[hh]) ho T hl hp ν λd N O=>?_;apply aD;show JM ?_ (by rw[aJ,M,gX];lia);show wpAny _ _ _ _ _ {s with heap:=d.push (seqObj "list" (jP ((lA w S f es).toList.map (·.2))) 0)};have K:(d.push (seqObj "list" (jP ((lA w S f es).toList.map (·.2))) 0)).get? d.objs.size=ψ (seqObj "list" (jP ((lA w S f es).toList.map (·.2))) 0):=bT _ rfl;have C:∀b o,s.heap.get? b=ψ o->(d.push (seqObj "list" (jP ((lA w S f es).toList.map (·.2))) 0)).get? b=ψ o:=λb o e=>aR _ (N b o e);generalize d.push (seqObj "list" (jP ((lA w S f es).toList.map (·.2))) 0)=j at K C;have P:∀(i:Nat)(v:aF),((lA w S f es).toList.map (·.2))[i]?=ψ v->∃ns∈nss,∃a,v = .ref a/\IsTupleKey (intKind prog w) s.heap ns a:=by
  intro i v e;rw[bC] at e;cases F:(lA w S f es).toList[i]? with
  |none=>rw[F] at e;simp at e
  |some x=>
   rw[F] at e;erw[rQ,sY] at e;have m:x∈es.toList:=B.mem_iff.mp (bJ F);let⟨ns,d,a,j,G⟩:=W x m;show#[ns,d,a,by rw[<-e];show j,G]
 obtain⟨k,R,kk⟩:∃k:θ (θ Int),k.length=((lA w S f es).toList.map (·.2)).length/\∀(i:Nat)(v:aF),((lA w S f es).toList.map (·.2))[i]?=ψ v->k.getD i []∈nss/\∃a,v = .ref a/\IsTupleKey (intKind prog w) s.heap (k.getD i []) a:=by
  generalize ((lA w S f es).toList.map (·.2))=X at P;clear K
  induction X with
  |nil=>show#[[],bg,λi v e=>by simp at e]
  |cons v X ih=>
   let⟨k,N,C⟩:=ih λi v e=>P (i+1) v (~~~e);let⟨ns,d,a,j,G⟩:=P 0 v rfl;show#[ns::k,by simp[N],λi u e=>?_];cases i with
   |zero=>simp at e;subst e;show#[d,a,j,G]
   |succ i=>show C i u (~~~e)
 have KA:oj prog w j ((lA w S f es).toList.map (·.2)) k:=by
  show#[R.symm,λi v e=>?_];let⟨_,a,d,o,U,m,n,I⟩:=kk i v e;show#[a,d,o,U,m,C _ _ n,I]
 have l:∀ns,ns∈k↔∃e∈es.toList,∃a,e.2 = .ref a/\IsTupleKey (intKind prog w) s.heap ns a:=by
  intro ns;constructor
  ·intro h;let⟨i,L,e⟩:=dS h;have V:i<((lA w S f es).toList.map (·.2)).length:=ν;let⟨_,a,d,j⟩:=kk i _ (aG V);have g:k.getD i []=ns:=(by simp[L,e]);rw[g] at j;erw[List.getElem_map] at d;show#[_,B.mem_iff.mp (nU _),a,d,j]
  ·rintro⟨e,J,a,d,j⟩;let⟨i,L,e'⟩:=dS (B.mem_iff.mpr J);let⟨_,b,n,I⟩:=kk i e.2 (by rw[bC,aG L,e'];rfl);rw[d] at n;cases n;have:=I.inj j;rw[<-this];have V:i<k.length:=(by rw[R];simpa using L);simp[V]
 show aD (fS (jJ slot_list_sort #[_,K,bg] entry_list_sort ?body (VO _)))
 case body=>
  show Bd (s:={s with heap:=j}) K KA (λns h=>?_) (by rw[aJ,M];show wf) λG out mss c n I g3 Y g5 g6=>?_
  ·let⟨e,J,a,e1,F⟩:=(l ns).mp h;let⟨ms,m1,b,Z,e4⟩:=W e J;rw[e1] at Z;cases Z;rw[F.inj e4];show hn ms m1
  ·show#[_,bg,aP #[_,bg,q G d.objs.size out mss c O n I (λv hv=>?_) (λns=>(Y.mem_iff).trans (l ns)) g5 ?_ λb o e=>?_]]
   ·let⟨e,J,rfl⟩:=bD.mp (g3 v hv);show#[e,B.mem_iff.mp J,bg]
   ·rw[Y.length_eq,R,aJ,M]
   ·have:=bG e;show g6 b o (by intro z;erw[Addr] at *;lia) (C b o e)
end
end
section
open PySem PySem.W PyProof.Rows
def Ka:typeLookup (.type "list_reverseiterator") "__len__" = pure ξ:=by rw[rW,mP];kernel_rfl
def Vt:typeLookup (.type "list_reverseiterator") "__length_hint__" = pure (ψ (.builtin "list_reverseiterator.__length_hint__")):=by rw[rW,mP];kernel_rfl
def Dw:isSubtype (.type "list_reverseiterator") (.type "list_reverseiterator")=pure ζ:=by rw[xW];kernel_rfl
section
variable{s:aK}
def Xt(a:s.TypeIs (.ref I) "list_reverseiterator")(q:Q χ s):Γ prog w A (lG (.ref I)) Q E s:=by
 unfold lG;apply aD;show pA a Ka ?_;show wpAny _ _ (specialOf (eO I) (iG "__length_hint__") >>= _) _ _ _;apply aD;show pA a Vt ?_;fail;have e:splitId "list_reverseiterator.__length_hint__" = ψ ("list_reverseiterator","__length_hint__"):=γ
 rw[e];fail;apply aD;show uQ (b:=ζ) a Dw ?_;erw[dX,aO,if_false];have d:∀(c:Bool)(X Y:Sem Bool),c=ζ->Γ prog w A X Q E s->Γ prog w A (if c=ζ then X else Y) Q E s:=λc X Y f h=>by rw[υ f];show h
 show d _ _ _ γ ?_;rw[ω γ];show aP q
def YX(hh:A.handled=ξ)(ne:l≠I)(hz:items.size<=sizeLine)(hi:s.heap.IsRevIter I l ((items.size:Int)-1))(hl:s.heap.IsList l items)
  (q:∀h' c,h'.get? s.z=ψ (seqObj "list" items.toList.reverse.toArray c)->(∀b o,b≠I->s.heap.get? b=ψ o->h'.get? b=ψ o)->Q (.ref s.z) {s with heap:=h'}):
  Γ prog w A (call (.type "list") [.ref I]) Q E s:=by
 have m:I<s.z:=by let⟨o,e,_⟩:=hi;show bG e
 have R:l<s.z:=by let⟨o,e,_⟩:=hl;show bG e
 show callType_codes (Q₁:=λu s₁=>u = .ref s.z/\s₁ = {s with heap:=s.heap.push {cls:=.type "list",data:=.seq (LE [])}}) F.called_list (F.typeCall_list_1 _) F.entry_list_init (code_list_new _ #[bg,bg]) λu s₁ h₁=>?_;let⟨rfl,rfl⟩:=h₁;have H:(s.heap.push {cls:=.type "list",data:=.seq (LE [])}).get? s.z=ψ {cls:=.type "list",data:=.seq (LE [])}:=bT _ rfl;show#[#[_,H,bg],F.args_list_init_2 _ _,?_];show wpAny _ _ (do let U <-BU (.ref s.z);AH (.ref s.z) (λ_=>(LE []));letGo U.toList.reverse;jL (.ref s.z) (.ref I) .none) _ _ _;apply aD;unfold BU;apply aD;apply qK H rfl;apply aP;show wpAny _ _ (updateSeq s.z (λ_=>(LE [])) >>= λ_=>letGo ((LE []):Array aF).toList.reverse >>= λ_=>jL (.ref s.z) (.ref I) .none) _ _ _;apply aD;show lB H rfl ?_;have v:=fM (fE (λ_=>((LE []):Array aF))) H rfl;have K:∀b o,b≠s.z->s.heap.get? b=ψ o->((s.heap.push {cls:=.type "list",data:=.seq (LE [])}).update s.z (fE (λ_=>((LE []):Array aF)))).get? b=ψ o:=
  λb o hb e=>(dU _ _ (Ne.symm hb)).trans (aR _ e)
 generalize (s.heap.push {cls:=.type "list",data:=.seq (LE [])}).update s.z (fE (λ_=>((LE []):Array aF)))=V at v K;apply aD;apply zJ;have L:I≠s.z:=bP m;have y:l≠s.z:=bP R;have d:V.IsRevIter I l ((items.size:Int)-1):=hi.at λo e=>K _ o L e;have O_:V.IsList l items:=hl.at λo e=>K _ o y e;unfold jL;apply aD;show xB (T:="list_reverseiterator") d.typeIs ?_;have g1:nH (.ref s.z) (.ref I)=χ:=by simp[nH,kN m]
 have g2:(jR "list_reverseiterator" == jR "list")=χ:=μ
 have g3:(jR "list_reverseiterator" == jR "tuple")=χ:=μ
 erw[g1,g2,g3,II,aO,if_false];apply aD;show wpAny_pyIter_revIter d ?_;apply aD;apply fS;show Xt d.typeIs ?_;have W:∀(c:Bool)(X Y:Sem Fin){M:Fin->aK->Prop}{N:aF->aK->Prop}{O:aK}{A':dG},c=χ->Γ prog w A' Y M N O->Γ prog w A' (if c=ζ then X else Y) M N O:=λc X Y _ _ _ _ hc h=>by rw[hc,ω cL];show h
 show W _ _ _ γ ?_;apply aP;show#[gU kC _,?_];show Fs (s0:=s) (n:=items.size) (J:=λa h=>h.IsRevIter I l ((items.size:Int)-1-(a.length:Int))/\h.IsList l items/\a=items.toList.reverse.take a.length/\∀b o,b≠I->b≠s.z->s.heap.get? b=ψ o->h.get? b=ψ o)
  (F:=λa h=>a=items.toList.reverse/\∀b o,b≠I->b≠s.z->s.heap.get? b=ψ o->h.get? b=ψ o) .none hz ?_ ?_ ?_ (λh' a c hsz hF ua=>#[bg,?_]) items.size (LE []) V _ rfl (dZ _) ?_ v
 ·rintro a h h' ⟨B,C,j,D⟩ P hz Z;show#[B.at λo e=>Z _ o L e,C.at λo e=>Z _ o y e,j,λb o f g e=>Z b o g (D b o f g e)]
 ·rintro a O o M N k8 ⟨B,C,j,D⟩ P k;have e:items[items.size-1-a.length]?=ψ (items[items.size-1-a.length]'ν):=cJ _;show wpAny_pyNext_rev_item (i:=items.size-1-a.length) (by rw[show((items.size-1-a.length:Nat):Int)=(items.size:Int)-1-(a.length:Int) by lia];show B) C e λh' Y_ sb=>k _ h' #[?_,C.at λo e=>?_,?_,λb o f g e=>?_] ?_
  ·rw[show((items.size-1-a.length:Nat):Int)-1=(items.size:Int)-1-((a++[items[items.size-1-a.length]'ν]).length:Int) by simp;lia] at Y_;show Y_
  ·rw[sb.2 _ ne];show e
  ·rw[bI,kE,gD,<-j];congr 1;rw[aG ε,List.getElem_reverse];simp
  ·rw[sb.2 b f];show D b o f g e
  ·rw[sb.2 _ (Ne.symm L)];show P
 ·rintro a O o M N G ⟨B,C,j,D⟩ P k;rw[G] at j;show wpAny_pyNext_rev_end (l:=l) (by simp[hh]) (by rw[show(-1:Int)=(items.size:Int)-1-(a.length:Int) by lia];show B) λh' eb=>k h' #[?_,λb o f g e=>eb b o f (D b o f g e)] (eb _ _ (Ne.symm L) P);rw[j,iS];simp
 ·show#[~~~d,O_,bg,λb o _ g e=>K b o g e]
 ·show q h' c ?_ λb o f e=>hF.2 b o f (bP (bG e)) e;rw[ua,<-hF.1]
end
end
section
open PySem PySem.Spec PyProof.Rows L2
def boot_sorted:bootBuiltins "sorted" = ψ (.builtin "sorted"):=γ
def boot_set:bootBuiltins "set" = ψ (.type "set"):=γ
theorem WL:∀{ns:θ Int}{us:θ aF},c9 (ns.map V.int) us->ItemsAre (intKind prog w) ns us
 | [],_,h=>by cases h;show .nil
 |n::ns,_,h=>by
  cases h with
  |cons a t=>
   let⟨b,rfl⟩:=a;show .cons (intKind_is _ _ _ _) (WL t)
def XV(e:RE):RA:=λa Q=>e a λx=>∃b:θ (θ Int),x = .lst (b.map qJ)/\b.length<64/\(∀d∈b,d≠[])/\∀c:θ (θ Int),c.Pairwise (λx y=>oO y x=χ)->(∀d,d∈c↔d∈b)->c.length<=b.length->Q (c.map qJ)
def XS(c:RE):RA:=λa Q=>c a λx=>∃b:θ D,x = .lst b/\Q b.reverse
theorem XZ{K:aL}{H:Hp}:∀(out:θ aF)(mss:θ (θ Int)),out.length=mss.length->(∀(i:Nat)(v:aF),out[i]?=ψ v->∃a,v = .ref a/\H a=ψ (.tup ((mss.getD i []).map V.int)))->∃ws:θ V,c9 ws out/\cn K H (mss.map qJ) ws
 | [],[],_,_=>#[[],.nil,.nil]
 | [],_::_,h,_=>by simp at h
 |_::_,[],h,_=>by simp at h
 |v::out,f::mss,h,k=>by
  let⟨ws,b,c⟩:=XZ (K:=K) (H:=H) out mss (~~~h) λi v e=>k (i+1) v (~~~e);let⟨a,rfl,d⟩:=k 0 v rfl;show#[.ref a::ws,.cons rfl b,.cons (.tup d cn.ints) c]
section
variable{p pz pos tx:Pos}
def Jq(hr:g_ k X.A)(R_:X.mg "sorted" = ξ)(wr:X.mg "set" = ξ)(hc:X.calm=ζ)(h:DB X e te)(N_:Gl X "sorted":=by rfl)(v5:Gl X "set":=by rfl)
  (hs:starEach [.Call (.Name "set" pz) [e] [] tx] X.env=[(χ,eval (.Call (.Name "set" pz) [e] [] tx) X.env)]:=by rfl) (hn:starEach [] X.env=[]:=by rfl) (h1:starEach [e] X.env=[(χ,eval e X.env)]:=by rfl):
  DO X (.Call (.Name "sorted" p) [.Call (.Name "set" pz) [e] [] tx] [] pos) (XV te):=by
 intro Φ s Z H Q I e9;let⟨z,P,st,q,kq⟩:=e9;show fF (oA I N_ R_ boot_sorted ?_);show kJ ?_ (by rw[hs,hn]) (by rw[hn];rfl);rw[hs];show wpAny _ _ (spliced ((χ,eval (.Call (.Name "set" pz) [e] [] tx) X.env)::backTo pos [])) _ _ s;show rY (fF (oA I v5 wr boot_set ?_));show dE (i0 (oQ h h1 hn tx Φ s Z H (λU E=>∃(nss:θ (θ Int))(v:V),U=[v]/\a_ H E/\j2 X.K E (.lst (nss.map qJ)) v/\nss.length<64/\(∀f∈nss,f≠[])/\∀g:θ (θ Int),g.Pairwise (λx y=>oO y x=χ)->(∀f,f∈g↔f∈nss)->g.length<=nss.length->P (g.map qJ)) I
  #[z,_,st,q,λx v E hx F r1=>?_]) λus F ⟨U,E,N,r1,q1⟩=>?_) (by rw[h1,hn]) (by rw[hn];rfl)
 ·let⟨nss,rfl,a1,a2,a3⟩:=hx;show#[nss,v,bg,F,r1,a1,a2,a3]
 let⟨nss,v,rfl,qw,rb,wf,oi,hP⟩:=q1;let⟨l,U,rfl,hq,rr⟩:=rb.lst;let⟨u,rfl,rx⟩:=vals1 r1;cases rx;let⟨m,rv,pl,hz⟩:=N.list hq;have l1:=rr.length;have l2:=rv.length;rw[aJ] at l1;have L:∀(i:Nat)(u:aF),m[i]?=ψ u->∃f a,nss[i]?=ψ f/\U[i]?=ψ (.ref a)/\u = .ref a/\IsTupleKey (intKind X.prog X.w) F.heap f a:=λi u e=>by
  have hi:i<nss.length:=by have:=(bF.mp e).1;lia
  let⟨v,W,Y⟩:=rr.get (i:=i) (d:=qJ nss[i]) (by rw[bC,aG hi];rfl);let⟨a,rfl,ha⟩:=cn.tupI_inv Y;let⟨u',f1,f2⟩:=rv.get W;rw[e] at f1;cases f1;cases f2;let⟨ts,g1,O,_⟩:=N.tuple (m7.of (K:=X.K) ha);let⟨o,go,gc,n,gd⟩:=O;show#[_,a,aG hi,W,bg,o,ts.toArray,n,go,gc,gd,~~~WL g1]
 have hu:=hr.un;show YZ (key:=λi=>nss.getD i []) (N.ok.hd hc) ν pl.isList (λi u e=>?_) ε λh2 tk D up=>?_
 ·let⟨f,a,B,_,rfl,G⟩:=L i u (~~~e);show#[a,bg,?_];have:nss.getD i []=f:=by rw[cC,B];rfl
  rw[this];show G
 show sP ?_;let⟨es,ST,d1,d2,d3⟩:=D;have ub:∀{f:θ Int}{a:Addr},IsTupleKey (intKind X.prog X.w) F.heap f a->IsTupleKey (intKind X.prog X.w) h2 f a:=λ⟨o,m,n,g1,O⟩=>#[o,m,n,up _ _ g1,O];have C:∀e∈es.toList,∃(i:Nat)(f:θ Int)(a:Addr),nss[i]?=ψ f/\U[i]?=ψ (.ref a)/\e.2 = .ref a/\IsTupleKey (intKind X.prog X.w) h2 f a:=λe he=>by
  let⟨j,hj,ej⟩:=d1 e he;let⟨f,a,B,R,J,G⟩:=L j e.2 (~~~ej);show#[j,f,a,B,R,J,ub G]
 show TM (s:={F with heap:=h2,toks:=tk}) (A:=X.A) (N.ok.hd hc) ST (by simp at d3;lia) (nss:=nss) oi (λe he=>?_) λh3 Dd T g c big g1 O g3 g4 g5 g6 qt=>?_
 ·let⟨i,f,a,B,R,J,G⟩:=C e he;show#[f,bJ B,a,J,G]
 have kp:∀b o,F.heap.get? b=ψ o->h3.get? b=ψ o:=λb o e=>qt b o (up b o e);have I3:Inv X Φ Z E {F with heap:=h3,toks:=tk}:=N.kept kp;have szS:F.z<h2.objs.size:=by obtain⟨⟨ep,t,ho,_⟩,_⟩:=ST;show bG ho
 have M:F.z<=Dd:=by have:h2.objs.size<=Dd:=big;lia
 have zt:E Dd=ξ:=N.hok.fresh M;have oo:∀{i:Nat}{f:θ Int}{a:Addr},nss[i]?=ψ f->U[i]?=ψ (.ref a)->E a=ψ (.tup (f.map V.int)):=λ{i f a} B R=>by
  let⟨w,f1,f2⟩:=rr.get (i:=i) (d:=qJ f) (by rw[bC,B];rfl);rw[R] at f1;cases f1;let⟨b,e,hb⟩:=cn.tupI_inv f2;cases e;show hb
 let⟨ws,VV,RR⟩:=XZ (K:=X.K) (H:=E) T g O.1 λi v e=>by
  let⟨x,hx,ex⟩:=g3 v (bJ e);let⟨j,f,a,B,R,J,G⟩:=C x hx;let⟨b,eb,hb⟩:=O.2 i v e;rw[<-ex,J] at eb;cases eb;show#[a,by rw[<-ex,J],?_];have j5:IsTupleKey (intKind X.prog X.w) h3 f a:=by let⟨o,m,n,q1,q2⟩:=G;show#[o,m,n,qt _ _ q1,q2]
  rw[hb.inj j5];show oo B R
 have lo:T.length<=64:=by rw[O.1,g6];simp at d3;lia
 have lw:=VV.length;have I4:=N.trackO (a:=Dd) (w:=.lst ws) I3 M zt #[by rw[gX];lia,T,c,VV,g1];show#[.ref Dd,_,I4,bg,kq _ _ _ E (hP g g5 (λf=>?_) (by rw[g6];simp at d3;lia)) qw zt RR];rw[g4 f];constructor
 ·rintro⟨x,hx,a,W,Y⟩;let⟨j,ms,b,B,R,J,G⟩:=C x hx;rw[W] at J;cases J;rw[Y.inj G];show bJ B
 ·intro h;let⟨j,hj,rfl⟩:=dS h;let⟨y,hy,b,W,Y⟩:=d2 j ε;show#[y,hy,b,W,?_];have:nss.getD j []=nss[j]:=by simp[hj]
  rw[this] at Y;show Y
def Jp(Q_:X.mg "list" = ξ)(B:X.mg "reversed" = ξ)(hc:X.calm=ζ)(h:DB X e te)(C:Gl X "list":=by rfl)(E:Gl X "reversed":=by rfl)
  (O:starEach [.Call (.Name "reversed" pz) [e] [] tx] X.env=[(χ,eval (.Call (.Name "reversed" pz) [e] [] tx) X.env)]:=by rfl) (j:starEach [] X.env=[]:=by rfl) (R:starEach [e] X.env=[(χ,eval e X.env)]:=by rfl):
  DO X (.Call (.Name "list" p) [.Call (.Name "reversed" pz) [e] [] tx] [] pos) (XS te):=by
 intro Φ s Z H Q I e9;let⟨d,P,st,q,kq⟩:=e9;show fF (oA I C Q_ boot_list ?_);show dE ?_ (by rw[O,j]) (by rw[j];rfl);rw[O];show wpAny _ _ (spliced ((χ,eval (.Call (.Name "reversed" pz) [e] [] tx) X.env)::backTo pos [])) _ _ s;show rY (fF (oA I E B boot_reversed ?_));show dE (i0 (oQ h R j tx Φ s Z H (λk i=>∃(m:θ D)(v:V),k=[v]/\a_ H i/\j2 X.K i (.lst m) v/\P m.reverse) I
  #[d,_,st,q,λx v i hx f r1=>?_]) λus f ⟨k,i,n,r1,q1⟩=>?_) (by rw[R,j]) (by rw[j];rfl)
 ·let⟨m,rfl,a1⟩:=hx;show#[m,v,bg,f,r1,a1]
 let⟨m,v,rfl,qw,rb,hP⟩:=q1;let⟨l,k,rfl,T,F⟩:=rb.lst;let⟨u,rfl,rx⟩:=vals1 r1;cases rx;let⟨g,U,y,hz⟩:=n.list T;have l1:=F.length;have l2:=U.length;have lt:l<f.z:=by let⟨o,e,_⟩:=y.isList;show bG e
 show call_reversed_list y.isList ?_;show sP ?_;have G:(f.heap.push (revObj l ((g.toArray.size:Int)-1))).get? f.z=ψ (revObj l ((g.toArray.size:Int)-1)):=bT _ rfl;have J:∀b o,f.heap.get? b=ψ o->(f.heap.push (revObj l ((g.toArray.size:Int)-1))).get? b=ψ o:=λb o e=>aR _ e;have L:(f.heap.push (revObj l ((g.toArray.size:Int)-1))).objs.size=f.z+1:=mC ..;generalize f.heap.push (revObj l ((g.toArray.size:Int)-1))=M at G J L;show YX (s:={f with heap:=M}) (A:=X.A) (l:=l) (n.ok.hd hc) (bP lt) ε #[_,G,bg,bg] (y.isList.at λo e=>J _ o e) λW c N up=>?_;show EP X Φ Z Q (.ref M.objs.size) _;rw[show Shared.z {f with heap:=M}=f.z+1 from L] at N;rw[L];have kp:∀b o,f.heap.get? b=ψ o->W.get? b=ψ o:=λb o e=>up b o (bP (bG e)) (J b o e);have I3:Inv X Φ Z i {f with heap:=W}:=n.kept (t':=f.toks) kp;have Y:i (f.z+1)=ξ:=n.hok.fresh (sI _);have VV:c9 k.reverse g.reverse:=by
  clear T y hz l1 l2 F N G
  induction U with
  |nil=>show .nil
  |cons r t ih=>
   erw[pP];show c9.append ih (.cons r .nil)
 have I4:=n.trackO (a:=f.z+1) (w:=.lst k.reverse) I3 (sI _) Y #[ε,g.reverse,c,VV,~~~N];show#[.ref (f.z+1),_,I4,bg,kq _ _ _ i hP qw Y F.reverse]
end
def dh(lo:Int)(n:Nat):θ D:=(cF n).map λk:Nat=>D.int (lo+(k:Int)*2)
structure zi(j:Int):Prop where
 lo:-(2 ^ 60)<=j
 hi:j<2 ^ 60
def V9(t:RA):RA:=λa Q=>t a λb=>match b with
 | [.int i,.int j,.int c]=>(zi i/\zi j/\c=2)/\Q (dh i ((j-i+1) / 2).toNat)
 |_=>False
end
end L2.R2
namespace L2
open PySem PySem.Spec PyProof.Rows
section
variable{κ:Type}[DecidableEq κ]
def tO(kvs:θ (κ×V))(k:κ):Option V:=(kvs.find? λa=>decide (a.1=k)).map (·.2)
def LH(kvs:θ (κ×V))(k:κ)(v:V):θ (κ×V):=
 if(kvs.any λa=>decide (a.1=k))=ζ then kvs.map (λa=>if a.1=k then(a.1,v) else a) else kvs++[(k,v)]
def tP{p:κ×V}{r:θ (κ×V)}{k:κ}(e:p.1=k):tO (p::r) k=ψ p.2:=by simp[tO,oT,e]
def rM{p:κ×V}{r:θ (κ×V)}{k:κ}(e:¬p.1=k):tO (p::r) k=tO r k:=by simp[tO,oT,e]
theorem YL(k:κ):∀kvs:θ (κ×V),(kvs.any λkv=>decide (kv.1=k))=(tO kvs k).isSome
 | []=>rfl
 |p::r=>by
  rw[zN];by_cases e:p.1=k
  ·erw[tP e,decide_eq_true e,Bool.true_or,Option.isSome_some]
  ·rw[rM e,decide_eq_false e,YR];show YL k r
def RQ(kvs:θ (κ×V))(k:κ)(v:V):(LH kvs k v).length<=kvs.length+1:=by
 unfold LH;split
 ·rw[aJ];lia
 ·rw[bI,aT,cK];lia
def Xc{kvs:θ (κ×V)}{k:κ}(v:V)(h:tO kvs k=ξ):LH kvs k v=kvs++[(k,v)]:=by
 unfold LH;rw[YL,h];show ω μ
def ss.isSome_eq(r:ss o u):o.isSome=u.isSome:=by
 cases o with
 |none=>cases u with
  |none=>rfl
  |some _=>show(show False from r).elim
 |some _=>cases u with
  |none=>show(show False from r).elim
  |some _=>rfl
def KV.val(r:KV kvs vs)(k:κ):ss (tO kvs k) (valueAt vs k):=by
 unfold KV at r
 induction r with
 |nil=>show oJ
 | @cons p q i a h t f=>
  let⟨d,g⟩:=h;by_cases e:p.1=k
  ·have c:q.1=k:=d.symm.trans e;have b:valueAt (q::a) k=ψ q.2:=(by simp[valueAt,oT,c]);rw[tP e,b];show g
  ·have c:¬q.1=k:=λz=>e (d.trans z);have b:valueAt (q::a) k=valueAt a k:=(by simp[valueAt,oT,c]);rw[rM e,b];show f
def KV.any(r:KV kvs vs)(k:κ):(kvs.any λkv=>decide (kv.1=k))=vs.any λkv=>decide (kv.1=k):=by
 unfold KV at r
 induction r with
 |nil=>rfl
 |cons h t a=>rw[zN,zN,a,h.1]
def KV.repl(r:KV kvs vs)(k:κ)(b:RelV y u):
  KV (kvs.map λkv=>if kv.1=k then(kv.1,y) else kv) (vs.map λkv=>if kv.1=k then(kv.1,u) else kv):=by
 unfold KV at r⊢
 induction r with
 |nil=>show .nil
 | @cons p q f g h t c=>
  rw[aN,aN];show .cons ?_ c;let⟨a,d⟩:=h;by_cases e:p.1=k
  ·rw[υ e,υ (a.symm.trans e)];show#[a,b]
  ·rw[ω e,ω (λz=>e (a.trans z))];show#[a,d]
def KV.put(r:KV kvs vs)(k:κ)(a:RelV y u):KV (LH kvs k y) (stored vs k u):=by
 unfold LH stored;rw[r.any k];by_cases e:(vs.any λb=>decide (b.1=k))=ζ
 ·rw[υ e,υ e];show r.repl k a
 ·rw[ω e,ω e];show Paired.snoc r #[bg,a]
def KV.length{kvs:θ (κ×V)}{vs:θ (κ×aF)}(r:KV kvs vs):kvs.length=vs.length:=zQ r
end
def Np(r:RelV (kV k) u):(gH P w).is k u=ζ:=by
 cases k with
 |inl i=>let⟨t,e⟩:=(show ∃t,u=AV i t from r);subst e;show Gg P w i t
 |inr x=>let⟨t,e⟩:=(show ∃t,u=PH x t from r);subst e;show Gh P w x t
theorem Ap:∀{ks:θ jl}{us:θ aF},c9 (ks.map kV) us->ItemsAre (gH P w) ks us
 | [],_,r=>by rw[cD] at r;cases r;show .nil
 |k::ks,_,r=>by
  rw[aN] at r;cases r with
  |cons h t=>show .cons (Np h) (Ap t)
abbrev KT(H:Hp):θ (θ jl×V)->θ (θ jl×Addr×aF)->Prop:=Paired λp q=>p.1=q.1/\H q.2.1=ψ (.tup (p.1.map kV))/\RelV p.2 q.2.2
def KT.val(r:KT H kvs xs)(k:θ jl):ss (tO kvs k) ((atKey xs k).map (·.2)):=by
 induction r with
 |nil=>show oJ
 | @cons p q i a h t f=>
  let⟨d,_,g⟩:=h;by_cases e:p.1=k
  ·have c:q.1=k:=d.symm.trans e;have b:atKey (q::a) k=ψ q.2:=(by simp[atKey,oT,c]);rw[tP e,b];show g
  ·have c:¬q.1=k:=λz=>e (d.trans z);have b:atKey (q::a) k=atKey a k:=(by simp[atKey,oT,c]);rw[rM e,b];show f
def KT.repl(r:KT H kvs xs)(k:θ jl)(c:RelV y u):
  KT H (kvs.map λkv=>if kv.1=k then(kv.1,y) else kv) (xs.map (putAt k u)):=by
 induction r with
 |nil=>show .nil
 | @cons p q g i h t d=>
  rw[aN,aN];show .cons ?_ d;let⟨a,b,f⟩:=h;unfold putAt;by_cases e:p.1=k
  ·rw[υ e,υ (a.symm.trans e)];show#[a,b,c]
  ·rw[ω e,ω (λz=>e (a.trans z))];show#[a,b,f]
def KT.put(r:KT H kvs xs)(k:θ jl)(c:H b=ψ (.tup (k.map kV)))(a:RelV y u):
  KT H (LH kvs k y) (storedH xs k b u):=by
 have e:(kvs.any λd=>decide (d.1=k))=(atKey xs k).isSome:=by
  rw[YL,(r.val k).isSome_eq,Option.isSome_map]
 unfold LH storedH;rw[e];by_cases q:(atKey xs k).isSome=ζ
 ·rw[υ q,υ q];show r.repl k a
 ·rw[ω q,ω q];show Paired.snoc r #[bg,c,a]
def KT.keeps(r:KT H kvs xs)(a:∀b ys,H b=ψ (.tup ys)->H' b=ψ (.tup ys)):KT H' kvs xs:=
 Paired.mapP r λ_ _ z=>#[z.1,a _ _ z.2.1,z.2.2]
def M7(ok:qb P w H h)(e:Rd H a u):g9 P w H h a u:=e.ok ok
def Mz(ok:qb P w H h)(e:Rd H a (.dK kvs)):kvs.length<=sizeLine/\(a == sysModules)=χ/\∃vs,KV kvs vs/\h.DictOf (gH P w) a vs:=
 show g9 P w H h a (.dK kvs) from M7 ok e
def J8(ok:qb P w H h)(e:H a=ψ (.dK kvs)):kvs.length<=sizeLine/\(a == sysModules)=χ/\∃vs,KV kvs vs/\h.DictOf (gH P w) a vs:=Mz ok (.inl e)
def Cs(ok:qb P w H h)(e:H a=ψ (.tup (ks.map kV))):(tupleKind (gH P w)).is h ks a:=by
 let⟨_,b,r,o,c,d,n,f⟩:=(show g9 P w H h a (.tup (ks.map kV)) from ok a _ e);show#[o,b.toArray,n,c,d,f,~~~Ap r]
def Nb(ok:qb P w H h)(e:Rd H a (.dT kvs)):kvs.length<=sizeLine/\(a == sysModules)=χ /\
  ∃xs,KT H kvs xs/\h.DictOfH (tupleKind (gH P w)) a xs:=by
 let⟨z,y,xs,r,o,d,f,g,i,j,k,n⟩:=(show g9 P w H h a (.dT kvs) from M7 ok e);show#[z,y,xs,r,o,d,f,g,i,j,k,λx b=>?_,n];have all:∀{l:θ (θ jl×V)}{m:θ (θ jl×Addr×aF)},KT H l m->∀x∈m,(tupleKind (gH P w)).is h x.1 x.2.1:=by
  intro l m q
  induction q with
  |nil=>intro x b;show nomatch b
  | @cons p q u v c t s=>
   intro x b;rcases aV.mp b with e |b
   ·subst e;show Cs ok (by rw[<-c.1];show c.2.1)
   ·show s x b
 show all r x b
def Z7(ok:qb P w H h)(e:H a=ψ (.dT kvs)):kvs.length<=sizeLine/\(a == sysModules)=χ /\
  ∃xs,KT H kvs xs/\h.DictOfH (tupleKind (gH P w)) a xs:=Nb ok (.inl e)
def M9(H:Hp)(a:Addr)(y:V)(r:Option V):Prop:=
 (∃c k,Rd H a (.dK c)/\y=kV k/\r=tO c k)\/∃c k b,Rd H a (.dT c)/\y = .ref b/\H b=ψ (.tup (k.map kV))/\r=tO c k
def wt(H:Hp)(a:Addr)(y v:V)(H':Hp):Prop:=
 (∃c k,H a=ψ (.dK c)/\y=kV k/\c.length<sizeLine/\H'=f_ H a (.dK (LH c k v))) \/
 ∃c k b,H a=ψ (.dT c)/\y = .ref b/\H b=ψ (.tup (k.map kV))/\c.length<sizeLine/\H'=f_ H a (.dT (LH c k v))
def wt.t(e:H a=ψ (.dT kvs))(c:H b=ψ (.tup (k.map kV)))(d:kvs.length<sizeLine):
  wt H a (.ref b) v (f_ H a (.dT (LH kvs k v))):=.inr #[kvs,k,b,e,bg,c,d,bg]
section
variable{σ:St}{s:aK}
def Inv.big(I:Inv X Φ σ H s):sysModules<s.z:=by
 have h:mainGlobals<s.z:=(I.mod.glob.keeps I.bk).lt;show nA μ h
def Pu(B:A.units+1<cLine)(I:Inv X Φ σ H s)(g:M9 H a y (ψ v))(q:RelV y u)(h:∀w' s',Inv X Φ σ H s'->RelV v w'->Q w' s'):
  wpAny (model X.prog X.w) A (getItem (.ref a) u) Q E s:=by
 rcases g with⟨d,k,e,f,l⟩ | ⟨d,k,b,e,f,C,l⟩
 ·subst f;let⟨z,D,F,c,i⟩:=Mz I.hok e;let⟨w',j,m⟩:=ss.some_of (v:=v) (o:=valueAt F k) (by rw[l];show c.val k);show wpAny_getItem_of (Np q) i.mapOf j (h w' _ (I.tok _) m)
 ·subst f;cases (show u=eO b from q);let⟨z,D,G,c,i⟩:=Nb I.hok e;let⟨w',j,m⟩:=ss.some_of (v:=v) (o:=(atKey G k).map (·.2)) (by rw[l];show c.val k);let⟨p,J,n⟩:=lJ.mp j;show wpAny_getItem_heap (LO B) (Cs I.hok C) i J ?_;rw[n];show h w' _ (I.tok _) m
def Cd(I:Inv X Φ σ H s)(d:eS (H a))(f:qL a s.heap h')(g:∃q,h'.get? a=ψ q)(c:g9 X.prog X.w (f_ H a ob) h' a ob):
  Inv X Φ σ (f_ H a ob) {s with heap:=h',toks:=t'}:=
 I.write (x:=a) (e:=a) d (.inl rfl) (λb q h z=>(f.2 b h).trans z) g c
def Ul(z:kvs.length<=sizeLine)(c:(a == sysModules)=χ)(b:KV kvs vs)(d:h'.DictOf (gH P w) a vs):
  g9 P w H' h' a (.dK kvs):=#[z,c,vs,b,d]
def Pv(N:A.units+1<cLine)(I:Inv X Φ σ H s)(g:wt H a y v H')(G:RelV y u)(J:RelV v r)(h:∀s',Inv X Φ σ H' s'->Q () s'):
  wpAny (model X.prog X.w) A (setItem (.ref a) u r) Q E s:=by
 rcases g with⟨d,k,e,m,l,n⟩ | ⟨d,k,b,e,m,K,l,n⟩
 ·subst m n;let⟨z,o,O,f,B⟩:=J8 I.hok e;have C:O.length<=sizeLine:=by rw[<-f.length];show z
  have D:(LH d k v).length<=sizeLine:=by have:=RQ d k v;lia
  show wpAny_setItem_pairs (hsz:=C) (Np G) B λL i F=>h _ ?_;have P:∃q,L.get? a=ψ q:=let ⟨q,_,_,j,_⟩:=i;#[q,j];show Cd I (by rw[e];show oJ) F P (Ul D o (f.put k J) i)
 ·subst m n;cases (show u=eO b from G);let⟨z,o,R,f,B⟩:=Z7 I.hok e;have C:R.length<=sizeLine:=by rw[<-zQ f];show z
  have D:(LH d k v).length<=sizeLine:=by have:=RQ d k v;lia
  show wpAny_setItem_heap (hsz:=C) (LO N) (Cs I.hok K) B λL i F=>h _ ?_;let⟨q,T,U,j,V,W,Y,_,Z⟩:=i;show Cd I (by rw[e];show oJ) F #[q,j] #[D,o,_,(f.put k K J).keeps λc ys M=>?_,q,T,U,j,V,W,Y,Z];rw[cY (aq M e (λz=>nomatch z))];show M
end
def Yv(i:Expr):Prop:=∀a b,subscripted i χ a b=operate [a,b] (getItem a b)
def G4{s:aK}{pos:Pos}{T id:String}
  (e:typeLookup (.type T) "__getitem__" = pure (ψ (.builtin id))) (f:Yv slice)
  (h:Γ prog w A (eval value env) (λo s₁=>Γ prog w A (eval slice env) (λi s₂=>s₂.TypeIs o T/\Γ prog w A (getItem o i) Q E s₂) E s₁) E s):
  Γ prog w A (eval (.Subscript value slice pos) env) Q E s:=by
 show Subscript_ (iB h (λo s₁ g=>iB g (λi s₂ b=>?_) λ_ _ x=>x) λ_ _ x=>x);let⟨c,b⟩:=b;unfold subscriptTail;show aD ?_;rw[getitemInPython_of_ne c.not_modules];show aD (pA c e ?_);have a:Γ prog w A (subscripted slice χ o i) (λr d=>Γ prog w A (letTemporaryGo value o r >>= λ_=>pure r) Q E d) E s₂:=by
  rw[f o i];show wpAny_operating (iB b (λr d j=>aD (wpAny_letTemporaryGo (aP j))) λ_ _ x=>x)
 first
  |show aP (aD a)
  |show aD (aP (aD a))
  |show aD a
def Ff{Z:St}{s:aK}(I:Inv X Φ Z H s)(g:M9 H a y o):s.TypeIs (.ref a) "dict":=by
 rcases g with⟨c,k,e,_,_⟩ | ⟨c,k,b,e,_,_,_⟩
 ·let⟨_,_,f,_,d⟩:=Mz I.hok e;show d.typeIs
 ·let⟨_,_,h,_,d⟩:=Nb I.hok e;show d.typeIs
def dw(c d:TE):TE:=λZ H Q=>c Z H λx e=>d Z e λy b=>∃a v,x = .ref a/\M9 b a y (ψ v)/\Q v b
def de(c d e:TE):TS:=λD Z H=>e Z H λv f=>c Z f λx g=>d Z g λy H3=>∃a b,x = .ref a/\wt H3 a y v b/\D.nx Z b
section
variable{pos pos' tpos:Pos}
def Ny(c:X.A.units+1<cLine)(d:PE X o td)(hi:PE X i ty)(e:Yv i):PE X (.Subscript o i pos) (dw td ty):=by
 intro Φ s Z H Q I h;show G4 PySem.F.slot_dict_getitem.lookup e (i0 (d Φ s Z H _ I h) λu f ⟨x,j,k,l,m⟩=>i0 (hi Φ f Z j _ k m) λE G n=>?_);let⟨y,q,b,w,a,v,z,g,B⟩:=n;subst z;obtain rfl:u=eO a:=l;show#[Ff b g,Pu c b g w λJ K C D=>#[v,q,C,D,B]]
def E5(b:X.A.units+1<cLine)(c:PE X o td)(hi:PE X i ty)(d:PE X value tv)(e:swapsWith value (ψ (.Subscript o i pos')) pos.line X.env=pure χ):
  PS X (.Assign [.Subscript o i pos'] value pos) (de td ty tv):=by
 intro Φ s Z H D I h;show wpAny_Assign_Subscript (i0 (d Φ s Z H _ I h) λr f ⟨v,j,k,l,m⟩=>i0 (c Φ f Z j _ k m) λu n ⟨x,q,w,z,B⟩=>i0 (hi Φ n Z q _ w B) λM N C=>?_) e;let⟨y,H3,E,F,a,G,J,g,K⟩:=C;subst J;obtain rfl:u=eO a:=z;show Pv b E g F l λO L=>#[Z,G,L,K]
end
def Uk(h:Heap)(a:sysModules<h.objs.size):g9 P w H (h.push {cls:=.type "dict",data:=.dict (LE [])}) h.objs.size (.dK []):=
 #[dZ _,beq_eq_false_iff_ne.mpr (Ne.symm (bP a)),[],.nil,Heap.DictOf.new h]
def Uw(h:Heap)(a:sysModules<h.objs.size):g9 P w H (h.push {cls:=.type "dict",data:=.dict (LE [])}) h.objs.size (.dT []):=
 #[dZ _,beq_eq_false_iff_ne.mpr (Ne.symm (bP a)),[],.nil,_,(LE []),0,bT _ rfl,#[bg,bg,bg],bg,bg,VE]
def X5:TE:=λ_ H Q=>∀p,H p=ξ->Q (.ref p) (f_ H p (.dK []))
def X6:TE:=λ_ H Q=>∀p,H p=ξ->Q (.ref p) (f_ H p (.dT []))
section
variable{pos:Pos}
def Wo:PE X (.Dict [] [] pos) X5:=λΦ s Z H Q I h=>
 QT #[.ref s.z,_,I.laid (a:=s.z) (o:=.dK []) (t':=s.toks) (λ_ _ q=>aR _ q) (aY _) (Uk s.heap I.big),bg,h _ (I.hok.fresh (aY _))]
def Wp:PE X (.Dict [] [] pos) X6:=λΦ s Z H Q I h=>
 QT #[.ref s.z,_,I.laid (a:=s.z) (o:=.dT []) (t':=s.toks) (λ_ _ q=>aR _ q) (aY _) (Uw s.heap I.big),bg,h _ (I.hok.fresh (aY _))]
end
abbrev VV:θ (V×V)->θ (aF×aF)->Prop:=Paired λp q=>RelV p.1 q.1/\RelV p.2 q.2
structure M1(X:Cx)(o:Expr)(m:Str)(apos:Pos)(e:Expr)(cpos:Pos):Prop where
 base:attributeBase o m X.env (eval o X.env)=eval o X.env
 few:((backTo cpos (starEach [e] X.env)).all (λx=>!x.1) && (backToKw cpos (keywordEach [] X.env)).all (λx=>x.1.isSome)
  && decide (([e]:θ Expr).length+([]:θ nQ).length+(if([]:θ nQ).isEmpty then 0 else 1)<30))=ζ
 line:(apos.endLine == cpos.line)=ζ
 trees:backTo cpos (starEach [e] X.env)=[(χ,eval e X.env)]
structure M2(X:Cx)(o:Expr)(m:Str)(apos:Pos)(e f:Expr)(cpos:Pos):Prop where
 base:attributeBase o m X.env (eval o X.env)=eval o X.env
 few:((backTo cpos (starEach [e,f] X.env)).all (λx=>!x.1) && (backToKw cpos (keywordEach [] X.env)).all (λx=>x.1.isSome)
  && decide (([e,f]:θ Expr).length+([]:θ nQ).length+(if([]:θ nQ).isEmpty then 0 else 1)<30))=ζ
 line:(apos.endLine == cpos.line)=ζ
 trees:backTo cpos (starEach [e,f] X.env)=[(χ,eval e X.env),(χ,eval f X.env)]
end L2
namespace L2.R2
section
open PySem PySem.Spec PyProof.Rows L2
def F4:V->θ V->Hp->VK->Prop:=λx c H Q=>∃a b k y,x = .ref a/\c=[kV k,y]/\H a=ψ (.dK b)/\b.length<sizeLine /\
 (∀v,tO b k=ψ v->Q v H)/\(tO b k=ξ->Q y (f_ H a (.dK (b++[(k,y)]))))
def Qo:hQ X "dict.setdefault" F4:=by
 intro Φ s Z H x M v N Q I m n h;let⟨a,c,k,y,rfl,rfl,d,o,A,B⟩:=h;cases m;let⟨u,w,rfl,C,f⟩:=n.two;let⟨z,g,D,b,i⟩:=J8 I.hok d;have val:=b.val k;show call_meetsIn vM i.typeIs PySem.F.entry_dict_setdefault (PySem.F.args_dict_setdefault_3 _ _ _) (kt_meets_setdefault (gH X.prog X.w) a (Np C) g w)
  #[D,i,by rw[<-b.length];show z,λv E=>?_,λG J j K=>?_]
 ·rw[E] at val;cases e:tO c k with
  |none=>rw[e] at val;show(show False from val).elim
  |some l=>rw[e] at val;show#[l,H,I.tok _,val,A l e]
 ·rw[G] at val;cases e:tO c k with
  |some _=>rw[e] at val;show(show False from val).elim
  |none=>
   have L:∃q,J.get? a=ψ q:=let ⟨q,_,_,hq,_⟩:=j;#[q,hq];have r2:=b.put k f;rw[Xc y e] at r2;show#[y,_,Cd I (by rw[d];show oJ) K L (Ul (by rw[bI];show o) g r2 j),f,B e]
def EL:θ (Int×θ D)->Int->θ (Int×θ D)
 | [],k=>[(k,[])]
 | (a,b)::r,k=>if a=k then(a,b)::r else(a,b)::EL r k
def putL:θ (Int×θ D)->Int->D->θ (Int×θ D)
 | [],k,d=>[(k,[d])]
 | (a,b)::r,k,d=>if a=k then(a,b++[d])::r else(a,b)::putL r k d
section
variable{K:aL}{H₀ H H':Hp}{kvs:θ (Int×θ D)}{h9:θ (jl×V)}{as:θ Addr}{k:Int}
def Ku{v:V}(t:pj K H₀ H kvs h9 as)(e:tO h9 (eI k)=ψ v):EL kvs k=kvs:=by
 induction t with
 |nil=>cases e
 | @cons c b f g kvs h9 as h i r n t d=>
  unfold EL;by_cases a:c=k
  ·rw[υ a]
  ·rw[ω a,d (by rw[rM (λz=>a (by cases z;rfl))] at e;show e)]
def pj.there{v:V}(t:pj K H₀ H kvs h9 as)(e:tO h9 (eI k)=ψ v):∃b vs ds,v = .ref b/\b∈as/\H b=ψ (.lst vs)/\cn K H ds vs/\(∃p∈kvs,p.2=ds) /\
  ∀(H':Hp)(d:D)(w:V),c7 H H'->H' b=ψ (.lst (vs++[w]))->(∀a o,a∈as->a≠b->H a=ψ o->H' a=ψ o)->je K H' d w->pj K H₀ H' (putL kvs k d) h9 as:=by
 induction t with
 |nil=>cases e
 | @cons u b vs ds kvs h9 as h s r n t y=>
  by_cases i:u=k
  ·subst i;rw[tP rfl] at e;cases e;show#[b,vs,ds,bg,.head _,h,r,#[_,.head _,bg],λH' d w f j g l=>?_];unfold putL;rw[υ rfl];show .cons j s ((r.keep f).append (.cons l .nil)) n (t.keep f λa m o e=>g a o (.tail _ m) (by rintro rfl;show n m) e)
  ·rw[rM (λz=>i (by cases z;rfl))] at e;obtain⟨c,A,B,C,m,E,F,⟨p,G,I⟩,J⟩:=y e;show#[c,A,B,C,.tail _ m,E,F,#[p,.tail _ G,I],λH' d w f j g l=>?_];unfold putL;rw[ω i];show .cons (g b _ (.head _) (by rintro rfl;show n m) h) s (r.keep f) n (J H' d w f j (λa o q=>g a o (.tail _ q)) l)
def pj.fresh{p:Addr}(t:pj K H₀ H kvs h9 as)(e:tO h9 (eI k)=ξ)(g:c7 H H')(d:∀a o,a∈as->H a=ψ o->H' a=ψ o)(i:H' p=ψ (.lst []))(h0:H₀ p=ξ)(c:p∉as):
  pj K H₀ H' (EL kvs k) (h9++[(eI k,.ref p)]) (as++[p]):=by
 induction t with
 |nil=>show .cons i h0 .nil η .nil
 | @cons j b s u kvs h9 as h l r n t m=>
  have f:¬j=k:=λz=>by rw[tP (by rw[z])] at e;cases e
  rw[rM (λz=>f (by cases z;rfl))] at e;unfold EL;rw[ω f];rw[aV,not_or] at c;show .cons (d b _ (.head _) h) l (r.keep g) (λz=>(bQ.mp (show b∈as++[p] from z)).elim n λz=>c.1 (bR.mp z).symm) (m e (λa o q=>d a o (.tail _ q)) c.2)
def Sb{p:V}(t:pj K H₀ H kvs h9 as)(e:tO h9 (eI k)=ξ):tO (h9++[(eI k,p)]) (eI k)=ψ p:=by
 induction t with
 |nil=>show tP rfl
 | @cons c b f g kvs h9 as h i r n t d=>
  have a:¬(eI c:jl)=eI k:=λz=>by rw[tP z] at e;cases e
  rw[rM a] at e;rw[bK,rM a];show d e
theorem Xd:∀(kvs:θ (Int×θ D))(k:Int)(d:D),putL (EL kvs k) k d=putL kvs k d
 | [],k,d=>by simp[EL,putL]
 | (b,c)::r,k,d=>by
  unfold EL;by_cases a:b=k
  ·rw[υ a]
  ·rw[ω a];erw[putL,ω a];rw[Xd r k d]
theorem Hg:∀(kvs:θ (Int×θ D))(k:Int){p:Int×θ D},p∈EL kvs k->p∈kvs\/p.2=[]
 | [],k,p,h=>by rw[EL,bR] at h;subst h;show .inr rfl
 | (b,c)::r,k,p,h=>by
  unfold EL at h;by_cases a:b=k
  ·rw[υ a] at h;show .inl h
  ·rw[ω a] at h;rcases aV.mp h with h |h
   ·show .inl (h▸.head _)
   ·show(Hg r k h).imp (.tail _) id
def pj.len(t:pj K H₀ H kvs h9 as):kvs.length=h9.length:=by
 induction t with
 |nil=>rfl
 |cons _ _ _ _ _ a=>simp[a]
end
section
variable{X:Cx}{e k:Expr}{pos pos' p apos cpos iI nu tq g7:Pos}{te tk:RE}{x:Str}
def Xh(i:Nat):RS:=λE a=>E.nx (a.set i (ψ (.dcl [])))
def Zr{i:Nat}(l:X.N.Nodup)(hi:X.N[i]?=ψ x:=by rfl)(m:Loc X.env.scope x:=by walk_at "vis")(s:swapsWith (.Dict [] [] p) (ψ (.Name x pos')) pos.line X.env=pure χ:=by rfl)
  (u:X.fn x=ζ\/X.env.scope.names.lookup x=ψ .local:=by walk_at "loc"):DS X (.Assign [.Name x pos'] (.Dict [] [] p) pos) (Xh i):=
 PS.mono (Di l hi m Wo s u) λA Z H v=>pG v λd E st q n r b c=>λa f=>by
  have g:a_ H (f_ H a (.dK [])):=a_.fn λb o h=>by rw[cY (dF h f)];show h
  show n _ _ _ q (.of g) (st.put g #[a,[],[],bg,fA,st.same.free f,.nil] λc o=>?_);let⟨p,B,w,j,y⟩:=o;cases w;rw[fA] at j;cases j;rcases y with rfl | ⟨_,z⟩
  ·show f
  ·cases z
def Og(i:Nat)(tk te:RE):RS:=λE a=>match a[i]? with
 |some (ψ (.dcl b))=>tk a λc=>match c with
  | .int k=>Sz (b.length+1)/\te (a.set i (ψ (.dcl (EL b k)))) λd=>(∀p∈b,Sz (p.2.length+1))/\E.nx (a.set i (ψ (.dcl (putL b k d))))
  |_=>False
 |_=>False
def Zq(i:Nat)(hk:DE X k tk)(he:DE X e te)(hN:X.N[i]?=ψ x:=by rfl)(B:vq X.env.scope x:=by walk_at "vis")(hd:(x == ("__debug__":Str))=χ:=by decide)(nq:(x == ("__classdict__":Str))=χ:=by decide)
  (og:attributeBase (.Name x iI) "setdefault" X.env (eval (.Name x iI) X.env)=eval (.Name x iI) X.env:=by rfl)
  (ug:((backTo tq (starEach [k,.List [] g7] X.env)).all (λx=>!x.1) && (backToKw tq (keywordEach [] X.env)).all (λx=>x.1.isSome) && decide (([k,.List [] g7]:θ Expr).length+([]:θ nQ).length+(if([]:θ nQ).isEmpty then 0 else 1)<30))=ζ:=by rfl)
  (oh:(nu.endLine == tq.line)=ζ:=by rfl) (l_:starEach [k,.List [] g7] X.env=(χ,eval k X.env)::starEach [.List [] g7] X.env:=by rfl) (ui:starEach [.List [] g7] X.env=(χ,eval (.List [] g7) X.env)::starEach [] X.env:=by rfl)
  (r9:(backTo tq (starEach [.List [] g7] X.env)).any (·.1)=χ:=by rfl)
  (J_:attributeBase (.Call (.Attribute (.Name x iI) "setdefault" nu) [k,.List [] g7] [] tq) "append" X.env (eval (.Call (.Attribute (.Name x iI) "setdefault" nu) [k,.List [] g7] [] tq) X.env)=eval (.Call (.Attribute (.Name x iI) "setdefault" nu) [k,.List [] g7] [] tq) X.env:=by rfl)
  (G:((backTo cpos (starEach [e] X.env)).all (λx=>!x.1) && (backToKw cpos (keywordEach [] X.env)).all (λx=>x.1.isSome) && decide (([e]:θ Expr).length+([]:θ nQ).length+(if([]:θ nQ).isEmpty then 0 else 1)<30))=ζ:=by rfl)
  (Pi:(apos.endLine == cpos.line)=ζ:=by rfl) (hs:starEach [e] X.env=[(χ,eval e X.env)]:=by rfl) (hn:starEach [] X.env=[]:=by rfl)
  (xk:swapsWith (.Call (.Attribute (.Call (.Attribute (.Name x iI) "setdefault" nu) [k,.List [] g7] [] tq) "append" apos) [e] [] cpos) ξ pos.line X.env=pure χ:=by rfl):
  DS X (.Expr (.Call (.Attribute (.Call (.Attribute (.Name x iI) "setdefault" nu) [k,.List [] g7] [] tq) "append" apos) [e] [] cpos) pos) (Og i tk te):=by
 have I:=Gv (apos:=nu) (cpos:=tq) PySem.F.plainAttrs_dict vM PySem.F.type_dict_setdefault Qo (pv (pos:=iI) i hN B hd nq) (yW hk (yW (Wq (pos:=g7) QG) QG ui) l_) og ug oh l_ r9;show PS.mono (UR (Gv kR zT zU Au I (oQ he hs hn) J_ G Pi (by rw[hs,hn]) (by rw[hn];rfl)) xk) λDe Z H hh=>pG hh λj E so q n r bk ct=>?_;unfold Og at q;split at q
 ·rename_i f ex;let⟨v,Q,a,s,as,ev,ha,h0,t⟩:=so.rel i _ ex;subst ev;show#[.ref a,Q,.inr (.inr (.inl #[bg,.inl #[s,ha]])),j,_,so,q,λkd kv u l9 s1 rk=>?_];cases kd with
  |int k=>
   let⟨z1,q1⟩:=l9;have z1:f.length+1<=sizeLine:=z1.ok;rw[rk.int_inv];have J:=so.ext s1;have C:=s1.get _ _ ha trivial;have L:pj X.K X.H₀ u f s as:=t.same s1;show#[dZ _,λp R=>?_];have T:a_ u (f_ u p (.lst [])):=a_.fn λb o h=>(by rw[cY (dF h R)];show h);have kl:=L.len;have go:∀(b:Addr)(U:Hp)(D:θ (jl×V)),f9 X (j.set i (ψ (.dcl (EL f k)))) Z U->U a=ψ (.dK D)->tO D (eI k)=ψ (.ref b)->c7 H U ->
     iD X.K "list" (.ref b) U/\Vp X te Z U λw H3=>Of (.ref b) [w] H3 λ_ H4=>De.nx Z H4:=λb U D W lr ia x9=>by
    have g:(j.set i (ψ (.dcl (EL f k))))[i]?=ψ (ψ (.dcl (EL f k))):=gL (bF.mp ex).1;let⟨v2,g1,a',kws',kI,ry,h_,g0,t2⟩:=W.rel i _ g;rw[Q] at g1;cases g1;cases ry;rw[lr] at h_;cases h_;let⟨b',us,ds',eb,_,hb,_,_,_⟩:=t2.there ia;cases eb;show#[.inl #[bg,us,om.of hb],_,_,W,q1,λd w H3 ⟨z2,hd⟩ s3 rd=>?_];have t3:pj X.K X.H₀ H3 (EL f k) D kI:=t2.same s3;obtain⟨b',l,ds3,eb,mb,y,z7,⟨pp,pm,pe⟩,fin⟩:=t3.there ia;cases eb;have z:=s3.get _ _ lr trivial;have ne:a≠b:=(by rintro rfl;rw[z] at y;cases y);have sz:l.length<sizeLine:=by
     rw[<-z7.length,<-pe];rcases Hg f k pm with h |h
     ·show(z2 pp h).ok
     ·rw[h];show bU (CG _) z1
    show#[b,l,w,bg,bg,y,sz,?_];have A:c7 H3 (f_ H3 b (.lst (l++[w]))):=c7.chg1 y (.inl #[_,bg]);have Y:∀c,Ow H3 (.dcl (EL f k)) (.ref a) c↔(c=a\/∃k,(k,V.ref c)∈D):=λc=>#[λ⟨p',M,O,g,P⟩=>by cases O;rw[z] at g;cases g;show P,λh=>#[a,D,bg,z,h]];have ls:f_ H3 b (.lst (l++[w])) a=ψ (.dK D):=(by rw[cY ne];show z);let⟨no,k4⟩:=(W.ext s3).updW (x':=.dcl (putL f k d)) (v':=.ref a) g Q (H':=f_ H3 b (.lst (l++[w])))
     (λc o h w'=>by rw[cY (by rintro rfl;show w' ((Y _).mpr (.inr (t3.mem.mp mb))))];show h)
     #[a,D,kI,bg,ls,h0,by
      rw[<-Xd];show fin _ d w A fA (λc o _ nc h=>by rw[cY nc];show h) (rd.keep A)]
     (λc o=>.inl ((Y c).mpr (by
      let⟨p',M,O,g,P⟩:=o;cases O;rw[ls] at g;cases g;show P)))
    rw[nF Q,List.set_set] at no;show n _ _ _ hd ((x9.trans (.of s3)).trans k4) no
   show#[a,s,eI k,.ref p,bg,bg,T.get _ _ C trivial,ν,λv B=>?_,λB=>?_]
   ·let⟨b,_,_,eb,_⟩:=L.there B;subst eb;show go b _ s ?_ (T.get _ _ C trivial) B (.of (s1.trans T));rw[Ku L B,nF ex];show J.ext T
   ·have pa:p≠a:=(by rintro rfl;rw[R] at C;cases C);have np:p∉as:=λm=>(by let⟨_,us,q'⟩:=L.at m;rw[R] at q';cases q');have Y:∀c,Ow u (.dcl f) (.ref a) c↔(c=a\/∃k,(k,V.ref c)∈s):=λc=>#[λ⟨p',M,O,g,P⟩=>by cases O;rw[C] at g;cases g;show P,λh=>#[a,s,bg,C,h]];have nw:∀c o,c≠a->u c=ψ o->f_ (f_ u p (.lst [])) a (.dK (s++[(eI k,.ref p)])) c=ψ o:=λc o nc h=>(by rw[cY nc,cY (dF h R)];show h);have A:c7 u (f_ (f_ u p (.lst [])) a (.dK (s++[(eI k,.ref p)]))):=(c7.of T).trans (c7.chg1 (T.get _ _ C trivial) (.inr (.inl #[_,bg])));let⟨W,k2⟩:=J.updW (x':=.dcl (EL f k)) (v':=.ref a) ex Q (H':=f_ (f_ u p (.lst [])) a (.dK (s++[(eI k,.ref p)])))
     (λc o h w'=>nw c o (by rintro rfl;show w' ((Y _).mpr (.inl rfl))) h)
     #[a,_,_,bg,fA,h0,L.fresh B A (λc o m h=>nw c o (by rintro rfl;let⟨_,us,q'⟩:=L.at m;rw[C] at q';cases q') h) (by rw[cY pa];show fA) (J.same.free R) np]
     (λc o=>by
      let⟨p',M,O,g,P⟩:=o;cases O;rw[fA] at g;cases g;rcases P with rfl | ⟨k',m⟩
      ·show .inl ((Y _).mpr (.inl rfl))
      ·rcases bQ.mp m with m |m
       ·show .inl ((Y _).mpr (.inr #[k',m]))
       ·rw[bR] at m;cases m;show .inr R)
    rw[nF Q] at W;show go p _ _ W fA (Sb L B) ((c7.of s1).trans k2)
  |_=>show l9.elim
 ·show q.elim
def MZ:θ Int->θ D->Int->Option D
 |k'::a,d::b,k=>if k'=k then ψ d else MZ a b k
 |_,_,_=>ξ
def Zg:R22:=λx y Q=>match x,y with
 | .dct a b,.int k=>∃d,MZ a b k=ψ d/\Q d
 |_,_=>False
theorem Ue{K:aL}{H:Hp}{k:Int}:∀{ks:θ Int}{ds:θ D}{vs:θ V}{d:D},cn K H ds vs->MZ ks ds k=ψ d->∃v,tO (DN ks vs) (eI k)=ψ v/\je K H d v
 | [],_,_,_,_,e=>by simp[MZ] at e
 |k'::ks,_,_,_,.nil,e=>by simp[MZ] at e
 |k'::ks,_,_,d,.cons (v:=v) (vs:=vs) h t,e=>by
  unfold MZ at e;by_cases a:k'=k
  ·rw[υ a] at e;cases e;show#[v,tP (by rw[a]),h]
  ·rw[ω a] at e;let⟨u,b,c⟩:=Ue t e;show#[u,by show tO ((eI k',v)::DN ks vs) _=_;rw[rM (λz=>a (by cases z;rfl))];show b,c]
def O3{kk:Nat}(l:g_ kk X.A)(m:DE X a ta)(n:DE X b tb)(q:Yv b:=by intro _ _;rfl):DE X (.Subscript a b pos) (r2 Zg ta tb):=by
 show PE.mono (Ny (by have:=l.un;lia) m n q) λZ H Q h=>?_;let⟨c,P,st,s,z⟩:=h;show#[c,_,st,s,λx v I B i r1=>#[c,_,st.ext i,B,λy u C f j r2=>?_]];unfold Zg at f;split at f
 ·rename_i J K k;let⟨d,e,f⟩:=f;rw[r2.int_inv];have g:=je.keep (.of j) r1;cases g with
  | @dct a L _ _ o D M E=>
   let⟨w,F,G⟩:=Ue E e;show#[a,w,bg,.inl #[_,eI k,.inr #[o,D],bg,F.symm],z d w C f (i.trans j) G]
 ·show f.elim
end
end
section
open PySem PySem.Spec PyProof.Rows L2 PySem.W
def HS{ns:θ Int}(h:IntsAre us ns):c9 (ns.map V.int) us:=by
 induction h with
 |nil=>show .nil
 |cons _ t h a=>show .cons #[_,bg] a
def Qh(ks:θ Int)(vs:θ V):(DN ks vs).length=min ks.length vs.length:=List.length_zipWith
theorem Bj:∀(ks:θ Int)(vs:θ V)(ws:θ (jl×aF)),ks.length=vs.length->KV (DN ks vs) ws->∀us:θ aF,us.length=ks.length ->
  (∀(j:Nat)(v:aF),us[j]?=ψ v->∃k x,ws[j]?=ψ (k,x)/\(gH P w).is k v=ζ)->c9 (ks.map V.int) us
 | [],_,_,_,_,us,h,_=>by rw[gC.mp h];show .nil
 |k::ks,[],_,h,_,_,_,_=>by cases h
 |k::ks,v::vs,ws,f,r,us,h,q=>by
  cases us with
  |nil=>cases h
  |cons u us=>
   cases r with
   | @cons _ b _ bs g t=>
    show .cons ?_ (Bj ks vs bs (~~~f) t us (~~~h) λj v e=>q (j+1) v (~~~e));let⟨l,x,e,i⟩:=q 0 u rfl;cases e;rw[<-show(eI k:jl)=l from g.1] at i;rcases lT (show WO (eI k) u=ζ from i) with⟨m,c,a,d⟩ | ⟨y,c,a,d⟩
    ·cases a;show#[c,d]
    ·cases a
def XU(d:RE):RA:=λa Q=>d a λx=>∃b:θ Int,x = .lst (b.map .int)/\b.length<64/\∀c:θ Int,c.Perm b->c.Pairwise (·<=·)->Q (c.map .int)
def La(d:RE):RA:=λa Q=>d a λx=>∃b:θ (θ Int),x = .lst (b.map qJ)/\b.length<64/\(∀e∈b,e≠[])/\∀c:θ (θ Int),c.Perm b->c.Pairwise (λx y=>oO y x=χ)->Q (c.map qJ)
def Kz(d:RE):RA:=λa Q=>d a λx=>∃(b:θ Int)(c:θ D),x = .dct b c/\b.length=c.length/\Q (b.map .int)
section
variable{p pos:Pos}
def Fj(F:X.mg "sorted" = ξ)(h:DB X e te)(G:Gl X "sorted":=by rfl)(D:starEach [e] X.env=[(χ,eval e X.env)]:=by rfl)(w:starEach [] X.env=[]:=by rfl):
  DO X (.Call (.Name "sorted" p) [e] [] pos) (XU te):=by
 intro Φ s Z H Q I J;let⟨d,P,st,q,L⟩:=J;show fF (oA I G F boot_sorted ?_);show kJ (i0 (oQ h D w pos Φ s Z H (λy k=>∃(f:θ Int)(v:V),y=[v]/\a_ H k/\j2 X.K k (.lst (f.map .int)) v/\f.length<64/\∀g:θ Int,g.Perm f->g.Pairwise (·<=·)->P (g.map .int)) I
  #[d,_,st,q,λx v k M i r1=>?_]) λus i ⟨y,k,A,r1,N⟩=>?_) (by rw[D,w]) (by rw[w];rfl)
 ·let⟨f,rfl,B,n⟩:=M;show#[f,v,bg,i,r1,B,n]
 let⟨f,v,rfl,O,R,wf,T⟩:=N;let⟨l,y,rfl,U,W⟩:=R.lst;let⟨u,rfl,Y⟩:=vals1 r1;cases Y;let⟨m,C,pl,hz⟩:=A.list U;have E:=C.length;rw[W.ints_inv] at C E;rw[aJ] at E;show sorted_ints pl.isList (intsAre_of C) ν λj g B n a3=>?_;let⟨c,he⟩:=sortedAll_at i.heap m j;have VV:=HS B;have lw:g.length=f.length:=n.length_eq;have I4:=A.laid (a:=i.z+1) (o:=.lst (g.map V.int)) (h':=sortedAll i.heap m j) (t':=i.toks) (λb o=>sortedAll_old) (sI _) #[by rw[aJ,gX];lia,j.toList,c,VV,~~~he];show#[.ref (i.z+1),_,I4,bg,L _ _ _ k (T g n a3) O (A.hok.fresh (sI _)) cn.ints]
def Us(R_:X.mg "sorted" = ξ)(h:DB X e te)(N_:Gl X "sorted":=by rfl)(hs:starEach [e] X.env=[(χ,eval e X.env)]:=by rfl)(T:starEach [] X.env=[]:=by rfl):
  DO X (.Call (.Name "sorted" p) [e] [] pos) (La te):=by
 intro Φ s Z H Q I e9;let⟨z,P,st,q,kq⟩:=e9;show fF (oA I N_ R_ boot_sorted ?_);show kJ (i0 (oQ h hs T pos Φ s Z H (λM E=>∃(f:θ (θ Int))(v:V),M=[v]/\a_ H E/\j2 X.K E (.lst (f.map qJ)) v/\f.length<64/\(∀B∈f,B≠[])/\∀k:θ (θ Int),k.Perm f->k.Pairwise (λx y=>oO y x=χ)->P (k.map qJ)) I
  #[z,_,st,q,λx v E hx A r1=>?_]) λus A ⟨M,E,N,r1,U⟩=>?_) (by rw[hs,T]) (by rw[T];rfl)
 ·let⟨f,rfl,a1,a2,a3⟩:=hx;show#[f,v,bg,A,r1,a1,a2,a3]
 let⟨f,v,rfl,qw,rb,wf,oi,hP⟩:=U;let⟨l,M,rfl,hq,rr⟩:=rb.lst;let⟨u,rfl,rx⟩:=vals1 r1;cases rx;let⟨g,rv,pl,hz⟩:=N.list hq;have l1:=rr.length;have l2:=rv.length;rw[aJ] at l1;have D:∀(i:Nat)(u:aF),g[i]?=ψ u->∃B a,f[i]?=ψ B/\M[i]?=ψ (.ref a)/\u = .ref a/\E a=ψ (.tup (B.map V.int))/\IsTupleKey (intKind X.prog X.w) A.heap B a:=λi u e=>by
  have hi:i<f.length:=by have:=(bF.mp e).1;lia
  let⟨v,e1,e2⟩:=rr.get (i:=i) (d:=qJ f[i]) (by rw[bC,aG hi];rfl);let⟨a,rfl,O⟩:=cn.tupI_inv e2;let⟨u',f1,f2⟩:=rv.get e1;rw[e] at f1;cases f1;cases f2;let⟨ts,J,F,_⟩:=N.tuple (m7.of (K:=X.K) O);let⟨o,go,gc,n,gd⟩:=F;show#[_,a,aG hi,e1,bg,O,o,ts.toArray,n,go,gc,gd,~~~WL J]
 show yJ kind_sorted plain_sorted entry_sorted (args_sorted1 _) ?_;unfold Builtin.«sorted»;show aD (m:=checkCount "sorted" 1 1 _) (aP ?_);apply aD;show collect_list pl.isList ?_ (by rw[gX];lia);apply aD;show JM ?_ (by rw[gX];lia);generalize L:(A.heap.push (seqObj "list" (LE []) 0)).update A.z (fE (· ++ g.toArray))=C;have k1:∀b o,A.heap.get? b=ψ o->C.get? b=ψ o:=λb o e=>by rw[<-L,Heap.get?_update_ne _ _ _ _ (bP (bG e))];show aR _ e
 have big:A.z<=C.objs.size:=by rw[<-L,Heap.size_update,size_push'];show sI _
 show wpAny _ _ _ _ _ {A with heap:=C.push (seqObj "list" g.toArray 0)};have W:(C.push (seqObj "list" g.toArray 0)).get? C.objs.size=ψ (seqObj "list" g.toArray 0):=bT _ rfl;have Y:∀b o,A.heap.get? b=ψ o->(C.push (seqObj "list" g.toArray 0)).get? b=ψ o:=λb o e=>aR _ (k1 b o e);generalize C.push (seqObj "list" g.toArray 0)=h2 at W Y;have KA:oj X.prog X.w h2 g f:=by
  show#[ν,λi v e=>?_];let⟨B,a,n1,n2,R,_,o,xo,m,J,F⟩:=D i v e;have:f.getD i []=B:=by rw[cC,n1];rfl
  rw[this];show#[a,R,o,xo,m,Y _ _ J,F]
 show aD (fS (jJ slot_list_sort #[_,W,bg] entry_list_sort ?body (VO _)))
 case body=>
  show Bd (s:={A with heap:=h2}) W KA oi ν λh3 G k c J F g3 g4 g5 g6=>?_;have kp:∀b o,A.heap.get? b=ψ o->h3.get? b=ψ o:=λb o e=>g6 b o (bP (bU (bG e) big)) (Y b o e);let⟨ws,VV,RR⟩:=XZ (K:=X.K) (H:=E) G k F.1 λi v e=>by
   let⟨j,hj,ej⟩:=dS (g3 v (bJ e));let⟨B,a,n1,n2,R,O,hk⟩:=D j v (by rw[aG hj,ej]);let⟨b,eb,hb⟩:=F.2 i v e;rw[R] at eb;cases eb;show#[a,R,?_];have j5:IsTupleKey (intKind X.prog X.w) h3 B a:=(by let⟨o,xo,n,U,q2⟩:=hk;show#[o,xo,n,kp _ _ U,q2]);rw[hb.inj j5];show O
  have lw:=VV.length;have lo:G.length<64:=by rw[F.1,g4.length_eq];show wf
  have I4:=N.laid (a:=C.objs.size) (o:=.lst ws) (h':=h3) (t':=A.toks) kp big #[by rw[gX];lia,G,c,VV,J];show#[_,bg,aP #[_,bg,.ref C.objs.size,_,I4,bg,kq _ _ _ E (hP k g4 g5) qw (N.hok.fresh big) RR]]
def Ur(J:X.mg "list" = ξ)(L:X.calm=ζ)(h:DE X e te)(y:Gl X "list":=by rfl)(C:starEach [e] X.env=[(χ,eval e X.env)]:=by rfl)(A:starEach [] X.env=[]:=by rfl):
  DO X (.Call (.Name "list" p) [e] [] pos) (Kz te):=by
 intro Φ s Z H Q I M;let⟨b,P,st,q,N⟩:=M;show fF (oA I y J boot_list ?_);show dE (i0 (oQ h C A pos Φ s Z H (λk g=>∃(d:θ Int)(l:θ D)(v:V),k=[v]/\a_ H g/\je X.K g (.dct d l) v/\P (d.map .int)) I
  #[b,_,st,q,λx v g O m r1=>?_]) λus m ⟨k,g,n,r1,R⟩=>?_) (by rw[C,A]) (by rw[A];rfl)
 ·let⟨d,l,rfl,a1,T⟩:=O;show#[d,l,v,bg,m,r1,T]
 let⟨d,l,v,rfl,U,W,Y⟩:=R;let⟨u,rfl,rx⟩:=vals1 r1;cases W with
 | @dct a k _ _ o ha E rr=>
  cases rx;let⟨z,hd,B,i,dd⟩:=Mz n.hok (.inr #[o,ha]);have le:=i.length;let⟨ep,da⟩:=dd.dictAt;show kdl_call (kdl_dict (knd:=gH X.prog X.w) (kvs:=B) (ep:=ep) hd) (n.ok.hd L) da (by rw[<-le];show z) λh' tk f c kp g1 F=>?_;have G:d.length=B.length:=by rw[<-le,Qh,<-E,wS]
  have VV:c9 (d.map V.int) f.toList:=Bj d k B E i f.toList (by rw[dA,F.1];show G.symm) λj v e=>F.2 j v (~~~e);have I4:=n.laid (a:=m.z) (o:=.lst (d.map V.int)) (h':=h') (t':=tk) kp (aY _) #[by rw[aJ,G,<-le];show z,f.toList,c,VV,~~~g1];show#[.ref m.z,_,I4,bg,N _ _ _ g Y U (n.hok.fresh (aY _)) cn.ints]
end
end
section
open PySem PySem.Spec PyProof.Rows L2
def TU(l:Addr)(items:Array aF)(n:Nat)(b:Addr)(a:Array aF)(j:Nat)(k:Array (Option aF))(m:¬(!items.isEmpty && nJ (items.size+a.size))=ζ)(c:items.size<=sizeLine)(o:items.size+a.size<=sizeLine+1):
  Meets (Builtin.«list.extend» #[[.ref l,.ref b],[]]) (λ_ R s=>s.heap.get? l=ψ {cls:=.type "list",dict:=ξ,data:=.seq items n,slots:=(LE [])}/\s.heap.get? b=ψ {cls:=.type "list",dict:=ξ,data:=.seq a j,slots:=k}/\R (.ok (.ret eU)) {s with heap:=s.heap.update l (fE λx=>x++a),toks:=s.toks}):=
 .of_wp λf w A R s h=>by
  let⟨u,g,d,v,os⟩:=s;let⟨i,q,h⟩:=h;have e:(items++a).size<=sizeLine+1:=by rw[Array.size_append];show o
  wp_walk using(lB i rfl (hz:=c) (_hz':=e)),oZ i,oZ q;show#[_,bg,h]
def Xi(K:aL):V->θ V->Hp->VK->Prop:=λx d H Q=>∃l b a c,x = .ref l/\d=[.ref b]/\H l=ψ (.lst a)/\om K H b c/\a.length+c.length<=sizeLine/\Q .non (f_ H l (.lst (a++c)))
section
variable{pos apos cpos iI p2 p3 p4:Pos}{te:RE}{x:Str}
def Ke:i7 X "list.extend" (Xi X.K):=by
 intro Φ s Z H x G v J Q I m w h;let⟨l,b,L,M,rfl,rfl,g,hB,N,q⟩:=h;cases m;let⟨u,rfl,y⟩:=w.one;cases y;let⟨z,a,n,r,O,e⟩:=I.lstM g;let⟨d,r2,A,P⟩:=I.list hB;have R:=r2.length;let⟨o,B,C,i,j,k⟩:=A;let⟨T,U,D,E⟩:=o;dsimp only at i j k;subst i j k;have f:a.toArray.size+d.toArray.size<=sizeLine:=by rw[aZ,aZ];lia
 have c:¬(!a.toArray.isEmpty && nJ (a.toArray.size+d.toArray.size))=ζ:=by
  rw[Wb f,xI];show cL
 show xU F.slot_list_extend #[_,e,bg] F.entry_list_extend (F.args_list_extend_2 _ _)
  (TU l a.toArray n b d.toArray B E c (by rw[aZ];lia) ν) #[e,C,?_]
 show#[.non,_,I.lset (its':=a++d) g e η (r.append r2) ?_,bg,q];rw[bI];lia
def GC(i:Nat)(te:RE):RS:=λE a=>match a[i]? with
 |some (ψ (.own b))=>te a λd=>match d with
  | .lst c=>Sz (b.length+c.length)/\E.nx (a.set i (ψ (.own (b++c))))
  |_=>False
 |_=>False
def HH(i:Nat)(z:DE X e te)(A:X.N[i]?=ψ x:=by rfl)(B:vq X.env.scope x:=by walk_at "vis")(c:(x == ("__debug__":Str))=χ:=by decide)(C:(x == ("__classdict__":Str))=χ:=by decide)
  (D:attributeBase (.Name x iI) "extend" X.env (eval (.Name x iI) X.env)=eval (.Name x iI) X.env:=by rfl)
  (G:((backTo cpos (starEach [e] X.env)).all (λx=>!x.1) && (backToKw cpos (keywordEach [] X.env)).all (λx=>x.1.isSome) && decide (([e]:θ Expr).length+([]:θ nQ).length+(if([]:θ nQ).isEmpty then 0 else 1)<30))=ζ:=by rfl)
  (I:(apos.endLine == cpos.line)=ζ:=by rfl) (l:starEach [e] X.env=[(χ,eval e X.env)]:=by rfl) (h:starEach [] X.env=[]:=by rfl) (J:swapsWith (.Call (.Attribute (.Name x iI) "extend" apos) [e] [] cpos) ξ pos.line X.env=pure χ:=by rfl):
  DS X (.Expr (.Call (.Attribute (.Name x iI) "extend" apos) [e] [] cpos) pos) (GC i te):=by
 show PS.mono (UR (Gv kR PySem.F.slot_list_extend PySem.F.type_list_extend Ke (pv i A B c C) (oQ z l h) D G I (by rw[l,h]) (by rw[h];rfl)) J) λV Z H K=>pG K λa E j q n r bk W=>?_;unfold GC at q;split at q
 ·rename_i L m;let⟨v,o,p,s,M,u,O,w⟩:=j.rel i _ m;subst M;show#[.ref p,o,.inl #[bg,s,om.of u],a,_,j,q,λd v Y c f g=>?_];have y:=f.get _ _ u trivial;cases d with
  |lst P=>
   cases g with
   | @lst b Q _ R g=>
    let⟨T,U⟩:=(j.ext f).upd_own m o y O ((w.keep (.of f)).append g);have k:L.length+P.length<=sizeLine:=c.1.ok;show#[p,b,s,Q,bg,bg,y,R.sq,by rw[<-w.length,<-g.length];show k,n _ _ _ c.2 ((c7.of f).trans U) T]
  |_=>show c.elim
 ·show q.elim
def alt{α:Type}:θ α->θ α
 | []=>[]
 | [x]=>[x]
 |x::_::r=>x::alt r
theorem Mc{α:Type}:∀(l:θ α)(i:Nat),(alt l)[i]?=l[2*i]?
 | [],i=>by simp[alt]
 | [x],0=>rfl
 | [x],i+1=>by simp[alt]
 |x::y::r,0=>rfl
 |x::y::r,i+1=>by
  rw[alt,aB,Mc r i,show 2*(i+1)=2*i+1+1 by lia,aB,aB]
theorem UH{α:Type}:∀(l:θ α),(alt l).length=(l.length+1) / 2
 | []=>by simp[alt]
 | [x]=>by simp[alt]
 |x::y::r=>by rw[alt,aT,UH r];erw[aT];lia
def N8{α:Type}(l:θ α):(alt l).length<=l.length:=by rw[UH];lia
theorem Dy{α:Type}{P:θ α->Prop}(h0:P [])(c:∀a,P [a])(d:∀a b l,P l->P (a::b::l)):∀l,P l
 | []=>h0
 | [a]=>c a
 |a::b::l=>d a b l (Dy h0 c d l)
def cn.alt{K:aL}{H:Hp}{c:θ D}{vs:θ V}(h:cn K H c vs):cn K H (alt c) (L2.R2.alt vs):=by
 show Dy (P:=λc=>∀vs,cn K H c vs->cn K H (L2.R2.alt c) (L2.R2.alt vs)) ?_ ?_ ?_ c vs h
 ·intro vs h;cases h;show .nil
 ·intro a vs h;cases h with |cons r t=>cases t;show .cons r .nil
 ·intro a b l d vs h;cases h with |cons r t=>cases t with |cons _ t=>show .cons r (d _ t)
def c9.alt(h:c9 vs us):c9 (alt vs) (L2.R2.alt us):=by
 show Dy (P:=λvs=>∀us,c9 vs us->c9 (L2.R2.alt vs) (L2.R2.alt us)) ?_ ?_ ?_ vs us h
 ·intro vs h;cases h;show .nil
 ·intro a vs h;cases h with |cons r t=>cases t;show .cons r .nil
 ·intro a b l c vs h;cases h with |cons r t=>cases t with |cons _ t=>show .cons r (c _ t)
def Ws(its:θ aF)(k:Nat)(lo:Option Int)(f:(lo=ξ/\k=0)\/(lo=ψ 1/\k=1)):slicePick its.toArray lo ξ (ψ 2)=(alt (its.drop k)).toArray:=by
 have e:(sliceBounds lo ξ (ψ 2) its.toArray.size)=(((min k its.length:Nat):Int),(its.length:Int),2):=by
  rcases f with⟨rfl,rfl⟩ | ⟨rfl,rfl⟩
  ·simp[sliceBounds]
  ·simp[sliceBounds];cases its with
   |nil=>rfl
   |cons a l=>rw[aT,rP (CG _),show min (1:Int) ((l.length+1:Nat):Int)=1 from DH (Int.ofNat_le.mpr (CG _))];rfl
 unfold slicePick;rw[e];congr 1;fail;have c:(if(2:Int) > 0 then(if((min k its.length:Nat):Int)<(its.length:Int) then((its.length:Int)-(min k its.length:Nat)+2-1) / 2 else 0) else(if((min k its.length:Nat):Int) > (its.length:Int) then(((min k its.length:Nat):Int)-(its.length:Int)-2-1) / (-2) else 0)).toNat=(alt (its.drop k)).length:=by
  rw[UH,gR,υ μ];rcases MK k its.length with h |h
  ·rw[rP (kM h),υ (Int.ofNat_lt.mpr h),show(its.length:Int)-k+2-1=((its.length-k+1:Nat):Int) by lia];rfl
  ·rw[Nat.min_eq_right h,ω (uS _),Nat.sub_eq_zero_of_le h];rfl
 unfold sliceRange;fail;rw[c];show sU λi=>?_;have b:∀(n:Nat),n<=(alt (its.drop k)).length->((cF n).map λ(j:Nat)=>(((min k its.length:Nat):Int)+2*(j:Int)).toNat).filterMap (its.toArray[·]?)=(alt (its.drop k)).take n:=by
  intro n
  induction n with
  |zero=>intro _;rfl
  |succ n g=>
   intro h;rw[fP,aX,EC,g (Nat.le_of_succ_le h),gD];congr 1;rw[UH,gR] at h;have d:k+2*n<its.length:=ν;simp only[aN,cD,rP (kM (sB (Nat.le_add_right k _) d)),show((k:Int)+2*(n:Int)).toNat=k+2*n from rfl];rw[Mc,xQ];simp[d]
 rw[b _ (aY _),jH]
def Rl(k:Nat)(te:RE):RA:=λa Q=>te a λx=>match x with
 | .lst b=>Q (alt (b.drop k))
 |_=>False
def Uq{lo:Option Expr}(h:DB X e te)(J:∀(H:Hp),PO X lo (λZ H Q=>Q l H))(L:(l=ξ/\k=0)\/(l=ψ 1/\k=1)):
  DO X (.Subscript e (.Slice lo ξ (ψ (.Constant (.int 2) j p3)) p2) pos) (Rl k te):=by
 intro Φ s Z H Q I M;let⟨d,P,st,q,N⟩:=M;show Subscript_ (i0 (h Φ s Z H (λv f=>∃g,a_ H f/\j2 X.K f (.lst g) v/\P (alt (g.drop k))) I #[d,_,st,q,λx v f E A r1=>?_]) λv A ⟨x,f,O,r1,R⟩=>?_)
 ·cases x with
  |lst g=>show#[g,A,r1,E]
  |_=>show E.elim
 let⟨g,T,U,V⟩:=R;let⟨a,W,rfl,Y,rr⟩:=U.lst;cases r1;show wpAny_Slice (i0 (J f Φ A Z f (λo y=>o=l/\y=f) O #[bg,bg]) λF s2 B=>?_);let⟨l',y,I2,pl,e1,e2⟩:=B;subst e1 e2;rw[IN];show aP ?_;show i0 (Dh (Kl (X:=X) (i:=2) (j:=j) (pos:=p3)) Φ s2 Z y (λo H3=>o=ψ 2/\H3=y) I2 #[2,bg,bg,bg]) λm c B=>?_;let⟨o3,H3,I3,C,e3,e4⟩:=B;subst e3 e4;have D:Inv X Φ Z H3 {c with heap:=c.heap.push {cls:=.type "slice",data:=.fields (LE [F,.none,m])}}:=I3.kept (t':=c.toks) λb ob q=>aR _ q;let⟨n,G,u,hz⟩:=D.list Y;have w:=G.length;show Δ X (subscriptTail e (.Slice lo ξ (ψ (.Constant (.int 2) j p3)) p2) (.ref a) (.ref c.z)) (EP X Φ Z Q) X.xe {c with heap:=c.heap.push {cls:=.type "slice",data:=.fields (LE [F,.none,m])}};show tail_any (ops:=[.ref a,.ref c.z]) u.isList.typeIs PySem.slot_list_getitem.lookup ?_ (by with_unfolding_all rfl);show AE u.isList (JS ..) pl .none C μ ?_ (by rw[aZ,<-w];show hz);rw[Ws n k l' L];have VV:c9 (alt (W.drop k)) (alt (n.drop k)):=c9.alt (c9.drop k G);have I5:=D.lnew (t':=c.toks) VV (dY (N8 _) (by rw[gR];lia));show#[.ref _,_,I5,bg,N _ _ _ H3 V T D.fresh (cn.alt (rr.drop k))]
def Zo(h:DB X e te):DO X (.Subscript e (.Slice ξ ξ (ψ (.Constant (.int 2) j p3)) p2) pos) (Rl 0 te):=
 Uq h (λH Φ s Z a Q I q=>Oa Φ s Z a Q I q) (.inl #[bg,bg])
def Zp(h:DB X e te):DO X (.Subscript e (.Slice (ψ (.Constant (.int 1) j' p4)) ξ (ψ (.Constant (.int 2) j p3)) p2) pos) (Rl 1 te):=
 Uq h (λH Φ s Z a Q I q=>Dh (Kl (X:=X) (i:=1) (j:=j') (pos:=p4)) Φ s Z a Q I #[1,bg,q]) (.inr #[bg,bg])
end
def Rz{P:cB}{w:dD}{K:aL}{G:Expr}(a:Addr)(lo:Int)(n:Nat):uf P w K G (Cb lo n) [a] a (λi h=>IsLongIter h a (lo+(i:Nat)*1) ((n:Int)-(i:Nat)) 1) where
 mem:=η
 obj:=λi h st b c=>by
  have e:b=a:= ~~~c
  subst e;show#[_,st,λv z=>by have J:ER _=ZT v:=z;cases J]
 keep:=λi h d st k=>k a η _ st
 item:=by
  intro X g j l m i Φ s Z H E I f st q;subst g j l;let⟨u,y,L,A,B,C⟩:=f a η;have W:=Walks.longrange (prog:=X.prog) (w:=X.w) (I.ok.hd m) a lo 1 n;show W.item i s _ _ q st λv d D M F kk=>?_;let⟨t,rfl⟩:=M;have N:Inv X Φ Z H {s with heap:=d,toks:=D}:=I.turned (λb o c e=>kk b o (~~~c) e) u y A B C;show#[_,bg,Fv (s:={s with heap:=d,toks:=D}) (n:="longrange_iterator") F rfl rfl μ #[.int (lo+i),H,N,#[t,by rw[QX]],#[bg,bg],F,λb c=>(f b c).1]]
 done:=by
  intro X g j l m i Φ s Z H E I f st q;subst g j l;let⟨u,y,L,A,B,C⟩:=f a η;show wpAny_pyNext_long_end (I.ok.hd m) st (by have:n<=i:=q;lia) λd O=>#[bg,I.turned (t':=s.toks) (λb o c e=>O b o c e) u y A B C]
 self:=λ_ _ _ _ _ st h=>wpAny_pyIter_longiter st h
def W5(a b:Int):fJ a b 1=((b-a).toNat:Int):=by
 unfold fJ;erw[show(1:Int) > 0 by decide,if_true];split <;> lia
section
variable{X:Cx}{tg:Expr}
def P5{Z:St}{s:aK}{lo hi:Int}{t u v:Tok}(I:Inv X Φ Z H s)
  (q:R (Cb lo (hi-lo).toNat) H):Δ X (pyIter (.ref s.z)) (i9 X Φ Z tg R) E {s with heap:=s.heap.push {cls:=.type "range",data:=.fields (LE [.int lo t,.int hi u,.int 1 v])},toks:=tk}:=by
 have a:Inv X Φ Z H {s with heap:=s.heap.push {cls:=.type "range",data:=.fields (LE [.int lo t,.int hi u,.int 1 v])},toks:=tk}:=I.kept λb o e=>aR _ e;have d:lo+((0:Nat):Int)*1=lo:=η
 have f:(((hi-lo).toNat:Nat):Int)-((0:Nat):Int)=fJ lo hi 1:=by rw[W5];simp
 have c:=QY s.heap lo hi 1 t u v;generalize s.heap.push {cls:=.type "range",data:=.fields (LE [.int lo t,.int hi u,.int 1 v])} = h1 at a c⊢;have g:=λ(o:Obj)=>a.kept (h':=h1.push o) (t':=tk) λb o e=>aR _ e;have h:∀b∈[h1.objs.size],JR X Φ H b:=λb i=>by rw[bR.mp i];show a.fpOk (aY _) (a.hok.fresh (aY _))
 cases hs:Builtin.Range.small lo hi 1 with
 |false=>
  show wpAny_pyIter_longrange c hs #[h1.objs.size,[h1.objs.size],_,_,H,bg,g _,Rz _ lo (hi-lo).toNat,?_,h,q];show IsLongIter _ _ (lo+((0:Nat):Int)*1) ((((hi-lo).toNat:Nat):Int)-((0:Nat):Int)) 1;rw[d,f];show bT _ rfl
 |true=>
  show LS c hs #[h1.objs.size,[h1.objs.size],_,_,H,bg,g _,YF _ lo (hi-lo).toNat,?_,h,q];show IsRangeIter _ _ (lo+((0:Nat):Int)*1) ((((hi-lo).toNat:Nat):Int)-((0:Nat):Int)) 1;rw[d,f];show bT _ rfl
def Xu(t:RA):RA:=λa Q=>t a λb=>match b with
 | [.int i,.int j]=>Q (lQ i (j-i).toNat)
 |_=>False
def O5{a b:Expr}{t:RA}{p pos:Pos}(n:X.mg "range" = ξ)(o:DA X [a,b] t)(u:Gl X "range":=by rfl)(v:starEach [a,b] X.env=[(χ,eval a X.env),(χ,eval b X.env)]:=by rfl)(l:starEach [b] X.env=[(χ,eval b X.env)]:=by rfl):
  DI X tg (.Call (.Name "range" p) [a,b] [] pos) (Xu t):=by
 intro Φ s Z H R I w;let⟨c,P,st,q,k⟩:=w;show Call_ (oA I u n KL (dE (i0 (o pos Φ s Z H (λf d=>∃i j:Int,f=[.int i,.int j]/\a_ H d/\P (lQ i (j-i).toNat)) I #[c,_,st,q,λC f d g m r=>?_]) λD m ⟨f,d,y,r1,z⟩=>?_) (by rw[v,l]) (by rw[l];rfl)))
 ·split at g
  ·rename_i i j;rw[cn.ints_inv (ns:=[i,j]) r];show#[i,j,bg,m,g]
  ·show g.elim
 let⟨i,j,e,A,q⟩:=z;subst e;cases r1 with
 |cons r h=>
  cases h with
  |cons B h=>
   cases h;let⟨t,rfl⟩:=r;let⟨E,rfl⟩:=B;show call_range_2 (P5 y (k _ _ d q A (Jv i _)))
def Z6:R22:=λx y Q=>match x,y with
 | .bl a,.bl b=>Q (.int ((if a then 1 else 0)-(if b then 1 else 0)))
 |_,_=>False
end
end
end L2.R2
namespace HT
open PySem PyProof.Rows
def Xo(A:dG)(s:aK)(a:Int)(t:Tok)(c:Int)(u:Tok)(prog:cB)(w:dD)(E:aF->aK->Prop)(Q:aF->aK->Prop)(h:Q (.bool (decide (c<a))) s):
  Γ prog w A (richCompare .Gt (.int a t) (.int c u)) Q E s:=
 (PyProof.Rows.gt_int h:Γ prog w A (compareOp .Gt (.int a t) (.int c u)) Q E s)
section
open PySem.SeqAt
open PySem.AutoSeq1 (wpAny_loadPart')
open PySem.MeetsSeq PySem.MeetsSeq2 PySem.MeetsSeq3
def ZQ(l b:Addr)(items o:Array aF)(n N:Nat)(O P:Option Addr)(Q T:Array (Option aF))(ns z:θ Int)(hi:IntsAre items.toList ns)(K:IntsAre o.toList z):
  Meets (Builtin.«tuple.__gt__» #[[.ref l,.ref b],[]])
   (λ_ R s=>s.heap.get? l=ψ {cls:=.type "tuple",dict:=O,data:=.seq items n,slots:=Q}/\s.heap.get? b=ψ {cls:=.type "tuple",dict:=P,data:=.seq o N,slots:=T} /\
    R (.ok (.ret (.bool (lexLt z ns)))) s):=
 .of_wp λk w A R s h=>by
  let⟨B,g,d,C,os⟩:=s;let⟨U,V,h⟩:=h;have f2:=zK;have z1:items.size=ns.length:=by rw[<-hi.length];simp
  have z2:o.size=z.length:=by rw[<-K.length];simp
  wp_walk using oZ U,oZ V,qX _ (λrest b G=>b.1=ξ/\G=#[B,g,d,C,os]/\∃(D E:θ aF)(i v:θ Int),rest=D.zip E /\
   IntsAre D i/\IntsAre E v/\i.length+o.size=v.length+items.size/\R (.ok (.ret (.bool (lexLt v i)))) #[B,g,d,C,os]) _
  case turn=>
   rintro⟨y,x⟩ rest b G ⟨H,rfl,D,E,i,v,j,I,F,f,m⟩;cases I with
   |nil=>rw[MG] at j;cases j
   |cons a t W=>
    cases F with
    |nil=>rw[JZ] at j;cases j
    |cons c u X=>
     rw[oH] at j;injection j with j7 xj;injection j7 with hy hx;subst hy hx;rw[lexLt_cons] at m;erw[aT] at f;let⟨e,Y,L⟩:=Fp A.in1 #[B,g,d,C,os] a t c u;show aD (Y k w _ _ ?_);cases e with
     |true=>
      rw[υ (L.mp rfl).symm] at m
      wp_walk
      show#[bg,bg,_,_,_,_,xj,W,X,ν,m]
     |false=>
      rw[ω (λq=>Ω (L.mpr q.symm) cL)] at m;have J:=Xo A.in1 #[B,g,d,C,os] a t c u k w
      wp_walk using J
      show#[_,bg,~~~m]
  case fin=>
   rintro⟨b1,b2⟩ G ⟨H,rfl,D,E,i,v,j,I,F,f,m⟩;simp only at H;subst H;have M:lexLt v i=decide (o.size<items.size):=by
    cases I with
    |nil=>
     cases F with
     |nil=>
      erw[cK] at f;rw[IT];show(decide_eq_false ν).symm
     |cons c u Z=>
      erw[cK,aT] at f;rw[FO];show(decide_eq_false ν).symm
    |cons a t M=>
     cases F with
     |nil=>
      erw[cK,aT] at f;rw[FP];show(decide_eq_true ν).symm
     |cons c u Z=>
      rw[oH] at j;cases j
   rw[M] at m
   wp_walk
   show#[_,bg,by simpa [tU] using m]
  case h=>
   show#[bg,bg,items.toList,o.toList,ns,z,bg,hi,K,ν,h]
end
section
variable{s:aK}
def gt_tupInts{ns a:θ Int}(m:IsTup s.heap l items)(o:IsTup s.heap b g8)(hi:IntsAre items.toList ns)(q:IntsAre g8.toList a)
  (u:A.units<cLine) (h:Q (.bool (lexLt a ns)) s):Γ prog w A (compareOp .Gt (.ref l) (.ref b)) Q E s:=by
 obtain⟨⟨v,y,d,z⟩,e,f,n,g⟩:=id m;obtain⟨⟨i,B,data2,C⟩,j,k,D,c⟩:=id o;simp only at f g k c;subst f g k c;show CW (op:=.Gt) #[_,e,bg] #[_,j,bg] PySem.F.slot_tuple_gt PySem.F.entry_tuple_gt (PySem.F.args_tuple_gt_2 _ _) (ZQ l b items g8 n D y B z C ns a hi q)
  #[e,j,show CK (lexLt a ns)≠FF/\Q (.bool (lexLt a ns)) s from#[(λx=>nomatch x),h]] u
end
end HT
namespace L2.R2
section
open PySem PySem.Spec PyProof.Rows L2
section
variable{s:aK}
def C0(m:Bool)(a b:aF):builtinKind (xt m)=ξ/\plainId (xt m)=ζ/\entryFor table (xt m)=ψ (cond m Builtin.max Builtin.min)/\argsOk (xt m) ⟨[a,b],[]⟩:=by
 cases m
 ·show#[F.kind_min,F.plain_min,F.entry_min,F.args_min2 _ _]
 ·show#[F.kind_max,F.plain_max,F.entry_max,F.args_max2 _ _]
def Sx(m:Bool){G:Heap->Prop}(l:A.handled=ξ)
  (d:∀(i j:Nat)(u v:aF)(s:aK)(Q:aF->aK->Prop)(E:aF->aK->Prop),((LE [a,b]):Array aF)[i]?=ψ u->((LE [a,b]):Array aF)[j]?=ψ v->G s.heap->Q (.bool (bt i j)) s->Γ prog w A.in1 (richCompare (el m) u v) Q E s)
  (n:∀h',(∀b o,s.heap.get? b=ψ o->h'.get? b=ψ o)->G h') (q:∀v h' tk,((LE [a,b]):Array aF)[argBest bt 1]?=ψ v->(∀b o,s.heap.get? b=ψ o->h'.get? b=ψ o)->Q v {s with heap:=h',toks:=tk}):
  Γ prog w A (call (.builtin (xt m)) [a,b]) Q E s:=by
 let⟨y,B,C,D⟩:=C0 m a b;have T:=@Nu prog w A E {s with heap:=s.heap.push {cls:=.type "tuple",data:=.seq (LE [a,b])}} m;have f:(s.heap.push {cls:=.type "tuple",data:=.seq (LE [a,b])}).IsTuple s.z (LE [a,b]):=#[_,bT _ rfl,bg,_,bg];have lt:s.z<(s.heap.push {cls:=.type "tuple",data:=.seq (LE [a,b])}).objs.size:=by let⟨_,e,_⟩:=f;show bG e
 have k:∀c o,s.heap.get? c=ψ o->(s.heap.push {cls:=.type "tuple",data:=.seq (LE [a,b])}).get? c=ψ o:=λc o e=>aR _ e;cases m
 all_goals
  erw[xt,el,cond_true,cond_false] at *;show KM y B C D ?_;show wpAny _ A.in1 (pJ _ _ _ _ >>= _) _ _ s;apply aD;show jK (show _=pure [ξ,ξ] by rfl) ?_;show wpAny _ A.in1 (newTuple [a,b] >>= _) _ _ s;show aD (fD ?_);show wpAny _ A.in1 (pyIter (.ref s.z) >>= _) _ _ {s with heap:=s.heap.push {cls:=.type "tuple",data:=.seq (LE [a,b])}};apply aD;show yI (s:={s with heap:=s.heap.push {cls:=.type "tuple",data:=.seq (LE [a,b])}}) f ?_;show T (T:="tuple_iterator") (Walks.tuple (A:=A.in1) l _ _ (bP lt) (LE [a,b])) lt #[#[_,bT _ rfl,bg,bg],f.at λo e=>aR _ e] (CG _) d (λh' g=>n h' λc o e=>g c o (k c o e)) (λv h' tk e F=>q v h' tk e λc o e=>F c o (k c o e)) λ_ _ h=>h
end
def NN(m:Bool)(x y:θ Int):Bool:=cond m (HT.lexLt y x) (HT.lexLt x y)
def jb(m:Bool):θ D->(D->Prop)->Prop:=λc Q=>∃a b,c=[qJ a,qJ b]/\Q (qJ (if NN m b a=ζ then b else a))
abbrev Uc:θ D->(D->Prop)->Prop:=jb χ
abbrev Ub:θ D->(D->Prop)->Prop:=jb ζ
def Tb(m:Bool)(M:g_ k X.A)(N:X.calm=ζ):LW X (.builtin (xt m)) (jb m):=by
 intro Φ s Z H B us Q I O R;let⟨ds,P,r,q,kk⟩:=R;let⟨f,d,rfl,q⟩:=q;cases r with
 |cons r1 C=>
  cases C with
  |cons r2 C=>
   cases C;let⟨a,rfl,T⟩:=cn.tupI_inv r1;let⟨b,rfl,U⟩:=cn.tupI_inv r2;let⟨u,v,rfl,W,Y⟩:=vals2 O;cases W;cases Y;let⟨w,g1,g2,_⟩:=I.tuple (m7.of (K:=X.K) T);let⟨ws,g3,g4,_⟩:=I.tuple (m7.of (K:=X.K) U);have hu:=M.un;have l:∀(i:Nat)(u:aF),((LE [eO a,eO b]):Array aF)[i]?=ψ u->∃c w,u = .ref c/\c9 (([f,d].getD i []).map V.int) w/\IsTup s.heap c w.toArray:=λi u e=>by
    match i,e with
    | 0,e=>cases e;show#[a,w,bg,g1,g2]
    | 1,e=>cases e;show#[b,ws,bg,g3,g4]
    |i+2,e=>simp at e
   show Sx m (bt:=λi j=>NN m ([f,d].getD i []) ([f,d].getD j [])) (G:=λh=>∀b o,s.heap.get? b=ψ o->h.get? b=ψ o) (I.ok.hd N) (λi j u v s' Q' E' e1 e2 g c=>?_) (λh' g=>g) λv h' tk n D=>?_
   ·let⟨c1,t1,rfl,E,F⟩:=l i u e1;let⟨c2,t2,rfl,J,L⟩:=l j v e2;have y:∀{a:Addr}{B:Array aF},IsTup s.heap a B->IsTup s'.heap a B:=λ⟨o,e,r⟩=>#[o,g _ o e,r];cases m
    ·show HT.lt_tupInts (A:=X.A.in1) (y F) (y L) (intsAre_of E) (intsAre_of J) (by show X.A.units+1<cLine;lia) c
    ·show HT.gt_tupInts (A:=X.A.in1) (y F) (y L) (intsAre_of E) (intsAre_of J) (by show X.A.units+1<cLine;lia) c
   ·have ab:argBest (λi j=>NN m ([f,d].getD i []) ([f,d].getD j [])) 1=if(if NN m d f=ζ then d else f)=d/\NN m d f=ζ then 1 else 0:=by
     erw[argBest];show(if NN m d f=ζ then 1 else 0)=_;by_cases h:NN m d f=ζ
     ·rw[υ h,υ h,υ #[bg,h]]
     ·rw[ω h,ω (λz=>h z.2)]
    rw[ab] at n;by_cases h:NN m d f=ζ
    ·rw[υ h] at q;rw[υ #[υ h,h]] at n;cases n;show#[.ref b,H,I.kept D,bg,kk _ _ H q (a_.refl H) r2]
    ·rw[ω h] at q;rw[ω (λz=>h z.2)] at n;cases n;show#[.ref a,H,I.kept D,bg,kk _ _ H q (a_.refl H) r1]
def Ta(a:g_ k X.A)(b:X.calm=ζ:=by rfl):LW X (.builtin "min") Uc:=Tb χ a b
def Sy(a:g_ k X.A)(b:X.calm=ζ:=by rfl):LW X (.builtin "max") Ub:=Tb ζ a b
section
variable{t:RT}
def gk(i:Nat)(a:En):En:=match a[i]? with
 |some (ψ (.own b))=>a.set i (ψ (.d (.lst b)))
 |_=>a
end
def cm(t u:RS):RS:=λE a=>t {nx:=u E,rt:=λ_=>False} a
def gr(F:FD)(t:RA):RA:=λa Q=>t a λb=>F b λd=>match d with
 | .lst c=>Q c
 |_=>False
def UF:isSubtype (.type "range_iterator") (.type "reversed")=pure χ:=by rw[xW];kernel_rfl
def UE(r:Addr)(a b c:Int)(t u v:Tok)(f:¬(!(cH a && cH b && cH c && cH (-c) && cH (a-c) && cH (fJ a b c)))=ζ):
  Meets (Builtin.«range.__reversed__» #[[.ref r],[]]) (λ_ R s=>IsRange s.heap r a b c t u v/\R (.ok (.ret (eO s.z))) {s with heap:=s.heap.push {cls:=jR (if(cH a && cH b && cH c && cH (-c) && cH (a-c) && cH (fJ a b c))=ζ then "range_iterator" else "longrange_iterator"),data:=ER (LE [rawInt (a+(fJ a b c-1)*c),rawInt (fJ a b c),rawInt (-c)])}}):=
 .of_wp λe w A R s h=>by let⟨i,g,d,j,os⟩:=s;let⟨k,h⟩:=h;wp_walk;show#[_,bg,h]
section
variable{s:aK}
def LN(n:Int):Obj:={cls:=.type "range_iterator",data:=.fields (LE [rawInt (n-1),rawInt n,rawInt (-1)])}
def P6(a:-(2 ^ 62)<=n)(b:n<2 ^ 62):cH n=ζ:=by
 unfold cH;erw[kG,decide_eq_true_eq];lia
def HZ{t u v:Tok}(h0:0<=n)(c:n<2 ^ 62)(b:IsRange s.heap r 0 n 1 t u v)
  (h:Q (.ref s.z) {s with heap:=s.heap.push (LN n)}):Γ prog w A (call (.builtin "range.__reversed__") [.ref r]) Q E s:=by
 have d:s.TypeIs (.ref r) "range":=#[_,b,bg];have sz:fJ 0 n 1=n:=by rw[ZN];split <;> lia
 have a:(cH 0 && cH n && cH 1 && cH (-1) && cH (0-1) && cH (fJ 0 n 1))=ζ:=by
  rw[sz,P6 (n:=n) ν c];decide
 show xU F.slot_range_reversed d F.entry_range_reversed (F.args_range_reversed_1 _) (UE r 0 n 1 t u v (by rw[a];decide)) #[b,?_];rw[a,sz];have e:(0:Int)+(n-1)*1=n-1:=ν
 rw[e];show h
def KO{t u v:Tok}(h0:0<=n)(c:n<2 ^ 62)(b:IsRange s.heap r 0 n 1 t u v)
  (h:Q₁ (.ref s.z) {s with heap:=s.heap.push (LN n)}):
  codeAny (model prog w) A (.call (.builtin "reversed.__new__") #[[.type "reversed",.ref r],[]]) (wants Q₁ E) s:=by
 have d:s.TypeIs (.ref r) "range":=#[_,b,bg];show rR ?_;show wpAny _ A.in1 (do checkBuiltinCall "reversed.__new__" #[[.type "reversed",.ref r],[]];again (.builtin "reversed.__new__" #[[.type "reversed",.ref r],[]])) _ _ s;show aD (jK (F.newCall_reversed_1 _) (aP #[gU F.plain_reversed_new _,fQ F.entry_reversed_new ?_]));rw[eK F.plain_reversed_new _];unfold Builtin.«reversed.__new__»;show aD (jK (newClass_reversed _) ?_)
 try fail
 show aD (jK (a:=()) (by first |rfl |kernel_rfl) ?_);show aD (jK (a:=()) (by first |rfl |kernel_rfl) ?_)
 try fail
 show aD (pA d F.slot_range_reversed.lookup ?_)
 try fail
 show aD (jK (F.slot_range_reversed.bind _) ?_)
 try fail
 first
 |rw[ω (show ¬((zW "range.__reversed__" == eU)=ζ) from cL)]
 | (show wpAny _ _ (if(zW "range.__reversed__" == eU)=ζ then _ else _) _ _ _;rw[ω (show ¬((zW "range.__reversed__" == eU)=ζ) from cL)])
 show aD (YO ?_);show aD (m:=runValue (.call (.builtin "range.__reversed__") #[[.ref r],[]])) (show wpAny _ _ (call (.builtin "range.__reversed__") [.ref r]) _ _ _ from HZ h0 c b ?_)
 first
 |show aP h
 |show aD (aP (aP h))
def IA{t u v:Tok}(h0:0<=n)(c:n<2 ^ 62)(d:IsRange s.heap r 0 n 1 t u v)
  (h:Q (.ref s.z) {s with heap:=s.heap.push (LN n)}):Γ prog w A (call (.type "reversed") [.ref r]) Q E s:=by
 show callType_other (U:="range_iterator") (Q₁:=λa b=>a = .ref s.z/\b = {s with heap:=s.heap.push (LN n)}) γ F.create_reversed #[_,_,F.mro_reversed] F.made_reversed UF (F.typeCall_reversed_1 _) (KO h0 c d #[bg,bg]) ?_;rintro a b ⟨rfl,rfl⟩;show#[#[_,bT _ rfl,bg],h]
end
def Y4(n:Nat):It:=#[λi _=>i<n,λi H x a=>a=H/\x = .int ((n:Int)-1+i*(-1)),λi _=>n<=i]
def Ib{P:cB}{w:dD}{K:aL}{G:Expr}(a:Addr)(n:Nat):uf P w K G (Y4 n) [a] a (λi h=>IsRangeIter h a ((n:Int)-1+(i:Nat)*(-1)) ((n:Int)-(i:Nat)) (-1)) where
 mem:=η
 obj:=λi h st b c=>by
  have e:b=a:= ~~~c
  subst e;show#[_,st,λv z=>by have J:ER _=ZT v:=z;cases J]
 keep:=λi h d st k=>k a η _ st
 item:=by
  intro X g j l m i Φ s Z H E I f st q;subst g j l;let⟨u,y,L,A,B,C⟩:=f a η;have W:=Walks.range (prog:=X.prog) (w:=X.w) (I.ok.hd m) a ((n:Int)-1) (-1) n;show W.item i s _ _ q st λv d D M F kk=>?_;let⟨t,rfl⟩:=M;have N:Inv X Φ Z H {s with heap:=d,toks:=D}:=I.turned (λb o c e=>kk b o (~~~c) e) u y A B C;show#[_,bg,Fv (s:={s with heap:=d,toks:=D}) (n:="range_iterator") F rfl rfl μ #[.int ((n:Int)-1+i*(-1)),H,N,#[t,bg],#[bg,bg],F,λb c=>(f b c).1]]
 done:=by
  intro X g j l m i Φ s Z H E I f st q;subst g j l;let⟨u,y,L,A,B,C⟩:=f a η;show DC (I.ok.hd m) st (by have:n<=i:=q;lia) λd O=>#[bg,I.turned (t':=s.toks) (λb o c e=>O b o c e) u y A B C]
 self:=λ_ _ _ _ _ st h=>tS st h
section
variable{X:Cx}{tg a:Expr}{t:RA}{pos p xu p2:Pos}
def A0(n:Nat):v_ X (Y4 n) (lQ 0 n).reverse H0:=λi H g=>by
 have b:(lQ 0 n).length=n:=by simp[lQ]
 show#[λd e=>?_,λc=>by show n<=i;rw[lE,b] at c;show c];by_cases f:i<n
 ·rw[List.getElem?_reverse ν,b] at e;unfold lQ at e;rw[bC,qZ ν] at e;cases e;show#[f,λx h y=>by
   let⟨rfl,rfl⟩:=y;show#[a_.refl _,?_];rw[show(n:Int)-1+(i:Int)*(-1)=0+((n-1-i:Nat):Int) by lia];show .int _]
 ·rw[gZ (by rw[lE,b];lia)] at e;cases e
structure eT(j:Int):Prop where
 lo:0<=j
 hi:j<2 ^ 62
def Le(t:RA):RA:=λb Q=>t b λc=>match c with
 | [.int j]=>eT j/\Q (lQ 0 j.toNat).reverse
 |_=>False
def Zm(C:X.mg "reversed" = ξ)(l:X.mg "range" = ξ)(D:DA X [a] t)(E:Gl X "reversed":=by rfl)(m:Gl X "range":=by rfl)(F:starEach [a] X.env=[(χ,eval a X.env)]:=by rfl)
  (y:starEach [.Call (.Name "range" p2) [a] [] xu] X.env=[(χ,eval (.Call (.Name "range" p2) [a] [] xu) X.env)]:=by rfl) (A:starEach [] X.env=[]:=by rfl):
  DI X tg (.Call (.Name "reversed" p) [.Call (.Name "range" p2) [a] [] xu] [] pos) (Le t):=by
 intro Φ s Z H R I G;let⟨c,P,st,q,kk⟩:=G;show Call_ (oA I E C boot_reversed (dE ?_ (by rw[y,A]) (by rw[A];rfl)));rw[y];show wpAny _ _ (spliced ((χ,eval (.Call (.Name "range" p2) [a] [] xu) X.env)::backTo pos [])) _ _ s;show rY (fF (oA I m l KL ?_));show dE (i0 (D xu Φ s Z H (λn g=>∃j:Int,n=[.int j]/\a_ H g/\eT j/\P (lQ 0 j.toNat).reverse) I #[c,_,st,q,λQ n g h d r=>?_]) λT d ⟨n,g,J,r1,K⟩=>?_) F (by rfl)
 ·split at h
  ·rename_i j;rw[cn.ints_inv (ns:=[j]) r];show#[j,bg,d,h.1,h.2]
  ·show h.elim
 let⟨j,rfl,L,v,M⟩:=K;obtain⟨u,rfl,⟨i,rfl⟩⟩:=vals1 r1;show call_range_1 (sP ?_);have k:Inv X Φ Z g {d with heap:=d.heap.push {cls:=.type "range",data:=.fields (LE [.int 0 d.toks,.int j i,.int 1 (d.toks+1)])},toks:=d.toks+1+1}:=J.kept λb o e=>aR _ e;have B:IsRange (d.heap.push {cls:=.type "range",data:=.fields (LE [.int 0 d.toks,.int j i,.int 1 (d.toks+1)])}) d.z 0 j 1 d.toks i (d.toks+1):=QY ..;generalize U:d.heap.push {cls:=.type "range",data:=.fields (LE [.int 0 d.toks,.int j i,.int 1 (d.toks+1)])} = h1 at k B;show IA v.lo v.hi B ?_;have w:({d with heap:=h1.push (LN j),toks:=d.toks+1+1}:aK).heap.get? h1.objs.size=ψ (LN j):=bT _ rfl;have N:((j.toNat:Nat):Int)=j:=wC v.lo;have f:IsRangeIter ({d with heap:=h1.push (LN j),toks:=d.toks+1+1}:aK).heap h1.objs.size (((j.toNat:Nat):Int)-1+((0:Nat):Int)*(-1)) (((j.toNat:Nat):Int)-((0:Nat):Int)) (-1):=by
  rw[N,show j-1+((0:Nat):Int)*(-1)=j-1 by lia,show j-((0:Nat):Int)=j by lia];show w
 show tS f #[h1.objs.size,[h1.objs.size],_,_,g,bg,k.kept (t':=d.toks+1+1) λb o e=>aR _ e,Ib _ j.toNat,f,λb O=>?_,kk _ _ g M L (A0 _)];rw[bR.mp O];show k.fpOk (aY _) (k.hok.fresh (aY _))
end
def qo:R22:=λx y Q=>match x,y with
 | .lst a,.lst c=>a.length=c.length/\match pi (k5 5) a c with
  |some b=>Q (.bl !b)
  |none=>False
 |_,_=>False
section
variable{e k:Expr}{pos pos' p p1 p2 apos cpos iI nu:Pos}{te tk:RE}
def mn(i:Nat):RS:=λE a=>E.nx (a.set i (ψ (.box χ [[],[]])))
def mi(i:Nat)(tk te:RE):RS:=λE a=>match a[i]? with
 |some (ψ (.box χ c))=>tk a λf=>match f with
  | .int k=>∃(j:Nat)(b:List D),(k=(j:Int)/\c[j]?=ψ b/\Sz (b.length+1))/\te a λd=>E.nx (a.set i (ψ (.box χ (c.set j (b++[d])))))
  |_=>False
 |_=>False
end
abbrev zk(a:θ (θ D)):θ (Int×θ D):=a.map λx=>(0,x)
def m9(j:Nat)(F:FD)(t:RA):RS:=λE a=>t a λc=>F c λd=>∃b:θ (θ D),d = .tup (b.map .lst)/\E.nx (a.set j (ψ (.box ζ b)))
def me(i:Nat)(a:En):En:=match a[i]? with
 |some (ψ (.box ζ b))=>a.set i (ψ (.d (.tup (b.map .lst))))
 |_=>a
def mj(i j:Nat):RS:=λE a=>match a[i]? with
 |some (ψ (.box ζ b))=>(j<a.length/\∀c∈b,Sz (c.length+1))/\E.nx ((a.set j ξ).set i (ψ (.box ζ (b.map (· ++ [.non])))))
 |_=>False
def qm:R22:=λx y Q=>match x,y with
 | .int i,.lst b=>∃a:List Int,b=a.map .int/\Q (.bl (decide (i∈a)))
 |_,_=>False
def ni(n:Nat)(g:yh):RG:=λd a Q=>match d with
 | .lst b=>b.length=n/\g b a Q
 |_=>False
def ql:R22:=λx y Q=>match k5 9 x y with
 |some b=>Q (.bl b)
 |none=>False
open PySem.W in
def ii(b:Int->Prop)(e:RE):RS:=λ_ a=>e a λd=>match d with
 | .int c=>b c
 |_=>False
abbrev n0:=θ D->(D->Prop)->(Int->Prop)->Prop
def gt(F:n0)(b:Int->Prop)(t:RA):RE:=λa Q=>t a λc=>F c Q b
abbrev nW:=θ D->(Int->Prop)->Prop
def m_(j:Nat)(F:nW)(C:Addr)(y:Str)(t:RA):RS:=λE a=>t a λd=>∃b,F d b/\∀c,b c->E.nx (a.set j (ψ (.exc C y c)))
def my(i:Nat)(C:Addr)(b:Bool):RE:=λa Q=>match a[i]? with
 |some (ψ (.exc c _ _))=>c=C/\Q (.bl b)
 |_=>False
def mq(i:Nat)(C:Addr)(y:Str):RE:=λa Q=>match a[i]? with
 |some (ψ (.exc b d c))=>(b=C/\d=y)/\Q (.int c)
 |_=>False
def mr(b:RE):RE:=λa Q=>b a λd=>match d with
 | .int c=>Q (.int c)
 |_=>False
end
section
open PySem PySem.W PyProof.Rows
section
variable{s:aK}
def G_(a:Array Keyed)(i:Nat):Keyed:=a.getD i (eU,eU)
end
abbrev J4(α β a τ:Type):=Option (Array Keyed)×α×β×a×τ
end
section
open PySem PySem.Spec PyProof.Rows L2 PySem.W
structure rn(h:Heap)(d:Addr)(es:Array DictEntry)(ep:Nat):Prop where
 ex:∃o,h.get? d=ψ o/\o.ExactDict/\o.data = .dict es ep
section
variable{s:aK}
def rn.typeIs(x:rn s.heap d es ep):s.TypeIs (.ref d) "dict":=let ⟨o,h1,h2,_⟩:=x.ex;#[o,h1,h2.1]
def rn.at(x:rn h d es ep)(k:∀o,h.get? d=ψ o->h'.get? d=ψ o):rn h' d es ep:=let ⟨o,h1,h2⟩:=x.ex;#[o,k o h1,h2]
def rn.lt(x:rn h d es ep):d<h.objs.size:=let ⟨_,h1,_⟩:=x.ex;bG h1
def Px(c:(d == sysModules)=χ)(x:rn s.heap d es ep)
  (e:Q (.ref s.z) {s with heap:=s.heap.push {cls:=.type "dict_keyiterator",data:=.fields (LE [.ref d,.int 0 0,.int es.size 0,.int ep 0])}}):Γ prog w A (pyIter (.ref d)) Q E s:=by
 let⟨o,b,_,a⟩:=x.ex;show OL x.typeIs F.slot_dict_iter (jJ F.slot_dict_iter x.typeIs F.entry_dict_iter ?_ (F.args_dict_iter_1 _));unfold Builtin.«dict.__iter__» Builtin.Dict.dictSlotNone;show aD (aD (wpAny_notOrdered_dict x.typeIs ?_));show wpAny _ _ (pure (eO d)) _ _ s;show aP ?_;show wpAny _ _ (EB d >>= _) _ _ s;unfold EB;rw[ω (by rw[c];show cL)];show aD (aP (aD (zH b a (aD (EA b a (aD (fD (aP #[_,bg,"dict_keyiterator",_,#[_,bT _ rfl,bg],F.slot_dict_keyiterator_next.lookup,e]))))))))
def Py(b:s.heap.IsKeyIter it d i es.size ep)(x:rn s.heap d es ep)(hi:i<es.size)
  (j:∀h',h'.IsKeyIter it d (i+1) es.size ep->qL it s.heap h'->Q (ψ es[i].key) {s with heap:=h'}):Γ prog w A (pyNext (.ref it)) Q E s:=by
 let⟨o,g,k,f⟩:=id b;let⟨l,c,_,e⟩:=x.ex;have a:=b.typeIs;show aD (uZ (kX (name:=iG "__next__") a F.slot_dict_keyiterator_next (jJ F.slot_dict_keyiterator_next a F.entry_dict_keyiterator_next ?_ (F.args_dict_keyiterator_next_1 _))));show aD (aP (aD (aD ?_)))
 first |show aD (kQ a (aP ?_)) |show aD (nN a (aP ?_))
 show aD (yH g f ?_);rw[ω (show ¬(vL "dict_keyiterator")=ζ by decide)];show wpAny _ _ (if(eO d == eU)=ζ then _ else _) _ _ s;rw[ω (show ¬((eO d == eU)=ζ) from cL)];show aD (aP (aD (zH c e ?_)));rw[ω η];show aD (aP (aD (EA c e ?_)));rw[ω η];show aP ?_;erw[show ¬((i:Int)<0) from by lia,if_false,gF,cJ hi];show aD ?_
 first |show aD (kQ a (aP ?_)) |show aD (nN a (aP ?_))
 show aD (EO a ?_);show wpAny _ _ (setField (.ref it) 1 (rawInt ((i:Int)+1)) >>= _) _ _ s;have h:(s.heap.update it (IK (·.setIfInBounds 1 (rawInt ((i:Int)+1))))).IsKeyIter it d (i+1) es.size ep:=
  #[_,fM _ g (Obj.isFreed_of_fields (KE f _)),(Obj.cls_mapFields ..).trans k,by rw[KE f];simp[rawInt]]
 show aD (HC g f η (aD (fS (aD (EO (s:={s with heap:=s.heap.update it (IK (·.setIfInBounds 1 (rawInt ((i:Int)+1))))}) h.typeIs ?_)))));show wpAny _ _ (pure es[i].key) _ _ _;show aP (aP #[_,bg,aP (j _ h (lC ..))])
def Um(j:A.handled=ξ)(e:s.heap.IsKeyIter it d es.size es.size ep)(x:rn s.heap d es ep)
  (k:∀h',Heap.ExtBut it s.heap h'->Q ξ {s with heap:=h'}):Γ prog w A (pyNext (.ref it)) Q E s:=by
 let⟨o,h,l,i⟩:=id e;let⟨n,f,_,g⟩:=x.ex;have c:=e.typeIs;show aD (uZ (kX (name:=iG "__next__") c F.slot_dict_keyiterator_next (jJ F.slot_dict_keyiterator_next c F.entry_dict_keyiterator_next ?_ (F.args_dict_keyiterator_next_1 _))));show aD (aP (aD (aD ?_)))
 first |show aD (kQ c (aP ?_)) |show aD (nN c (aP ?_))
 show aD (yH h i ?_);rw[ω (show ¬(vL "dict_keyiterator")=ζ by decide)];show wpAny _ _ (if(eO d == eU)=ζ then _ else _) _ _ s;rw[ω (show ¬((eO d == eU)=ζ) from cL)];show aD (aP (aD (zH f g ?_)));rw[ω η];show aD (aP (aD (EA f g ?_)));rw[ω η];show aP ?_;erw[show ¬((es.size:Int)<0) from by lia,if_false,gF,sO (aY es.size)];show aD ?_
 first |show aD (kQ c (aP ?_)) |show aD (nN c (aP ?_))
 show wpAny _ _ (setField (.ref it) 0 .none >>= _) _ _ s;show aD (HC h i η ?_);show wpAny _ _ (newExc (.type "StopIteration") [] >>= _) _ _ _;show aD ?_;erw[newExc,newTuple];show aD (fD ?_ (by size_fits));show aD (m:=firstArgMember _ _) (jK (a:=eU) (by first |rfl | (erw[firstArgMember];rfl)) (fD ?_ (by size_fits)));erw[raiseNew];show aD (ZS ?_);rw[show A.in1.handled=ξ from j];show aD (aP (wpAny_throw ?_));show aD (uQ (T:="StopIteration") (b:=ζ) #[_,bT _ rfl,bg] WK ?_);show aP (k _ (((lC ..).extBut.push _).push _))
def Jo(m:A.handled=ξ)(I:Addr)(ne:d≠I):Walks prog w A I [I,d] [I] es.size (λi v=>∃e,es[i]?=ψ e/\v=e.key) (λi h=>h.IsKeyIter I d i es.size ep/\rn h d es ep) where
 sub:=λb a=>by simp at a;simp[a]
 frame:=λ_ _ _ st j=>#[st.1.at λo e=>j I η o e,st.2.at λo e=>j d η o e]
 item:=λi s Q E k st c=>Py st.1 st.2 k λf n l=>c _ f s.toks #[_,cJ k,bg] #[n,st.2.at λo e=>l.extBut d o ne e] λb o a e=>l.extBut b o (λh=>a (by simp[h])) e
 done:=λs Q E st c=>Um m st.1 st.2 λf g=>c f s.toks λb o a e=>g b o (λh=>a (by simp[h])) e
 self:=λ_ _ _ _ st c=>wpAny_pyIter_keyiter st.1 c
def Uo(lo:(d == sysModules)=χ):KdlSrc prog w "dict" d d es.size (λi v=>∃e,es[i]?=ψ e/\v=e.key) (λh=>rn h d es ep) where
 type:=λ_ x=>x.typeIs
 there:=λ_ x=>#[x.lt,x.lt]
 keep:=λ_ _ x b=>x.at λo e=>b d (.inl rfl) o e
 notList:=μ
 notTuple:=μ
 hint:=λ_ _ _ _ x a=>kdl_hint_dict x.typeIs a
 iter:=λ_ _ c x=>#[_,_,(λ_ _ a=>Px lo x a),Jo c _ (bP x.lt),#[#[_,bT _ rfl,bg,bg],x.at λo e=>aR _ e]]
end
def YW(ks:θ (θ Int))(k:θ Int):θ (θ Int):=if k∈ks then ks else ks++[k]
def putX{α:Type}(ks:θ (θ Int))(xs:θ α)(k:θ Int)(x:α):θ α:=if k∈ks then iF (λa y=>if a=k then x else y) ks xs else xs++[x]
def FI:θ (θ Int)->θ D->θ Int->Option D
 |k'::a,d::b,k=>if k'=k then ψ d else FI a b k
 |_,_,_=>ξ
def NJ{a b:θ Int}(e:a.map (eI:Int->jl)=b.map eI):a=b:=by
 have z:=Ψ (pY λx:jl=>match x with | .inl i=>i | .inr _=>0) e;rw[cO,cO] at z;simpa [LY] using z
def WQ:(hZ ks vs).length=min ks.length vs.length:=by simp[hZ]
theorem KR:∀{ks:θ (θ Int)}{vs:θ V}{k:θ Int},ks.length=vs.length->((hZ ks vs).any (λkv=>decide (kv.1=k.map eI))=ζ↔k∈ks)
 | [],[],k,_=>by simp[hZ]
 | [],_::_,k,h=>by cases h
 |_::_,[],k,h=>by cases h
 |k'::ks,v::vs,k,h=>by
  show(((k'.map eI,v)::hZ ks vs).any _=ζ↔_);rw[zN,DD,KR (ks:=ks) (vs:=vs) (k:=k) (~~~h),aV,decide_eq_true_iff];show or_congr_left #[λe=>(NJ e).symm,λe=>by rw[e]]
theorem WR:∀{ks:θ (θ Int)}{vs:θ V}{k:θ Int}{v:V},(hZ ks vs).map (λkv=>if kv.1=k.map eI then(kv.1,v) else kv)=hZ ks (iF (λk' y=>if k'=k then v else y) ks vs)
 | [],_,k,v=>by simp[hZ]
 |_::_,[],k,v=>by simp[hZ]
 |k'::ks,u::vs,k,v=>by
  show(if k'.map eI=k.map eI then(k'.map eI,v) else(k'.map eI,u))::(hZ ks vs).map _=(k'.map eI,if k'=k then v else u)::hZ ks _;rw[WR];by_cases e:k'=k
  ·rw[υ (by rw[e]),υ e]
  ·rw[ω (λz=>e (NJ z)),ω e]
def Jx(h:ks.length=vs.length):LH (hZ ks vs) (k.map eI) v=hZ (YW ks k) (putX ks vs k v):=by
 unfold LH YW putX;by_cases m:k∈ks
 ·rw[υ ((KR h).mpr m),υ m,υ m,WR]
 ·rw[ω (λz=>m ((KR h).mp z)),ω m,ω m];unfold hZ;rw[List.zipWith_append (by show h)];rfl
def Xe{α:Type}{xs:θ α}{x:α}(h:ks.length=xs.length):(YW ks k).length=(putX ks xs k x).length:=by
 unfold YW putX;by_cases m:k∈ks
 ·rw[υ m,υ m];simp[h]
 ·rw[ω m,ω m];simp[h]
theorem cn.putX{K:aL}{H:Hp}{k:θ Int}{d:D}{v:V}(a:je K H d v):∀{ks:θ (θ Int)}{ds:θ D}{vs:θ V},cn K H ds vs->cn K H (iF (λk' y=>if k'=k then d else y) ks ds) (iF (λk' y=>if k'=k then v else y) ks vs)
 | [],_,_,_=>by simp;show .nil
 |_::_,_,_,.nil=>by simp;show .nil
 |k'::ks,_,_,.cons r t=>by
  rw[lI,lI];show .cons ?_ (cn.putX a t);by_cases e:k'=k
  ·rw[υ e,υ e];show a
  ·rw[ω e,ω e];show r
theorem Nc{K:aL}{H:Hp}{k:θ Int}:∀{ks:θ (θ Int)}{ds:θ D}{vs:θ V},cn K H ds vs->(∀d,FI ks ds k=ψ d->∃v,tO (hZ ks vs) (k.map eI)=ψ v/\je K H d v)/\(FI ks ds k=ξ->tO (hZ ks vs) (k.map eI)=ξ)
 | [],_,_,_=>#[λd e=>(by simp[FI] at e),λ_=>by simp[hZ,tO]]
 |_::_,_,_,.nil=>#[λd e=>(by simp[FI] at e),λ_=>by simp[hZ,tO]]
 |k'::ks,f::ds,c::vs,.cons r t=>by
  let⟨a,b⟩:=Nc (k:=k) (ks:=ks) t;show(∀d,(if k'=k then ψ f else FI ks ds k)=ψ d->∃v,tO ((k'.map eI,c)::hZ ks vs) _=_/\_)/\((if k'=k then ψ f else FI ks ds k)=ξ->tO ((k'.map eI,c)::hZ ks vs) _=_);by_cases e:k'=k
  ·rw[υ e,tP (by rw[e])];show#[λd z=>by cases z;show#[c,bg,r],λz=>by cases z]
  ·rw[ω e,rM (λz=>e (NJ z))];show#[a,b]
def Ct{K:aL}{H:Hp}{kk:θ Int}{v:V}(r:je K H (.tup (kk.map .int)) v):∃b,v = .ref b/\H b=ψ (.tup ((kk.map (eI:Int->jl)).map kV)):=by
 cases r with
 | @tup b a _ h r=>
  rw[cn.ints_inv r] at h;show#[b,bg,by rw[cO];show h]
section
variable{X:Cx}{e k f:Expr}{pos pos' p iI apos cpos nu:Pos}{te tk tf:RE}{x:Str}
def M6(i:Nat):RS:=λE a=>E.nx (a.set i (ψ (.dt [] [])))
def Zs{i:Nat}(l:X.N.Nodup)(hi:X.N[i]?=ψ x:=by rfl)(m:Loc X.env.scope x:=by walk_at "vis")(s:swapsWith (.Dict [] [] p) (ψ (.Name x pos')) pos.line X.env=pure χ:=by rfl)
  (u:X.fn x=ζ\/X.env.scope.names.lookup x=ψ .local:=by walk_at "loc"):DS X (.Assign [.Name x pos'] (.Dict [] [] p) pos) (M6 i):=
 PS.mono (Di l hi m Wp s u) λw Z H v=>pG v λd E st q n r b c=>λa g=>by
  have j:a_ H (f_ H a (.dT [])):=a_.fn λb o h=>by rw[cY (dF h g)];show h
  show n _ _ _ q (.of j) (st.put j #[a,[],bg,fA,st.same.free g,bg,.nil] λc o=>by cases o;show g)
def Ba(i:Nat)(tk te:RE):RS:=λE a=>match a[i]? with
 |some (ψ (.dt b c))=>te a λd=>tk a λg=>∃kk:List Int,g = .tup (kk.map .int)/\Sz (b.length+1)/\E.nx (a.set i (ψ (.dt (YW b kk) (putX b c kk d))))
 |_=>False
def Na(i:Nat)(Q:g_ n X.A)(R:DE X k tk)(T:DE X e te)(U:X.N[i]?=ψ x:=by rfl)(V:vq X.env.scope x:=by walk_at "vis")(W:(x == ("__debug__":Str))=χ:=by decide)(Y:(x == ("__classdict__":Str))=χ:=by decide)
  (hs:swapsWith e (ψ (.Subscript (.Name x iI) k pos')) pos.line X.env=pure χ:=by rfl):DS X (.Assign [.Subscript (.Name x iI) k pos'] e pos) (Ba i tk te):=by
 show PS.mono (E5 (by have:=Q.un;lia) (pv (pos:=iI) i U V W Y) R T hs) λDe Z H hh=>pG hh λj E L q n r bk ct=>?_;unfold Ba at q;split at q
 ·rename_i g C M;show#[j,_,L,q,λd v H1 wj O rv=>?_];have l:=L.ext O;let⟨va,D,a,B,ev,ha,h0,F,rr⟩:=l.rel i _ M;subst ev;show#[.ref a,D,j,_,l,wj,λkd kv s G u rk=>?_];let⟨kk,rfl,sz,I⟩:=G;let⟨b,rfl,hb⟩:=Ct rk;have w:=u.get _ _ ha trivial;show#[a,_,bg,wt.t w hb (by rw[WQ,<-F,wS];show sz.ok),?_];rw[Jx F];have J:c7 s (f_ s a (.dT (hZ (YW g kk) (putX g B kk v)))):=c7.chg1 w (.inr (.inr #[_,bg]));have y:cn X.K s C B:=rr.keep (.of u);have P:je X.K s d v:=rv.keep (.of u);have rp:cn X.K s (putX g C kk d) (putX g B kk v):=by
   unfold putX;by_cases m:kk∈g
   ·rw[υ m,υ m];show cn.putX P y
   ·rw[ω m,ω m];show y.append (.cons P .nil)
  let⟨z,k4⟩:=(l.ext u).updW (x':=.dt (YW g kk) (putX g C kk d)) (v':=.ref a) M D (H':=f_ s a (.dT (hZ (YW g kk) (putX g B kk v))))
   (λc o h w'=>by rw[cY (by rintro rfl;show w' rfl)];show h) #[a,_,bg,fA,h0,Xe F,rp.keep J] λc o=>.inl o
  rw[nF D] at z;show n _ _ _ I (((c7.of O).trans (.of u)).trans k4) z
 ·show q.elim
def nh(i:Nat)(tk tf:RE):RE:=λa Q=>match a[i]? with
 |some (ψ (.dt b c))=>tk a λd=>tf a λz=>∃kk:List Int,d = .tup (kk.map .int)/\Q ((FI b c kk).getD z)
 |_=>False
def Dr(i:Nat):RA:=λa Q=>match a[i]? with
 |some (ψ (.dt b c))=>Q (b.map qJ)
 |_=>False
theorem NF:∀{ks:θ (θ Int)}{vs:θ V}{xs:θ (θ jl×Addr×aF)},ks.length=vs.length->KT H (hZ ks vs) xs ->
  ∃bs:θ Addr,xs.map (λx=>(entryOfKey (tupleKind (gH P w)) x).key)=bs.map eO/\bs.length=ks.length/\∀(K:aL),cn K H (ks.map qJ) (bs.map V.ref)
 | [],[],_,_,t=>by cases t;show#[[],bg,bg,λ_=>.nil]
 | [],_::_,_,h,_=>by cases h
 |_::_,[],_,h,_=>by cases h
 |k::ks,v::vs,_,h,t=>by
  cases t with
  | @cons _ q _ d r t=>
   let⟨bs,a,b,c⟩:=NF (P:=P) (w:=w) (~~~h) t;show#[q.2.1::bs,by rw[aN,a];rfl,by simp[b],λK=>.cons (.tup (vs:=k.map V.int) ?_ .ints) (c K)];have z:=r.2.1;rw[show((k.map eI,v):θ jl×V).1=k.map eI from rfl,cO] at z;show z
def Lq{Z:St}(D:X.calm=ζ)(A:ks.length=vs.length)(F:Rd H a (.dT (hZ ks vs)))(l:Inv X Φ Z H s1)
  (h:∀(ws:θ V)(h':Heap)(tk:Nat),Inv X Φ Z (f_ H s1.z (.lst ws)) {s1 with heap:=h',toks:=tk}->H s1.z=ξ->cn X.K H (ks.map qJ) ws->Q (.ref s1.z) {s1 with heap:=h',toks:=tk}):
  Δ X (call (.type "list") [.ref a]) Q E s1:=by
 let⟨z,m,G,I,J⟩:=Nb l.hok F;let⟨o,es,ep,L,M,N,n,W,Y⟩:=J;let⟨bs,s,u,B⟩:=NF (P:=X.prog) (w:=X.w) A I;have sz:es.size=ks.length:=by rw[<-dA,n,aJ,<-aJ (f:=λx=>(entryOfKey (tupleKind (gH X.prog X.w)) x).key),s,aJ,u]
 have zk:ks.length<=sizeLine:=by rw[WQ,<-A,wS] at z;show z
 show kdl_call (Uo (es:=es) (ep:=ep) m) (l.ok.hd D) #[o,L,M,N] (by rw[sz];show zk) λh' tk d c O R C=>?_;have g:d.toList=bs.map eO:=by
  rw[<-s];apply sU;intro j;cases e:d.toList[j]? with
  |none=>
   have:d.size<=j:=(~~~e);rw[C.1,<-dA,n,aJ] at this;rw[gZ (by rw[aJ];show this)]
  |some v=>
   let⟨en,i,T⟩:=C.2 j v (~~~e);rw[<-tW,n,bC] at i;rw[bC];cases q:G[j]? with
   |none=>rw[q] at i;cases i
   |some y=>rw[q] at i;cases i;rw[T];rfl
 have VV:c9 (bs.map V.ref) d.toList:=by
  rw[g];clear g s u B
  induction bs with
  |nil=>show .nil
  |cons b bs U=>show .cons rfl U
 show h (bs.map V.ref) h' tk (l.laid (a:=s1.z) (o:=.lst (bs.map V.ref)) (h':=h') (t':=tk) O (aY _) #[by rw[aJ,u];show zk,d.toList,c,VV,~~~R]) (l.hok.fresh (aY _)) (B X.K)
def Ut(i:Nat)(l:X.mg "list" = ξ)(m:X.calm=ζ)(n:X.N[i]?=ψ x:=by rfl)(o:vq X.env.scope x:=by walk_at "vis")(v:(x == ("__debug__":Str))=χ:=by decide)(w:(x == ("__classdict__":Str))=χ:=by decide)
  (d:Gl X "list":=by rfl) (g:starEach [.Name x iI] X.env=[(χ,eval (.Name x iI) X.env)]:=by rfl) (b:starEach [] X.env=[]:=by rfl):DO X (.Call (.Name "list" p) [.Name x iI] [] pos) (Dr i):=by
 intro Φ s Z H Q I y;let⟨c,P,A,q,B⟩:=y;unfold Dr at q;split at q
 ·rename_i U V C;let⟨W,D,a,Y,E,F,h0,G,rr⟩:=A.rel i _ C;subst E;show fF (oA I d l boot_list ?_);show dE (i0 (oQ (pv (pos:=iI) i n o v w) g b pos Φ s Z H (λh j=>h=[.ref a]/\j=H) I #[.ref a,D,bg,bg]) λh J ⟨K,j,L,r1,M⟩=>?_) (by rw[g,b]) (by rw[b];rfl);let⟨rfl,rfl⟩:=M;let⟨u,rfl,O⟩:=vals1 r1;cases O;show Lq m G (.inl F) L λK h' tk R b T=>#[.ref J.z,_,R,bg,B _ _ _ _ q (a_.refl _) b T]
 ·show q.elim
end
section
variable{e a k f:Expr}{pos p apos cpos:Pos}{te ta tk tf:RE}
def gy(te:RE):RA:=λb Q=>te b λx=>∃(c:θ (θ Int))(d:θ D),x = .dtt c d/\Q (c.map qJ)
def RF:R22:=λx y Q=>match x with
 | .dtt b c=>∃(kk:List Int)(d:D),y = .tup (kk.map .int)/\FI b c kk=ψ d/\Q d
 |_=>False
def NA(m:g_ n X.A)(q:DE X a ta)(s:DE X k tk)(z:Yv k:=by intro _ _;rfl):DE X (.Subscript a k pos) (r2 RF ta tk):=by
 show PE.mono (Ny (by have:=m.un;lia) q s z) λZ H Q h=>?_;let⟨c,P,st,B,C⟩:=h;show#[c,_,st,B,λx v L D j r1=>#[c,_,st.ext j,D,λy u E g l r2=>?_]];unfold RF at g;split at g
 ·rename_i ks M;let⟨kk,d,rfl,e,g⟩:=g;let⟨b,rfl,F⟩:=Ct r2;have i:=je.keep (.of l) r1;cases i with
  | @dtt a N _ _ o G O I=>
   let⟨w,J,K⟩:=(Nc (k:=kk) (ks:=ks) I).1 d e;show#[a,w,bg,.inr #[_,_,b,.inr #[o,G],bg,F,J.symm],C d w E g (j.trans l) K]
 ·show g.elim
end
def fj(b:RE):RA:=λa Q=>b a λd=>match d with
 | .dtt c e=>Q (iF (λk x=>D.tup [qJ k,x]) c e)
 |_=>False
end
section
open PySem PySem.Spec PyProof.Rows L2
section
variable{pos apos cpos iI:Pos}{te ta:RE}
def mx(i:Nat)(ta te:RE):RS:=λE a=>match a[i]? with
 |some (ψ (.own b))=>ta a λk=>te a λd=>∃j:Nat,k = .int (j:Int)/\j<=b.length/\Sz (b.length+1)/\E.nx (a.set i (ψ (.own (b.take j++d::b.drop j))))
 |_=>False
def gx(i:Nat)(te:RE):RE:=λa Q=>te (gk i a) λd=>∃n:Int,d = .int n/\Q d
end
def Zj:R22:=λx y Q=>match x,y with
 | .lst a,.lst []=>Q (.bl !a.isEmpty)
 |_,_=>False
def S8(m:g_ k X.A):qz X (compareOp .NotEq) Zj:=by
 intro Φ s Z H x y v u Q I n o w;let⟨d,e,P,r1,r2,q,kk⟩:=w;have L:=m.un;unfold Zj at q;split at q
 ·rename_i f;let⟨a,M,rfl,z,B⟩:=r1.lst;let⟨c,N,rfl,C,D⟩:=r2.lst;cases n;cases o;let⟨b,E,h,_⟩:=I.list z;let⟨F,G,i,_⟩:=I.list C;have g:f.length=b.length:=B.length.trans E.length;have l:(0:Nat)=F.length:=D.length.trans G.length;have J:MP X.A s (.ref a) (.ref c) (!f.isEmpty):=by
   cases f with
   |nil=>
    have:=KI (A:=X.A) (s:=s) (e:=λ_=>χ) h.isList i.isList (by rw[aZ,aZ,<-g,<-l];rfl) ν (λj O K=>by rw[aZ] at K;lia);rw[show b.toArray.size=0 from g.symm] at this;show this
   |cons x f=>show SeqAt.RcNeAt.lists_lengths h.isList i.isList (by rw[aZ,aZ,<-g,<-l];rfl) ν
  show J _ _ _ _ #[.bl _,H,I,bg,kk _ _ H q (a_.refl H) (.bl _)]
 ·show q.elim
abbrev FM:=θ (θ Int)->θ D->θ D->(θ Int->D->Prop)->Prop
abbrev RM:=(θ Int->D->Prop)->En->Prop
def mz(t:RA):RS:=λE a=>t a λb=>E.rt (.lst b)
end
section
open PySem PySem.Spec PySem.W PyProof.Rows L2
section
variable{s:aK}{f c':Addr}
def Vi(a:A.depth<recursionLimit)(k:s.heap.get? f=ψ (kla_obj name qual params body scope ot pm c' w_))(l:s.heap.CodeRec (.ref c') qual)(d:s.heap.NoLimit)
  (m:bindArgs (kla_fn name qual params body scope ot pm (.ref c') w_) #[[v],[]]=pure [(x,v)]) (n:scope.names.lookup x=ψ .local) (g:scope.isCoroutine=χ) (q:scope.isGenerator=χ) (B:scope.kind = .function) (C:∀y∈scope.names,y.2≠.cell)
  (h:∀h₁ tk,h₁.Ns s.z (λy=>[(x,v)].reverse.lookup y)->(∀b o,s.heap.get? b=ψ o->h₁.get? b=ψ o) ->
   Γ prog w (A.deeper (envX qual scope s.z f (.ref c') ot)) (eval body (envX qual scope s.z f (.ref c') ot)) Q (λ_ _=>False) {s with heap:=h₁,toks:=tk}):
  Γ prog w A (call (.ref f) [v]) Q E s:=by
 show LR (kla_callFunE a k rfl g q rfl l ?_);rw[m];show aP (HB C (λy D=>by rw[bR.mp D];show n) (λh₁ i c=>#[d.fresh _ c,?_]) B);have j:∀b o,s.heap.get? b=ψ o->h₁.get? b=ψ o:=λb o e=>c.extBut b o (bP (bG e)) (aR _ e);show kla_codeExpr (iB (h h₁ _ i j) (λu G F=>F) λ_ _ z=>z.elim)
end
def QE(prog:cB)(w:dD)(A:dG)(env:Env)(h:Heap)(e:Expr)(R:aF->Prop):Prop:=
 ∀(s:aK)(Q:aF->aK->Prop),s.heap=h->(∀u a,R u->Q u {s with toks:=a})->Γ prog w A (eval e env) Q (λ_ _=>False) s
def v9(i:Int)(u:aF):Prop:=∃t,u = .int i t
section
variable{prog:cB}{w:dD}{A:dG}{env:Env}{h:Heap}{a b:Expr}{pos:Pos}
def cf(c:env.scope.kind = .function)(d:env.kindOf x=ψ .local)(f:h.Ns env.locals m)(g:m x=ψ u)(i:(x == ("__debug__":Str))=χ:=by decide):QE prog w A env h (.Name x pos) (· = u):=λs Q e k=>by
 subst e;show CZ (HA c d f g (k u s.toks rfl)) i
def V6{c:Addr}(d:env.scope.kind = .function)(f:env.kindOf x=ψ .free)(g:env.cells.lookup x=ψ c)(hi:h.IsCell c (ψ u))(i:(x == ("__debug__":Str))=χ:=by decide)(j:(x == ("__classdict__":Str))=χ:=by decide):QE prog w A env h (.Name x pos) (· = u):=λs Q e k=>by
 subst e;show CZ (IG d f g hi (k u s.toks rfl) j) i
def M5:QE prog w A env h (.Constant (.int i) n pos) (v9 i):=λs Q e k=>LQ (k _ _ #[_,bg])
def M4(rule:∀(t u:Tok)(s:aK)(Q:aF->aK->Prop)(E:aF->aK->Prop),Q (.int r s.toks) {s with toks:=s.toks+1}->Γ prog w A (binaryOp op (.int i t) (.int j u)) Q E s)
  (c:QE prog w A env h a (v9 i)) (d:QE prog w A env h b (v9 j)):QE prog w A env h (.BinOp a op b pos) (v9 r):=λs Q e k=>by
 show wpAny_BinOp (c s _ e λu n f=>d _ _ e λv g l=>?_);let⟨t,rfl⟩:=f;let⟨m,rfl⟩:=l;show rule t m _ Q _ (k _ _ #[_,bg])
def cg(c:IntMulOk i j)(d:QE prog w A env h a (v9 i))(e:QE prog w A env h b (v9 j)):QE prog w A env h (.BinOp a .Mult b pos) (v9 (i*j)):=M4 (λ_ _ _ _ _ q=>mul_int q c) d e
def V5(c:uu i j)(d:QE prog w A env h a (v9 i))(e:QE prog w A env h b (v9 j)):QE prog w A env h (.BinOp a .FloorDiv b pos) (v9 (i.fdiv j)):=M4 (λ_ _ _ _ _ q=>floordiv_int c.nz q (.inl c.np)) d e
def bo{p:Addr}{its:θ aF}{n:Nat}{u:aF}(d:QE prog w A env h a (· = .ref p))(f:QE prog w A env h b (v9 (n:Int)))(c:IsTup h p its.toArray)(hz:its.length<=sizeLine)(g:its[n]?=ψ u)(i:Br b):QE prog w A env h (.Subscript a b pos) (· = u):=λs Q e k=>by
 subst e;show Subscript_ (d s _ rfl λo D l=>f _ _ rfl λv m q=>?_);obtain rfl:o = .ref p:=l;let⟨t,rfl⟩:=q;let⟨j,y,z,E,F,G⟩:=Bs (qQ (xs:=its) g);have B:=WT;show tN (x:=u) c.typeIs slot_tuple_getitem.lookup
  (ZC (j:=j) (Q:=λr C=>r=u/\Q r C) c ν ν (by rw[aZ];show y) (~~~z) #[bg,k u _ rfl]) (i _ _)
end
def ee:Heap:={objs:=(LE [])}
section
variable{s:aK}{L l f:Addr}
def NE(b:Addr):ee.get? b=ξ:=by simp[ee,Heap.get?]
def Ym(J:s.heap.Ns L m)(K:s.heap.IsList l vs.toArray)(a:kz.length=vs.length)(M:vs.length<64)(O:s.z=f+1)(j:∃o,s.heap.get? f=ψ o)(y:f≠L)
  (d:∀(i:Nat)(v:aF)(k:Int),vs[i]?=ψ v->kz[i]?=ψ k->∀(h:Heap)(tk:Nat),(∀b o,b≠L->s.heap.get? b=ψ o->h.get? b=ψ o)->h.Ns L m ->
   Γ prog w A.in1.in1 (call (.ref f) [v]) (λu s'=>∃h' y9 t',s' = {s with heap:=h',toks:=y9}/\u = .int k t'/\∀b o,h.get? b=ψ o->h'.get? b=ψ o) (λ_ _=>False) {s with heap:=h,toks:=tk})
  (q:∀D h' tk out c,(∀b o,b≠L->s.heap.get? b=ψ o->h'.get? b=ψ o)->h'.Ns L m->s.z<=D->h'.get? D=ψ (seqObj "list" out c)->KskOut χ kz vs out.toList->Q (.ref D) {s with heap:=h',toks:=tk}):
  Γ prog w A (call (.builtin "sorted") [.ref l] [(iG "key",.ref f)]) Q E s:=by
 have F:Fr ee L s.heap m:=#[J,λb o e=>(by rw[NE] at e;cases e),dZ _];have B:∀{h:Heap}{own:θ (Addr×Obj)},News ee L h (MR ee s.heap L++own)->∀b o,b≠L->s.heap.get? b=ψ o->h.get? b=ψ o:=λ{h own} N b o n e=>
  (N (b,o) (eY _ (FS n (NE b) e))).1
 show ksk_sorted (kz:=kz) (f:=.ref f) (b:=χ) F (Vw (g:=ee) (h:=s.heap) (L:=L)) K a M (ksk_s1 _ _) (λx=>ksk_l1 _ _) (λx=>ksk_t1 f x) (λi v k P R h tk own C N=>?_) λD h' tk out c T G U V=>?_
 ·show iB (d i v k P R h tk (B N) C.ns) (λu s' W=>?_) λ_ _ z=>z;let⟨h',y9,t',rfl,rfl,H⟩:=W;show#[h',y9,t',bg,bg,#[C.ns.keeps H,λb o e=>(by rw[NE] at e;cases e),dZ _],λp I=>#[H _ _ (N p I).1,(N p I).2]]
 ·let⟨o,X⟩:=j;have Y:f<D:=U (f,o) (FS y (NE f) X);show q D h' tk out c (λb o n e=>(G (b,o) (cR _ (FS n (NE b) e))).1) T.ns (by rw[O];show Y) (G _ dL).1 V
end
end
section
open PySem PySem.Spec PyProof.Rows L2
section
variable{P:cB}{w:dD}{K:aL}{mg:Str->Option aF}{base:Heap}
def Ej{x a:Str}{st:Stmt}{f c T:Addr}{h kV b i d ct:aF}{j k:Option Addr}{l:Array (Option aF)}(M:Mod K mg base)(m:mg x=ψ (.ref f))
  (n:K.lookup f=ψ #[h,j,.func (nB x a (CN st) (pQ st) (fU st) .none kV b i k d ct),l]) (e:fN K x=ψ (c,T)):d = .ref c:=by
 unfold fN at e;split at e
 ·rename_i q o;have g:=YU M.kin M.glob o;rw[m] at g;cases g;rw[n] at e;dsimp only at e;split at e
  ·split at e
   ·split at e
    ·cases e;rfl
    ·cases e
   ·cases e
  ·cases e
 ·cases e
def m5.okC{x:Str}{st:Stmt}{N g:θ Str}{k:Nat}{F:FD}{t:RS}(Z:m5 K mg x st g)(D:m6 N g (fU st))
  (G:∀{f:Addr}(j9:aF)(A:dG)(outer:θ Env)(s:aK)(H:Hp)(E:XK),(∀c T,fN K x=ψ (c,T)->j9 = .ref c)->g_ k (A.deeper (envOfC x (fU st) s.z f j9)) ->
   vk (MV sw P w K mg base N x (fU st) f j9 A outer s H E).nox (pQ st) t)
  (len:∀ds Q,F ds Q->ds.length=g.length) (i:∀ds Q,F ds Q->t {nx:=λ_=>Q .non,rt:=Q} (dH N ds)):FnAt P w K mg base x g (k+1) F:=by
 let⟨f,fd,a,b,c⟩:=Z.ex;let⟨oc,od,kV,o,I,J,j9,L,uq,rfl,B,O⟩:=a.ex;have j:Mod K mg base->qa P w K mg base sw (k+1) f (nB x x (CN st) (pQ st) (fU st) .none kV o I J j9 L) g (wm K F):=λM=>
  K4 B O D (λn H Q E ⟨_,ds,l,r,h,_⟩=>by rw[<-r.length];show len ds l h) λA outer s H n Q E q ⟨R,ds,l,r,h,kk⟩=>
   #[_,(G j9 A outer s H E (λc T e=>Ej M b B e) q).nox,#[dH N ds,_,Hx (X:=(MV sw P w K mg base N x (fU st) f j9 A outer s H E).nox) R r,i ds l h,λi' Y' u y k U=>kk .non .non u y U.same .non,λd v u y k V W=>kk d v u y V W,λ_ _ _ z=>z.elim,λ_ _ _ z=>z.elim]]
 show#[f,_,#[λn H Q E ⟨_,ds,l,r,h,_⟩=>by rw[<-r.length];show len ds l h,λA outer s H m Y n Q E q C hb r hs=>(j C.mod).run A outer s H m Y n Q E q C hb r hs],.all c,a.kp,b]
end
structure w4(K:aL)(mg:Str->Option aF)(base:Heap)(x:Str)(c T:Addr):Prop where
 tab:fN K x=ψ (c,T)
 hd:VG base c T
 blt:base.BuiltinsAt mg T
 ne:mainGlobals≠T
section
variable{s:aK}
def Th{c:Addr}{t:Tok}(e:h.get? c=ψ oc)(a:oc.data = .fields vs)(b:vs[1]?=ψ (.str q t)):g9 P w H h c (LX c q):=
 #[#[oc,vs,t,e,a,b],#[_,e],λf g ⟨oc,vs,t,e,d,v⟩ k=>#[oc,vs,t,k _ e,d,v]]
def Je{pos a:Pos}{c d:aF}(l:θ aF)(e:TriplesOk l)(h:codeAmong a (l++[rawInt pos.line,rawInt pos.col,c])=ψ d):codeAmong a l=ψ d\/(d=c/\a.col=pos.col):=by
 fun_induction TriplesOk l with
 |case1=>
  erw[bS,codeAmong,rawInt] at h;split at h
  ·rename_i b;cases h;show .inr #[bg,?_];simp at b;lia
  ·cases h
 |case2 g t i u x rest f=>
  erw[bK,codeAmong] at h⊢;split at h
  ·rename_i b;rw[υ b];show .inl h
  ·rename_i b;rw[ω b];show f e h
 |case3 l j k=>show e.elim
def Vk{c T:Addr}(so:f9 X i Z H)(I:Inv X Φ Z H s)(W:w4 X.K X.mg X.base x c T)(hx:x∈wY)(nq:X.env.code = .ref c)
  (K_:defaultsOf params X.env=([],[])) (sj:closureFor scope X.env=pure ot) (xi:X.env.qual ++ "<lambda>" = xX g7.col)
  (h:∀H2 h' f c' w_ tk,Inv X Φ Z H2 {s with heap:=h',toks:=tk}->a_ H H2->h'.objs.size=f+1->H2 f=ξ->s.z<=f->h'.get? f=ψ (vN "<lambda>" (xX g7.col) params body scope ot ((X.mg "__name__").getD .none) c' w_)->h'.CodeRec (.ref c') (xX g7.col) ->
   Q (.ref f) {s with heap:=h',toks:=tk}):Δ X (eval (.Lambda params body scope g7) X.env) Q E s:=by
 let⟨l,y,ok⟩:=so.tabs x c T hx W.tab;have hP:s.heap.get? T=ψ (sZ l):=I.hok T _ y;have hg:s.heap.Ns mainGlobals X.mg:=I.mod.glob.keeps I.bk;show PySem.W.kla_eval K_ ?_;rw[xi];cases hn:codeAmong g7 l.toList with
 |none=>
  show PySem.W.kla_makeFunction sj I.ok.glob hg nq (W.hd.keeps I.bk) hP ok.ok hn W.ne (W.blt.keeps I.bk) λc' w_ h' tk y3 m k8 U' B=>?_;let⟨c2,P,R,t,e2,G,J,L⟩:=id U';cases e2;have A:∀b o,H b=ψ o->(∀M,o≠.tbl M)->b≠T:=λb o q n z=>by subst z;rw[y] at q;cases q;show n _ rfl
  have C:H c'=ξ:=I.hok.fresh m;have U:T≠c':=dF y C;have N:∀b o,b≠T->s.heap.get? b=ψ o->(h'.push (vN "<lambda>" (xX g7.col) params body scope ot ((X.mg "__name__").getD .none) c' w_)).get? b=ψ o:=λb o n e=>aR _ (y3 b o n e);have size:s.z<=h'.objs.size:=dY m (kM k8);have a:∀b o,H b=ψ o->b≠T->f_ (f_ H c' (LX c' (xX g7.col))) T (.tbl (l ++ (LE [rawInt g7.line,rawInt g7.col,.ref c']))) b=ψ o:=λb o q n=>by
   rw[cY n,cY (dF q C)];show q
  have codeAt:f_ (f_ H c' (LX c' (xX g7.col))) T (.tbl (l ++ (LE [rawInt g7.line,rawInt g7.col,.ref c']))) c'=ψ (LX c' (xX g7.col)):=by rw[cY (Ne.symm U),fA]
  have D:tj H (f_ (f_ H c' (LX c' (xX g7.col))) T (.tbl (l ++ (LE [rawInt g7.line,rawInt g7.col,.ref c'])))):=λb M q=>by
   by_cases g:b=T
   ·subst g;rw[y] at q;cases q;show#[_,fA,λ_=>#[?_,λpos V z=>?_]]
    ·rw[wB];show TriplesOk_snoc _ _ _ _ ok.ok
    ·rw[wB] at z;rcases Je (pos:=g7) (c:=.ref c') _ ok.ok z with z | ⟨rfl,zc⟩
     ·let⟨d,e1,e3⟩:=ok.code pos V z;show#[d,e1,a d _ e3 (A d _ e3 λ_ z=>by cases z)]
     ·show#[c',bg,by rw[zc];show codeAt]
   ·show#[(LE []),by rw[rX];show a b _ q g,λk=>by rw[rX];show k.mono λd j z=>a d _ z (A d _ z λ_ z=>by cases z)]
  have O:a_ H (f_ (f_ H c' (LX c' (xX g7.col))) T (.tbl (l ++ (LE [rawInt g7.line,rawInt g7.col,.ref c'])))):=#[λb o q nt=>a b o q (A b o q λM z=>by subst z;show nt),D];have Y:qb X.prog X.w (f_ (f_ H c' (LX c' (xX g7.col))) T (.tbl (l ++ (LE [rawInt g7.line,rawInt g7.col,.ref c'])))) (h'.push (vN "<lambda>" (xX g7.col) params body scope ot ((X.mg "__name__").getD .none) c' w_)):=λb u q=>by
   by_cases g:b=T
   ·subst g;rw[fA] at q;cases q;show aR _ B
   ·rw[cY g] at q;by_cases hc:b=c'
    ·subst hc;rw[fA] at q;cases q;show Th (aR _ G) J L
    ·rw[cY hc] at q;show(I.hok b u q).stay (λd v wj e=>N d v ?_ e) (λd e=>a d _ e (A d _ e λ_ z=>by cases z)) λd xs e=>a d _ e (A d _ e λ_ z=>by cases z);rcases wj with rfl |z
     ·show g
     ·show A d _ z λ_ z=>by cases z
  have un:Un X.fs [] H (f_ (f_ H c' (LX c' (xX g7.col))) T (.tbl (l ++ (LE [rawInt g7.line,rawInt g7.col,.ref c'])))) s.heap (h'.push (vN "<lambda>" (xX g7.col) params body scope ot ((X.mg "__name__").getD .none) c' w_)):=by
   have neT:∀b,H b=ξ->b≠T:=λb n z=>(by subst z;rw[y] at n;cases n);show#[λb o e n _ _=>N b o (neT b n) e,λb o e n _ _=>#[o.slots,N b o (neT b n) e],λb o e n _=>?_,λb o e _=>?_,λb xs q=>O.get b _ q trivial,λb o u q=>O.get b _ q trivial,λb M q=>O.tbl q]
   ·rw[cY (neT b n),cY (bP (bU (bG e) m))];show n
   ·by_cases g:b=T
    ·subst g;show#[_,aR _ B]
    ·show#[o,N b o g e]
  show h _ _ h'.objs.size c' w_ tk (I.un un Y) O (mC ..) ?_ size (bT _ rfl) #[c',P,R,t,bg,aR _ G,J,L];have fr:H h'.objs.size=ξ:=I.hok.fresh size;rw[cY (Ne.symm (dF y fr)),cY (kN k8)];show fr
 |some V=>
  let⟨c',rfl,x6⟩:=ok.code g7 V hn;obtain⟨⟨P,R,t,G,J,L⟩,_⟩:=I.hok c' _ x6;show PySem.W.kla_makeFunctionHit sj I.ok.glob hg nq (W.hd.keeps I.bk) hP ok.ok hn (W.blt.keeps I.bk) λw_ h' tk hk F=>?_;show h H _ h'.objs.size c' w_ tk (I.kept λb o e=>aR _ (hk b o e)) (a_.refl H) (mC ..) (I.hok.fresh F) F (bT _ rfl) #[c',P,R,t,bg,aR _ (hk _ _ G),J,L]
end
def Gx{α β:Type}{g:α->β}:∀{l1 l0:θ β},l1.Perm l0->∀l2:θ α,l0=l2.map g->∃l3:θ α,l3.Perm l2/\l1=l3.map g:=by
 intro l1 l0 h
 induction h with
 |nil=>intro l2 e;show#[[],by rw[List.map_eq_nil_iff.mp e.symm],bg]
 |cons x p n=>
  intro l2 e;cases l2 with
  |nil=>cases e
  |cons a l2=>
   let⟨d,f⟩:=zO e;let⟨l3,i,c⟩:=n l2 f;show#[a::l3,i.cons a,by rw[aN,c,d]]
 |swap x y l=>
  intro l2 e
  match l2,e with
  |a::b::l2,e=>
   let⟨d,f⟩:=zO e;let⟨c,j⟩:=zO f;show#[b::a::l2,VD ..,by simp[d,c,j]]
 |trans s u k m=>
  intro l2 e;let⟨l3,i,c⟩:=m l2 e;let⟨o,q,j⟩:=k l3 c;show#[o,q.trans i,j]
def au{h:Heap}{L:Addr}{m c:Str->Option aF}(a:h.Ns L m)(b:h.Ns L c):m=c:=a.eq_nsMap.trans b.eq_nsMap.symm
abbrev pr2(p:Int×Int):D:=.tup [.int p.1,.int p.2]
def Dq(j:Nat)(c:RE):RA:=λa Q=>c a λx=>∃(B:Int)(fs:θ (Int×Int)),a[j]?=ψ (ψ (.d (.int B)))/\x = .lst (fs.map pr2)/\fs.length<64/\(∀f∈fs,uu B f.2/\MulOk f.1 (B.fdiv f.2)) /\
 ∀b:θ (Int×Int),b.Perm fs->b.Pairwise (λp q=>p.1*B.fdiv p.2<=q.1*B.fdiv q.2)->Q (b.map pr2)
def _root_.L2.Inv.frame{Z:St}{s:aK}(I:Inv X Φ Z H s)(h:s.heap.Ns X.env.locals m)(d:h'.Ns X.env.locals m)(k:∀b o,b≠X.env.locals->s.heap.get? b=ψ o->h'.get? b=ψ o):Inv X Φ Z H {s with heap:=h',toks:=tk}:=by
 have f:∀b u,H b=ψ u->b≠X.env.locals:=λb u e z=>by rw[z,I.free] at e;cases e
 show I.step (g':=s.gens) (d':=s.drawn) (ch:=[]) (λ_ z=>nomatch z) (λb o n _ _ e _=>k b o n e) (λb o n _ _ e _=>#[o.slots,k b o n e]) (λ_ _ _ _ n=>n) (λb o _ e=>?_) (λ_ _ e=>e) (λ_ _ _ e=>e) (λb w e=>#[(LE []),by rw[e];simp]) (λy i=>?_) (λb u e=>?_) I.bare
 ·by_cases g:b=X.env.locals
  ·subst g;let⟨j,_,_,l,_⟩:=d;show#[j,l]
  ·show#[o,k b o g e]
 ·rw[au i h];show d
 ·show(I.hok b u e).stay (λc v a q=>k c v ?_ q) (λ_ q=>q) λ_ _ q=>q;rcases a with rfl |a
  ·show f c u e
  ·show f c _ a
theorem YA{K:aL}{H:Hp}:∀(l:θ ((Int×Int)×aF)),(∀x∈l,∃v,RelV v x.2/\je K H (pr2 x.1) v)->∃ws:θ V,c9 ws (l.map (·.2))/\cn K H (l.map λx=>pr2 x.1) ws
 | [],_=>#[[],.nil,.nil]
 |x::l,h=>by
  let⟨ws,a,b⟩:=YA l λy c=>h y (cR _ c);let⟨v,r1,r2⟩:=h x dL;show#[v::ws,.cons r1 a,.cons r2 b]
def Vj{x y:Str}{l:θ (Str×Addr)}{c:Addr}(h:l.lookup y=ψ c):∀z∈[(x,NameKind.local),(y,gS)],z.2=gS->∃c,l.lookup z.1=ψ c:=λz m e=>by
 rcases aV.mp m with rfl |m
 ·cases e
 ·cases bR.mp m;show#[c,h]
section
variable{X:Cx}{e:Expr}{te:RE}{p pos kp g7:Pos}{x y dn:Str}{c T:Addr}{k j:Nat}{params:Arguments}{scope:Scope}{p1 p2 p3 p4 p5 p6 p7 p8 p9:Pos}{n1 n2:Nat}
def Pz(hr:g_ (k+3) X.A)(R_:X.mg "sorted" = ξ)(W:w4 X.K X.mg X.base dn c T)(vp:dn∈wY)(nq:X.env.code = .ref c)(h:DB X e te)
  (xi:X.env.qual ++ "<lambda>" = xX g7.col) (N_:Gl X "sorted":=by rfl) (K_:defaultsOf params X.env=([],[]):=by rfl) (hfree:∀z∈scope.names,z.2 = .free->∃c,X.env.cells.lookup z.1=ψ c)
  (hs:starEach [e] X.env=[(χ,eval e X.env)]:=by rfl) (hn:starEach [] X.env=[]:=by rfl)
  (u3:∀(q:Str)(body:Expr)(cl:θ (Str×Addr))(pm cd ct v:aF),bindArgs (PySem.W.kla_fn "<lambda>" q params body scope cl pm cd ct) #[[v],[]]=pure [(x,v)]:=by intro _ _ _ _ _ _ _;rfl)
  (yv:scope.names.lookup x=ψ .local:=by rfl) (vg:scope.isCoroutine=χ:=by rfl) (No:scope.isGenerator=χ:=by rfl) (hk:scope.kind = .function:=by rfl) (on:∀z∈scope.names,z.2≠.cell:=by decide)
  (hy:scope.names.lookup y=ψ .free:=by rfl) (xg:X.N[j]?=ψ y:=by rfl) (ma:X.env.kindOf y=ψ .cell:=by rfl)
  (vx:(x == ("__debug__":Str))=χ:=by decide) (vy:(y == ("__debug__":Str))=χ:=by decide) (vm:(y == ("__classdict__":Str))=χ:=by decide):
  DO X (.Call (.Name "sorted" p) [e] [#[ψ "key",.Lambda params (.BinOp (.Subscript (.Name x p1) (.Constant (.int 0) n1 p2) p3) .Mult (.BinOp (.Name y p4) .FloorDiv (.Subscript (.Name x p5) (.Constant (.int 1) n2 p6) p7) p8) p9) scope g7,kp]] pos) (Dq j te):=by
 intro Φ s Z H Q I hh;let⟨C,P,so,q,kq⟩:=hh;show fF (oA I N_ R_ boot_sorted ?_);show callWith_kw (i0 (oQ h hs hn pos Φ s Z H (λvs H1=>∃(B:Int)(fs:θ (Int×Int))(v:V),vs=[v]/\a_ H H1/\j2 X.K H1 (.lst (fs.map pr2)) v/\C[j]?=ψ (ψ (.d (.int B)))/\fs.length<64/\(∀f∈fs,uu B f.2/\MulOk f.1 (B.fdiv f.2)) /\
   ∀gs:θ (Int×Int),gs.Perm fs->gs.Pairwise (λp q=>p.1*B.fdiv p.2<=q.1*B.fdiv q.2)->P (gs.map pr2)) I
  #[C,_,so,q,λd v H1 hx s1 r1=>?_]) λus s1 ⟨vs,H1,I1,r1,q1⟩=>?_) (by rw[hs,hn];rfl) (by rw[hs];rfl)
 ·let⟨B,fs,G,rfl,J,e3,e4⟩:=hx;show#[B,fs,v,bg,s1,r1,G,J,e3,e4]
 let⟨B,fs,v,rfl,qw,rb,hB,wf,hok,hP⟩:=q1;let⟨M,sj,jx,jy⟩:=KN hfree;show kws_cons (Vk (so.ext qw) I1 W vp nq K_ sj xi λH2 h2 f U w_ tk F z_ hsz hf0 jz lN U'=>kws_nil ?_);have o_:f9 X C Z H2:=(so.ext qw).ext z_;let⟨l,vs,rfl,hq,rr⟩:=(rb.same z_).lst;let⟨u,rfl,rx⟩:=vals1 r1;cases rx;let⟨E,rv,pl,hz⟩:=F.list hq;let⟨m,hm,hl⟩:=id F.loc;show Δ X (call (.builtin "sorted") [.ref l] [(iG "key",.ref f)]) (EP X Φ Z Q) X.xe {s1 with heap:=h2,toks:=tk};have lf:=rr.length;have li:=rv.length;rw[aJ] at lf;have nL:∀b u,H2 b=ψ u->b≠X.env.locals:=λb u e z=>by rw[z,F.free] at e;cases e
 have fL:f≠X.env.locals:=λz=>by
  have h1:X.env.locals<s1.z:=I1.lt;rw[<-z] at h1;show Ω (bU h1 jz) (iQ _)
 have Y:∀(i:Nat)(g:Int×Int)(u:aF),fs[i]?=ψ g->E[i]?=ψ u->∃a ts,u = .ref a/\H2 a=ψ (.tup [.int g.1,.int g.2])/\c9 [.int g.1,.int g.2] ts/\IsTup h2 a ts.toArray:=λi g u eg eu=>by
  let⟨v,G,J⟩:=rr.get (i:=i) (d:=pr2 g) (by rw[bC,eg];rfl);let⟨u',f1,f2⟩:=rv.get G;rw[eu] at f1;cases f1;cases J with
  |tup ha ra=>
   cases f2;have ev:_=[V.int g.1,V.int g.2]:=cn.ints_inv (ns:=[g.1,g.2]) ra;subst ev;let⟨ts,g1,g2,_⟩:=F.tuple (m7.of (K:=X.K) ha);show#[_,ts,bg,ha,g1,g2]
 let⟨vB,eB,rB⟩:=o_.rel j _ hB;have qu:=je.int_inv rB;subst qu;let⟨uB,zy,look⟩:=hl j y _ xg eB (.inr (.inl ma));let⟨tB,rfl⟩:=zy;obtain⟨O,k9,e6⟩:∃O,X.env.cells.lookup y=ψ O/\h2.IsCell O (ψ (.int B tB)):=by
  rcases look with⟨z,_⟩ | ⟨_,c,G,J⟩
  ·rw[ma] at z;cases z
  ·show#[c,G,J]
 have ff:M.lookup y=ψ O:=by
  let⟨c3,e3⟩:=jy (y,.free) (jX hy) rfl;have:=jx y c3 e3;rw[k9] at this;cases this;show e3
 have qh:O≠X.env.locals:=F.cne y O k9;show Ym (kz:=fs.map λg=>g.1*B.fdiv g.2) hm pl.isList (by rw[aJ];lia) ν hsz #[_,lN] fL (λi v kk hv yt R A_ L ns3=>?_) λD h4 F' out c4 ya yy hD tr ko=>?_
 ·-- a key
  obtain⟨g,eg,rfl⟩:∃g,fs[i]?=ψ g/\kk=g.1*B.fdiv g.2:=by
   rw[bC] at yt;cases e:fs[i]? with
   |none=>rw[e] at yt;cases yt
   |some g=>rw[e] at yt;cases yt;show#[g,bg,bg]
  let⟨a,ts,rfl,ha,ht,tup⟩:=Y i g v eg hv;let⟨vr,Q_⟩:=hok g (bJ eg);cases ht with
  |cons t1 ht=>
   cases ht with
   |cons t2 ht=>
    cases ht;let⟨k1,rfl⟩:=t1;let⟨k2,rfl⟩:=t2;show Vi (x:=x) (s:={s1 with heap:=R,toks:=A_}) hr.in1.in1.depth (L f _ fL lN) ?_ (F.ok.mod.nolimit.keeps λb o e=>L b o (bP (bU (bG e) (dY F.ok.bsz F.ok.above))) (F.bk b o e)) (u3 _ _ _ _ _ _ _) yv vg No hk on λh5 tk5 yz ka=>?_
    ·let⟨c2,oc,HD,t2,J,x_,hd2,ia⟩:=U';show#[c2,oc,HD,t2,J,L c2 oc (λz=>by
      let⟨o',es,ep,e',d',_⟩:=hm;rw[<-z] at e';rw[x_] at e';cases e';rw[hd2] at d';cases d') x_,hd2,ia]
    ·have body:QE X.prog X.w (X.A.in1.in1.deeper (oI (xX g7.col) scope R.objs.size f (.ref U) M)) (oI (xX g7.col) scope R.objs.size f (.ref U) M) h5 (.BinOp (.Subscript (.Name x p1) (.Constant (.int 0) n1 p2) p3) .Mult (.BinOp (.Name y p4) .FloorDiv (.Subscript (.Name x p5) (.Constant (.int 1) n2 p6) p7) p8) p9) (v9 (g.1*B.fdiv g.2)):=by
      have gu:IsTup h5 a [AV g.1 k1,AV g.2 k2].toArray:=by
       let⟨o,G,J⟩:=tup;show#[o,ka a o (L a o (nL a _ ha) G),J]
      have e5:h5.IsCell O (ψ (.int B tB)):=by
       let⟨o,G,J⟩:=e6;show#[o,ka O o (L O o qh G),J]
      have nx:∀{pz:Pos},QE X.prog X.w (X.A.in1.in1.deeper (oI (xX g7.col) scope R.objs.size f (.ref U) M)) (oI (xX g7.col) scope R.objs.size f (.ref U) M) h5 (.Name x pz) (· = .ref a):=cf hk yv yz η vx;have int:∀{i:Int}{t:Tok}{e:Expr},QE X.prog X.w (X.A.in1.in1.deeper (oI (xX g7.col) scope R.objs.size f (.ref U) M)) (oI (xX g7.col) scope R.objs.size f (.ref U) M) h5 e (· = .int i t)->QE X.prog X.w (X.A.in1.in1.deeper (oI (xX g7.col) scope R.objs.size f (.ref U) M)) (oI (xX g7.col) scope R.objs.size f (.ref U) M) h5 e (v9 i):=λhq s Q e k=>hq s Q e λu tk hu=>k u tk #[_,hu];show cg Q_.ok (int (bo (n:=0) nx M5 gu (show 2<=sizeLine by decide) rfl λ_ _=>rfl)) (V5 vr (int (V6 hk hy ff e5 vy vm)) (int (bo (n:=1) nx M5 gu (show 2<=sizeLine by decide) rfl λ_ _=>rfl)))
     show body _ _ rfl λu GD hu=>?_;let⟨t6,rfl⟩:=hu;show#[h5,GD,t6,bg,bg,ka]
 ·-- what is told
  let⟨ps,pp,eo,y7⟩:=ko;have ez:(fs.map λg=>g.1*B.fdiv g.2).zip E=(fs.zip E).map λz=>(z.1.1*B.fdiv z.1.2,z.2):=by
   rw[List.zip_map_left];rfl
  let⟨l3,p3,e3⟩:=Gx pp (fs.zip E) ez;have pf:(l3.map (·.1)).Perm fs:=by
   have:=p3.map (·.1);rw[List.map_fst_zip ν] at this;show this
  have B1:(l3.map (·.1)).Pairwise (λp q=>p.1*B.fdiv p.2<=q.1*B.fdiv q.2):=by
   rw[e3] at y7;rw[gG] at y7⊢;show y7.imp λ{a b} h=> ~~~h
  have jf:out.toList=l3.map (·.2):=by rw[eo,e3,cO];rfl
  have mem:∀z∈l3,∃v,RelV v z.2/\je X.K H2 (pr2 z.1) v:=λz hz=>by
   let⟨i,hi,ei⟩:=dS (p3.mem_iff.mp hz);have o6:i<fs.length/\i<E.length:=(by rw[List.length_zip] at hi;lia);rw[List.getElem_zip] at ei;let⟨a,ts,G,ha,_,_⟩:=Y i fs[i] E[i] (aG o6.1) (aG o6.2);show#[.ref a,?_,?_]
   ·rw[<-ei];show G
   ·rw[<-ei];show .tup ha (cn.ints (ns:=[fs[i].1,fs[i].2]))
  let⟨ws,V1,R1⟩:=YA l3 mem;have I4:Inv X Φ Z H2 {s1 with heap:=h4,toks:=F'}:=F.frame hm yy ya;have lq:H2 D=ξ:=F.hok.fresh hD;have lw:=V1.length;have l3l:l3.length=fs.length:=by have:=pf.length_eq;simpa using this
  have I5:=F.trackO (a:=D) (w:=.lst ws) I4 hD lq #[by rw[gX];simp at lw;lia,out.toList,c4,by rw[jf];show V1,~~~tr];show#[.ref D,_,I5,bg,kq _ _ _ H2 (by have:=hP _ pf B1;rw[cO] at this;show this) (qw.trans z_) lq R1]
end
structure s_(K K':aL):Prop where
 get:∀b o,K.lookup b=ψ o->o.data≠.fields (LE [])->K'.lookup b=ψ o
 of:∀b o,K'.lookup b=ψ o->K.lookup b=ψ o
section
variable{K K':aL}
def s_.ns(z:s_ K K'){a:Addr}{x:Str}{r:Option aF}(e:jQ K a x=ψ r):jQ K' a x=ψ r:=by
 unfold jQ at e⊢;cases q:K.lookup a with
 |none=>rw[q] at e;cases e
 |some o=>
  rw[q] at e;let⟨c,d,b,f⟩:=o;cases b with
  |dict g n=>rw[z.get a _ q λy=>by cases y];show e
  |_=>cases e
def s_.ns'(z:s_ K K'){a:Addr}{x:Str}{r:Option aF}(e:jQ K' a x=ψ r):jQ K a x=ψ r:=by
 unfold jQ at e⊢;cases q:K'.lookup a with
 |none=>rw[q] at e;cases e
 |some o=>rw[q] at e;rw[z.of a _ q];show e
def s_.code(z:s_ K K'){a:aF}{q:Str}(e:nY K a q=ζ):nY K' a q=ζ:=by
 unfold nY at e⊢;split at e
 ·rename_i c;cases w:K.lookup c with
  |none=>rw[w] at e;cases e
  |some o=>
   rw[w] at e;let⟨d,f,b,g⟩:=o;cases b with
   |fields h=>
    rw[z.get c _ w λy=>by cases y;cases e];show e
   |_=>cases e
 ·cases e
def s_.fn(z:s_ K K'){x a:Str}{st:Stmt}{f:Addr}{d:mB}(F:wz K x a st f d):wz K' x a st f d:=by
 let⟨e,g,kV,c,h,i,j,k,l,rfl,m,n⟩:=F.ex;have b:=z.get f _ m λy=>by cases y
 show#[#[e,g,kV,c,h,i,j,k,l,bg,b,z.code n],?_];unfold mI;erw[b]
def s_.def(z:s_ K K'){mg:Str->Option aF}{x:Str}{st:Stmt}{d:θ Str}(Z:m5 K mg x st d):m5 K' mg x st d:=by
 let⟨f,e,a,b,c⟩:=Z.ex;show#[f,e,z.fn a,b,c]
def s_.tab'(z:s_ K K'){x:Str}{r:Addr×Addr}(e:fN K' x=ψ r):fN K x=ψ r:=by
 unfold fN at e⊢;split at e
 ·rename_i f a;rw[z.ns' a];fail;split at e
  ·rename_i b;rw[z.of _ _ b];fail;split at e
   ·rename_i c g;split at e
    ·rename_i d;rw[z.of _ _ d];show e
    ·cases e
   ·cases e
  ·cases e
 ·cases e
def s_.tab(z:s_ K K'){x:Str}{r:Addr×Addr}(e:fN K x=ψ r):fN K' x=ψ r:=by
 unfold fN at e⊢;split at e
 ·rename_i f a;rw[z.ns a];fail;split at e
  ·rename_i b;rw[z.get _ _ b λy=>by cases y];fail;split at e
   ·rename_i c g;split at e
    ·rename_i h _ d;rw[z.get _ _ d λy=>by cases y;cases e];show e
    ·cases e
   ·cases e
  ·cases e
 ·cases e
end
def tab_mk{K:aL}{x:Str}{f c P:Addr}{i b:aF}{j d:Option Addr}{h:mB}{k g:Array (Option aF)}{vs:Array aF}(a:jQ K mainGlobals x=ψ (ψ (.ref f)))(l:K.lookup f=ψ ⟨i,j,.func h,k⟩)(e:h.code = .ref c)
  (m:K.lookup c=ψ #[b,d,.fields vs,g]) (v:vs[11]?=ψ (.ref P)):fN K x=ψ (c,P):=by
 unfold fN;rw[a];fail;rw[l];fail;rw[e];fail;rw[m];fail;rw[v]
def sM(K:aL):θ Addr:=wY.filterMap λx=>(fN K x).map (·.2)
def kT(K:aL):aL:=K.filter λe=>!(sM K).contains e.1
theorem uY{p:Addr->Bool}:∀(K:aL)(b:Addr),(K.filter λe=>p e.1).lookup b=if p b then K.lookup b else ξ
 | [],b=>by simp
 | (a,o)::K,b=>by
  have f:=uY (p:=p) K b;by_cases d:p a
  ·rw[List.filter_cons_of_pos (by show d)];by_cases c:b=a
   ·subst c;simp[kH,d]
   ·rw[kH,kH,beq_eq_false_iff_ne.mpr c];show f
  ·rw[List.filter_cons_of_neg (by show d),f];by_cases c:b=a
   ·subst c;simp[d]
   ·rw[kH,beq_eq_false_iff_ne.mpr c]
def ZX(K:aL)(mg:Str->Option aF)(base:Heap):Prop:=∀x c T,x∈wY->fN K x=ψ (c,T)->w4 K mg base x c T
def Q8{K:aL}{h:Heap}(a:K.In h)(c:∀b∈sM K,h.get? b=ψ (sZ (LE []))):s_ K (kT K):=by
 show#[λb o e n=>?_,λb o e=>?_]
 ·unfold kT;rw[uY (p:=λb=>!(sM K).contains b)];have d:b∉sM K:=λm=>by
   have:=c b m;rw[a b o e] at this;cases this;show n rfl
  simp[d,e]
 ·unfold kT at e;rw[uY (p:=λb=>!(sM K).contains b)] at e;split at e
  ·show e
  ·cases e
def A5{K:aL}{b:Addr}(m:b∈sM K):(kT K).lookup b=ξ:=by
 unfold kT;rw[uY (p:=λb=>!(sM K).contains b)];simp[m]
def Dx:b∈sM l↔∃x c,x∈wY/\fN l x=ψ (c,b):=by
 unfold sM;rw[oG];constructor
 ·rintro⟨x,m,e⟩;obtain⟨⟨c,T⟩,a,d⟩:=lJ.mp e;cases d;show#[x,c,m,a]
 ·rintro⟨x,c,m,e⟩;show#[x,m,by rw[e];rfl]
def Qj{P:cB}{w:dD}{K:aL}{mg mb:Str->Option aF}{k:Nat}{fa a:Addr}{fd:mB}{x:Str}{f:aK}{vs:θ aF}{ns:θ Int}
  (KX:K.In f.heap) (A:f.heap.Ns mainGlobals mg) (g:f.heap.Ns builtinsNs mb) (uz:∀x:Str,x≠"__name__"->mb x=bootBuiltins x) (L:f.heap.NoLimit) (hg:f.gens = (LE []))
  (M:f.heap.get? a=ψ {cls:=.type "list",data:=.seq vs.toArray}) (hi:IntsAre vs ns) (hl:ns.length<=63) (hr:g_ k callerA)
  (ve:∃bm ob,mg "__builtins__" = ψ (.ref bm)/\bm≠builtinsNs/\f.heap.get? bm=ψ ob/\ob.cls = .type "module"/\ob.dict=ψ builtinsNs/\ob.data = .plain)
  (hT:∀x c T,x∈wY->fN K x=ψ (c,T)->VG f.heap c T/\f.heap.get? T=ψ (sZ (LE [])))
  (F:∀(base:Heap)(K':aL),s_ K K'->K'.In base->base.Ns mainGlobals mg->ZX K' mg base->qa P w K' mg base sw k fa fd [x] (wm K' (Pc 63))) (u3:∀(s:aK)(u:aF),BindsTo s fd #[[u],[]] [(x,u)]):
  codeAny (model P w) callerA (.call (.ref fa) #[[.ref a],[]]) (λr s'=>r = .ok (.ret (.bool ζ))/\OldK f.heap s'.heap/\s'.os=f.os/\AllBare s'.gens) f:=by
 have rv:=HS hi;have N:=hi.length;have l:∀b∈sM K,f.heap.get? b=ψ (sZ (LE [])):=λb m=>by
  let⟨x,c,m1,e⟩:=Dx.mp m;show(hT x c b m1 e).2
 have Z:s_ K (kT K):=Q8 KX l;have na:a∉sM K:=λm=>by
  have:=l a m;rw[M] at this;cases this
 have C:∀H:Hp,(∀b u,H b=ψ u->(b∈sM K/\u = .tbl (LE []))\/(b=a/\K.lookup a=ξ/\∃o xs,u = .frz o (.lst xs)))->(∀b∈sM K,H b=ψ (.tbl (LE [])))->vf (kT K) H a (ns.map V.int)->qb P w H f.heap ->
   codeAny (model P w) callerA (.call (.ref fa) #[[.ref a],[]]) (λr s'=>r = .ok (.ret (.bool ζ))/\OldK f.heap s'.heap/\s'.os=f.os/\AllBare s'.gens) f:=by
  intro H hO hH hS O;have sf:∀{b:Addr}{o:Obj},f.heap.get? b=ψ o->H b=ξ->(ZD f.heap H).get? b=ψ o:=λe n=>Va e n;have Z_:∀{b:Addr}{o:Obj},f.heap.get? b=ψ o->o.data≠.fields (LE [])->b≠a->H b=ξ:=λ{b o} e d n=>by
   cases q:H b with
   |none=>rfl
   |some u=>
    rcases hO b u q with⟨m,_⟩ | ⟨e',_⟩
    ·have:=l b m;rw[e] at this;cases this;show(d rfl).elim
    ·show(n e').elim
  have G:∀{b:Addr}{o:Obj},f.heap.get? b=ψ o->(∀xs n,o.data≠.seq xs n)->b≠a:=λ{b o} e d z=>by
   subst z;rw[M] at e;cases e;show d _ _ rfl
  have B:∀{b:Addr}{m:Str->Option aF},f.heap.Ns b m->(ZD f.heap H).Ns b m:=λ{b m} ⟨o,es,ep,e,d,r⟩=>#[o,es,ep,sf e (Z_ e (by rw[d];intro y;cases y) (G e (by rw[d];intro _ _ y;cases y))),d,r];have Q:(kT K).In (ZD f.heap H):=λb o e=>sf (KX b o (Z.of b o e)) (by
   cases q:H b with
   |none=>rfl
   |some u=>
    rcases hO b u q with⟨m,_⟩ | ⟨e',n,_⟩
    ·rw[A5 m] at e;cases e
    ·subst e';have:=Z.of b o e;rw[n] at this;cases this)
  have hM:Mod (kT K) mg (ZD f.heap H):=#[Q,B A,#[mb,B g,uz],let ⟨mc,h1,h2⟩:=L;#[mc,B h1,h2]];have e0:ye P w (kT K) mg (ZD f.heap H) callerA [] f H:=#[bg,hM,λb o e=>C3 e,MJ (Qb _ _),trivial,λb g=>Ω (show b∈([]:θ Addr) from g) η,O,.of_eq hg];have tw:ZX (kT K) mg (ZD f.heap H):=λx c T m e=>by
   let⟨hd,R⟩:=hT x c T m (Z.tab' e);show#[e,?_,?_,λz=>?_]
   ·let⟨o,bL,U,tf,I,tg,x0,W,tt,j,X,Y,e4,r⟩:=hd;show#[o,bL,U,tf,I,tg,x0,W,tt,sf j (Z_ j (by rw[Y];intro y;cases y;cases e4) (G j (by rw[Y];intro _ _ y;cases y))),X,Y,e4,r]
   ·let⟨bm,ob,b1,b2,J,b4,b5,b6⟩:=ve;show#[bm,ob,b1,b2,λz=>?_,λz=>?_,sf J (Z_ J (by rw[b6];intro y;cases y) (G J (by rw[b6];intro _ _ y;cases y))),b4,b5,b6]
    ·let⟨o,es,ep,j,d,_⟩:=A;rw[<-z,J] at j;cases j;rw[b6] at d;cases d
    ·rw[z,R] at J;cases J;cases b6
   ·let⟨o,es,ep,j,d,_⟩:=A;rw[z,R] at j;cases j;cases d
  have Fh:o5 (kT K) H:=λx c T m e=>#[(LE []),hH T (Dx.mpr #[x,c,m,Z.tab' e]),#[trivial,λpos cv z=>by cases z]];show oM ((F _ _ Z Q (B A) tw).run callerA [] f H #[[.ref a],[]] [.ref a] [.ref a] (λv _=>v = .bl ζ) (λ_ _ _=>False) hr e0 (u3 f (.ref a)) (.cons rfl .nil)
   #[Fh,[.lst (ns.map .int)],λd=>d = .bl ζ,.cons (.lst hS .ints) .nil,#[ns,bg,hl,bg],λd v H' e _ r=>by subst e;show r.bl_inv]) λr s' h=>?_
  cases r with
  |error e=>show nM h
  |ok fl=>
   cases fl with
   |next=>show nM h
   |brk=>show nM h
   |cont=>show nM h
   |ret u=>
    let⟨v,H',os,bare,un,D,r',q⟩:=h;have q':v = .bl ζ:=q;subst q';obtain rfl:u=CK ζ:=r';have as:∀b o,f.heap.get? b=ψ o->asItWas f.heap s'.heap b o:=λb o e=>by
     cases q:H b with
     |none=>show .inl (un.keep b o e q (by intro z;show Ω (show b∈([]:List Addr) from z) η) η)
     |some u=>
      rcases hO b u q with⟨m,rfl⟩ | ⟨_,_,ob,xs,rfl⟩
      ·let⟨E,X⟩:=un.tbls b _ q;have Y:s'.heap.get? b=ψ (sZ ((LE [])++E)):=D b _ X;let⟨x,c,m1,e4⟩:=Dx.mp m;let⟨hd,R⟩:=hT x c b m1 e4;rw[e] at R;cases R;show .inr (.inl #[(hd.tab e).isCodeTable,bg,(LE []),E,bg,Y])
      ·have z2:=un.frzs b ob _ q;let⟨j,_⟩:=O b _ q;let⟨X,_⟩:=D b _ z2;rw[e] at j;cases j;show .inl X
    show#[bg,#[as,λb o e=>un.there b o e η],os,bare]
 cases hk:K.lookup a with
 |some o=>
  have e:=KX a o hk;rw[M] at e;cases e;show C (λb=>if b∈sM K then ψ (.tbl (LE [])) else ξ) (λb u z=>?_) (λb m=>υ m) (.inr #[_,vs.toArray,_,Z.get a _ hk (by intro y;cases y),bg,bg,bg,by rw[aZ,N,gX];lia,~~~rv]) (λb u z=>?_)
  ·by_cases g:b∈sM K
   ·have i:=(υ g).symm.trans z;cases i;show .inl #[g,bg]
   ·have i:=(ω g).symm.trans z;cases i
  ·by_cases g:b∈sM K
   ·have i:=(υ g).symm.trans z;cases i;show l b g
   ·have i:=(ω g).symm.trans z;cases i
 |none=>
  show C (λb=>if b∈sM K then ψ (.tbl (LE [])) else if b=a then ψ (.frz {cls:=.type "list",data:=.seq vs.toArray} (.lst (ns.map V.int))) else ξ) (λb u z=>?_) (λb m=>υ m) (.inl #[{cls:=.type "list",data:=.seq vs.toArray},?_]) (λb u z=>?_)
  ·by_cases g:b∈sM K
   ·have i:=(υ g).symm.trans z;cases i;show .inl #[g,bg]
   ·have i:=(ω g).symm.trans z;by_cases g:b=a
    ·have i:=(υ g).symm.trans i;cases i;show .inr #[g,hk,_,_,bg]
    ·have i:=(ω g).symm.trans i;cases i
  ·show(if a∈sM K then _ else _)=_;rw[ω na,υ rfl]
  ·by_cases g:b∈sM K
   ·have i:=(υ g).symm.trans z;cases i;show l b g
   ·have i:=(ω g).symm.trans z;by_cases g:b=a
    ·have i:=(υ g).symm.trans i;cases i;subst g;show#[M,by rw[aJ,gX];lia,vs,_,rv,M]
    ·have i:=(ω g).symm.trans i;cases i
def J7(q:cB)(K:aL):Prop:=∀x∈wY,(∃d,(recsOf q).find? (λe=>e.name == x)=ψ d)\/jQ K mainGlobals x=ψ ξ
def lamIs{q:cB}{K:aL}(a:(∃d,(recsOf q).find? (λe=>e.name == ("rising":Str))=ψ d)\/jQ K mainGlobals "rising" = ψ ξ)(b:(∃d,(recsOf q).find? (λe=>e.name == ("framed_rising":Str))=ψ d)\/jQ K mainGlobals "framed_rising" = ψ ξ)
  (c:(∃d,(recsOf q).find? (λe=>e.name == ("laid_triangles":Str))=ψ d)\/jQ K mainGlobals "laid_triangles" = ψ ξ):J7 q K:=λx m=>by
 erw[wY,aV,dM,or_false] at m;rcases m with rfl |rfl |rfl
 ·show a
 ·show b
 ·show c
def m5.okLT{P:cB}{w:dD}{K:aL}{mg:Str->Option aF}{x:Str}{st:Stmt}{d:θ Str}{k:Nat}{F:FD}(Z:m5 K mg x st d)
  (h:∀(base:Heap)(K':aL)(f:Addr)(fd:mB),s_ K K'->ZX K' mg base->wz K' x x st f fd->qa P w K' mg base sw k f fd d (wm K' F)):
  ∃f fd,mg x=ψ (.ref f)/\(∀us:θ aF,us.length=d.length->bindArgs fd #[us,[]]=pure (d.zip us))/\∀(base:Heap)(K':aL),s_ K K'->K'.In base->base.Ns mainGlobals mg->ZX K' mg base->qa P w K' mg base sw k f fd d (wm K' F):=by
 let⟨f,fd,a,b,c⟩:=Z.ex;show#[f,fd,b,c,λbase K' z _ _ e=>h base K' f fd z e (z.fn a)]
def walk_lawT{l:PySem.W.OpenLaw}{q:cB}{i:θ Str}{D:(Str->Option aF)->Heap->Prop}{B:dD->Heap->Prop}{d:DefRec}{K:Params->aL}{x:Str}{k:Nat}
  (E:l.most=ψ 63) (y:d.params.defaults=[]) (z:g_ k callerA)
  (H:∀(w:dD)(h:Heap),B w h->(K w.params).In h) (I:d.name = "law") (J:∀w:dD,J7 q (K w.params))
  (F:∀(w:dD)(mg:Str->Option aF)(h:Heap),(K w.params).In h->h.Ns mainGlobals mg ->
   ∃f fd,mg "law" = ψ (.ref f)/\(∀us:θ aF,us.length=[x].length->bindArgs fd #[us,[]]=pure ([x].zip us)) /\
    ∀(base:Heap)(K':aL),s_ (K w.params) K'->K'.In base->base.Ns mainGlobals mg->ZX K' mg base->qa l.prog w K' mg base sw k f fd [x] (wm K' (Pc 63))):
  PySem.W.WalkO q i D B l.row.toRowW d [] (λf vs=>PySem.call f vs):=by
 show kh.attach_call E y λw R U mg V X o Z cd L a vs ns G Y ho wj nq n M j v N=>?_;have A:=H w _ Y;rw[I] at n;let⟨f,fd,C,O,P⟩:=F w mg _ A G.T.g;rw[n] at C;cases C;show Qj A G.T.g G.T.b G.T.builtins G.T.nolimit N M j v z G.T.bmain (λx c T m e=>?_) P λs u=>.of_eq (O [u] rfl);rcases J w x m with⟨d',z⟩ |Q
 ·show PySem.W.tab_of G.T A z e
 ·unfold fN at e;rw[Q] at e;cases e
section
variable{P:cB}{w:dD}{K:aL}{mg:Str->Option aF}{base:Heap}{x:Str}{st:Stmt}{N ps:θ Str}{k:Nat}{F:FD}{t:RS}
def m5.mkD(Z:m5 K mg x st ps)(a:∀ds Q,F ds Q->t {nx:=λ_=>Q .non,rt:=Q} (dH N ds))
  (c:∀{f:Addr}{j9:aF}{A:dG}{outer:θ Env}{s:aK}{H:Hp}{E:XK},N.Nodup->g_ k (A.deeper (envOfC x (fU st) s.z f j9)) ->
   vk (MV sw P w K mg base N x (fU st) f j9 A outer s H E).nox (pQ st) t)
  (b:m6 N ps (fU st):=by show#[bg,bg,bg,γ,bg,γ,γ]) (len:∀ds Q,F ds Q->ds.length=ps.length:=by walk_at "len"):FnAt P w K mg base x ps (k+1) F:=
 Z.ok b (λ_ _ _ _ _ _=>c b.nd) len a
def S1{a:Str}{f:Addr}{c:mB}(e:wz K x a st f c)(len:∀ds Q,F ds Q->ds.length=ps.length)(b:∀ds Q,F ds Q->t {nx:=λ_=>Q .non,rt:=Q} (dH N ds))
  (g:∀{j9:aF}{A:dG}{outer:θ Env}{s:aK}{H:Hp}{E:XK},N.Nodup->g_ k (A.deeper (envOfC a (fU st) s.z f j9)) ->
   vk (MV sw P w K mg base N a (fU st) f j9 A outer s H E).nox (pQ st) t)
  (d:m6 N ps (fU st):=by show#[bg,bg,bg,γ,bg,γ,γ]):qa P w K mg base sw (k+1) f c ps (wm K F):=
 K5 e d (λ_ _ _ _ _ _=>g d.nd) len b
def def_mk{h:Heap}{f:Addr}{j:aF}{m g:Option Addr}{n:Array (Option aF)}{kV d i e ct:aF}(X:K.In h)(G:h.Ns mainGlobals mg)(a:jQ K mainGlobals x=ψ (ψ (.ref f)))
  (l:K.lookup f=ψ #[j,m,.func (nB x x (CN st) (pQ st) (fU st) .none kV d i g e ct),n]) (c:nY K e x=ζ) (k:mI K (.ref f)=ζ)
  (b:∀us:θ aF,us.length=ps.length->bindArgs (nB x x (CN st) (pQ st) (fU st) .none kV d i g e ct) #[us,[]]=pure (ps.zip us)):m5 K mg x st ps:=
 #[_,_,P8 (st:=st) l c k,YU X G a,b]
end
section
variable{p pos:Pos}{t:RA}
def bE(C:FnAt X.prog X.w X.K X.mg X.base x ps k F)(a:g_ n X.A)(b:DA X (e::es) t)(c:k<=n:=by decide)(d:Gl X x:=by rfl)
  (f:(x == ("__debug__":Str))=χ:=by decide) (g:starEach (e::es) X.env=(χ,eval e X.env)::starEach es X.env:=by rfl) (h:(backTo pos (starEach es X.env)).any (·.1)=χ:=by rfl):
  DE X (.Call (.Name x p) (e::es) [] pos) (cE F t):=Uf C (a.mono c) b d f g h
def bO:DB X (.Constant (.int i) j pos) (rC (.int i)):=DE.bor eE
def eb{t:RE}(h:DE X e t):DB X e t:=DE.bor h
end
section
variable{P:cB}{w:dD}{K:aL}{mg:Str->Option aF}{base:Heap}{x:Str}{st:Stmt}{N ps:θ Str}{k:Nat}{F:FD}{t:RS}{lc lt:Addr}
def m5.mkC(Z:m5 K mg x st ps)(W:w4 K mg base x lc lt)(a:∀ds Q,F ds Q->t {nx:=λ_=>Q .non,rt:=Q} (dH N ds))
  (c:∀{f:Addr}{j9:aF}{A:dG}{outer:θ Env}{s:aK}{H:Hp}{E:XK},N.Nodup->g_ k (A.deeper (envOfC x (fU st) s.z f j9))->j9 = .ref lc ->
   vk (MV sw P w K mg base N x (fU st) f j9 A outer s H E).nox (pQ st) t)
  (b:m6 N ps (fU st):=by show#[bg,bg,bg,γ,bg,γ,γ]) (len:∀ds Q,F ds Q->ds.length=ps.length:=by walk_at "len"):FnAt P w K mg base x ps (k+1) F:=
 Z.okC b (λ_ _ _ _ _ _ d e=>c b.nd e (d _ _ W.tab)) len a
end
abbrev m5.W{K:aL}{mg:Str->Option aF}{x:Str}{st:Stmt}{a:θ Str}(_:m5 K mg x st a)(P:cB)(w:dD)(base:Heap)(k:Nat)(F:FD):Prop:=FnAt P w K mg base x a k F
section
variable{X:Cx}{x:Str}{p q r pos:Pos}{c:Int}{j:Nat}{f:R22}
def jn(i:Nat)(a:X.N[i]?=ψ x:=by rfl)(b:vq X.env.scope x:=by walk_at "vis")(d:(x == ("__debug__":Str))=χ:=by decide)(e:(x == ("__classdict__":Str))=χ:=by decide):
  DE X (.Subscript (.Name x p) (.Constant (.int c) j q) r) (r2 f8 (aQ i) (rC (.int c))):=fY (b_ i a b d e) bO
def c_(i:Nat)(a:X.N[i]?=ψ x:=by rfl)(b:vq X.env.scope x:=by walk_at "vis")(d:(x == ("__debug__":Str))=χ:=by decide)(e:(x == ("__classdict__":Str))=χ:=by decide):
  DB X (.Subscript (.Name x p) (.Constant (.int c) j q) r) (r2 f8 (aQ i) (rC (.int c))):=eb (jn i a b d e)
def d_(d:qz X (binaryOp o) f)(e:DB X a ta)(g:DB X b tb):DB X (.BinOp a o b pos) (r2 f ta tb):=eb (dW d e g)
def h8(h:DE X e te):vk X [.Return (ψ e) pos] (eP te):=cZ (vU h)
end
mutual
inductive yi(G H:Hp):D->V->Prop
 |non {v:V}:yi G H .non v
 |bl {b:Bool} {v:V}:yi G H (.bl b) v
 |int {i:Int} {v:V}:yi G H (.int i) v
 |str {x:Str} {v:V}:yi G H (.str x) v
 |tup {a:Addr} {vs:List V} {ds:List D} (h:H a=ψ (.tup vs)) (r:yj G H ds vs):yi G H (.tup ds) (.ref a)
 |lst {a:Addr} {o:Obj} {vs:List V} {ds:List D} (h:H a=ψ (.frz o (.lst vs))) (g:G a=ξ):yi G H (.lst ds) (.ref a)
inductive yj(G H:Hp):List D->List V->Prop
 |nil:yj G H [] []
 |cons {d:D} {v:V} {ds:List D} {vs:List V} (h:yi G H d v) (t:yj G H ds vs):yj G H (d::ds) (v::vs)
end
inductive wd:D->Prop
 |non:wd .non
 |bl {b:Bool}:wd (.bl b)
 |int {i:Int}:wd (.int i)
 |str {x:Str}:wd (.str x)
 |nil:wd (.tup [])
 |cons {d:D} {ds:List D} (h:wd d) (t:wd (.tup ds)):wd (.tup (d::ds))
def lp(d:D):aL->Hp->Hp->V->Prop:=λ_ a H v=>yi a H d v
def S9(G:Hp)(d:D):aL->Hp->Hp->V->Prop:=λK _ H v=>je K G d v/\c7 G H
def X4(G:Hp)(d:D):aL->Hp->Hp->V->Prop:=λ_ a H v=>a_ a G/\yi G H d v
def ic(t:RE):RE:=λa Q=>t a λd=>wd d/\Q d
def J'(i:Nat):RE:=λa Q=>match a[i]? with
 |some (ψ (.mem ζ d R))=>R=lp d/\Q d
 |_=>False
def r4(i:Nat)(a:En):En:=match a[i]? with
 |some (ψ (.own b))=>a.set i (ψ (.mem ζ (.lst b) (lp (.lst b))))
 |_=>a
def cq(t u:RS):RS:=λE a=>t {nx:=u E,rt:=E.rt} a
def av(G:Hp):Option S->Option S
 |some (.d x)=>ψ (.mem ζ x (S9 G x))
 |y=>y
def ng(j:Nat)(F:FD)(t:RA):RS:=λE a=>t a λb=>F b λd=>∀G,E.nx ((a.map (av G)).set j (ψ (.mem ζ d (X4 G d))))
def zz(j:Nat)(Pt:D->Prop)(t:RS):RS:=λE a=>∃d b G c,a[j]?=ψ (ψ (.mem b d (X4 G d)))/\Pt d/\c.length=a.length /\
 (∀i x,c[i]?=ψ (ψ x)->(i=j/\x = .mem χ d (X4 G d))\/∃y,x = .mem ζ y (S9 G y)/\a[i]?=ψ (ψ x))/\t E c
def o9(k:Int)(d:D):Prop:=∃a b,d = .tup a/\qe a k=ψ (.lst b)
def Zi:R22:=λx y Q=>match x,y with
 | .lst a,.lst c=>a.length=c.length/\match pi (k5 8) a c with
  |some b=>Q (.bl !b)
  |none=>False
 |_,_=>False
def S7(K:g_ k X.A):qz X (compareOp .NotEq) Zi:=by
 intro Φ s Z H x y v u Q I L M N;let⟨d,e,P,r1,r2,q,kk⟩:=N;have hu:=K.un;unfold Zi at q;split at q
 ·rename_i g i;let⟨O,q⟩:=q;split at q
  ·rename_i b h;let⟨a,vs,rfl,R,n⟩:=r1.lst;let⟨c,ws,rfl,T,o⟩:=r2.lst;cases L;cases M;let⟨f,w,U,_⟩:=I.list R;let⟨z,B,V,_⟩:=I.list T;have W:g.length=f.length:=n.length.trans w.length;have l2:i.length=z.length:=o.length.trans B.length;have Y:MP X.A s (.ref a) (.ref c) (!b):=by
    have:=KI (A:=X.A) (s:=s) (e:=λj=>match g[j]?,i[j]? with |some x,ψ y=>(k5 8 x y).getD χ |_,_=>χ) U.isList V.isList ε ν (λj C D=>?_)
    ·have E:=HJ h;erw[aZ,<-W] at this;rw[<-O,wS,beq_self_eq_true,IH] at E;rw[<-E];show this
    ·erw[aZ] at C D;have l:g[j]?=ψ (g[j]'ν):=aG _;have m:i[j]?=ψ (i[j]'ν):=aG _;let⟨k,F⟩:=NH h j _ _ l m;rw[l,m];erw[F,nV];let⟨v1,f1,f2⟩:=n.get l;let⟨v2,f3,f4⟩:=o.get m;let⟨u1,G,g4⟩:=w.get f1;let⟨u2,J,g6⟩:=B.get f3;have a1:f.toArray[j]=u1:=by
      have:=aG C;rw[this] at G;simpa using cW G
     have a2:z.toArray[j]=u2:=by
      have:=aG D;rw[this] at J;simpa using cW J
     rw[a1,a2];show(KQ I 8 F f2 f4 g4 g6 (by show X.A.units+1+8<cLine;lia)).2
   show Y _ _ _ _ #[.bl _,H,I,bg,kk _ _ H q (a_.refl H) (.bl _)]
  ·show q.elim
 ·show q.elim
def Ud:R22:=λx y Q=>y = .lst [.int 1,.non]/\match x with
 | .int i=>Q (.bl !decide (i=1))
 | .non=>Q (.bl χ)
 |_=>False
def ib:aF->aF->Bool
 | .int i _,.int n _=>n == i
 | .none,.none=>ζ
 |_,_=>χ
def Wg(l:g_ k X.A):qz X (compareOp .NotIn) Ud:=by
 intro Φ s Z H x y v u Q I g m n;let⟨d,e,P,r1,r2,q,kk⟩:=n;have M:=l.un;let⟨rfl,q⟩:=q;let⟨a,o,rfl,w,B⟩:=r2.lst;cases m;let⟨h,c,j,_⟩:=I.list w;obtain⟨f,rfl⟩:∃t,h=[.int 1 t,.none]:=by
  cases B with
  |cons C D=>
   cases D with
   |cons E F=>
    cases F;rw[C.int_inv] at c;cases E;cases c with
    |cons G c=>
     let⟨t,rfl⟩:=G;cases c with
     |cons J c=>cases c;cases J;show#[t,bg]
 split at q
 ·rename_i i;rw[r1.int_inv] at g;let⟨t,rfl⟩:=g;show KJ (ib (.int i t)) j.isList (λy b=>?_) ?_
  ·have b:y = .int 1 f\/y = .none:=(~~~b);rcases b with rfl |rfl
   ·show xS 1 f i t
   ·show SeqAt.EqAt.none_int i t
  ·have e:(!([.int 1 f,.none]:θ aF).toArray.any (ib (.int i t))) = !decide (i=1):=by
    rw[OU];show(!((1 == i) || (χ ||false)))=_;by_cases z:i=1
    ·subst z;rfl
    ·have:¬(1:Int)=i:=λk=>z k.symm;simp[z,this]
   rw[e];show#[.bl _,H,I,bg,kk _ _ H q (a_.refl H) (.bl _)]
 ·have r1:je X.K H .non x:=by
   rcases r1 with r | ⟨N,a,o,L,_⟩
   ·show r
   ·cases L
  cases r1;cases g;show KJ (ib .none) j.isList (λy b=>?_) ?_
  ·have b:y = .int 1 f\/y = .none:=(~~~b);rcases b with rfl |rfl
   ·show SeqAt.EqAt.int_none 1 f
   ·show vP _
  ·have e:(!([.int 1 f,.none]:θ aF).toArray.any (ib .none))=χ:=(by rw[OU];rfl);rw[e];show#[.bl _,H,I,bg,kk _ _ H q (a_.refl H) (.bl _)]
 ·show q.elim
structure Row3(r:List D×Int):Prop where
 G_:r.1[2]?=ψ (.int r.2)
 sz:Sz r.1.length
def fi(d:RE):RA:=λa Q=>d a λx=>∃b:θ (θ D×Int),x = .lst (b.map λr=>D.tup r.1)/\b.length<64/\(∀r∈b,Row3 r)/\∀c:θ (θ D×Int),c.Perm b->c.Pairwise (λp q=>p.2<=q.2)->Q (c.map λr=>D.tup r.1)
def zw(i:Nat)(c:RE):RE:=λa Q=>match a[i]? with
 |some (ψ (.box χ d))=>c a λe=>match e with
  | .int k=>∃(j:Nat)(b:List D),(k=(j:Int)/\d[j]?=ψ b)/\Q (.lst b)
  |_=>False
 |_=>False
end
section
open PySem PySem.Spec PySem.SetTable PyProof.Rows L2 PySem.W
def Y2(c:RE):RA:=λa Q=>c a λx=>∃ns:θ Int,x = .lst (ns.map .int)/\(∀n∈ns,0<=n/\n<4)/\∀b:θ Int,b.Pairwise (· < ·)->(∀n,n∈b↔n∈ns)->Q (b.map .int)
end
section
open PySem PySem.Spec PyProof.Rows L2
inductive hJ(G H:Hp):List V->List Addr->Prop
 |nil:hJ G H [] []
 |cons {p a:Addr} {x y:V} {o:Obj} {us vs:List V} {as:List Addr} (hp:H p=ψ (.tup [x,y,.ref a])) (ha:H a=ψ (.frz o (.lst us))) (g:G a=ξ) (t:hJ G H vs as):hJ G H (.ref p::vs) (a::as)
def gm(F:FD)(t:RA):RE:=λa Q=>t a λb=>F b λd=>(∃c e f,d = .tup [c,e,.lst f])/\Q d
def fm(G H:Hp)(v:V):Prop:=∃(l:Addr)(o:Obj)(b:θ V)(a:θ Addr),v = .ref l/\H l=ψ (.frz o (.lst b))/\hJ G H b a/\a.Nodup/\l∉a
def L1(G:Hp):aL->Hp->Hp->V->Prop:=λ_ a H v=>a_ a G/\fm G H v
def mD(j:Nat)(F:FD)(t:RA):RS:=λE a=>t a λb=>F b λd=>∀G,E.nx ((a.map (av G)).set j (ψ (.mem ζ d (L1 G))))
structure Olds(G:Hp)(ρ ρ0:L2.R2.En):Prop where
 len:ρ0.length=ρ.length
 old:∀(i:Nat)(x:S),ρ0[i]?=ψ (ψ x)->∃y,x = .mem ζ y (S9 G y)/\ρ[i]?=ψ (ψ x)
structure i4(d:D):Prop where
 ex:∃d0 d1 es xs,d = .tup [d0,d1,.lst (.tup es::xs)]/\wd d0/\wd d1/\wd (.tup (.tup es::xs))
def xz(a:V):aL->Hp->Hp->V->Prop:=λ_ _ _ v=>v=a
def M8(a:En)(b c:Nat)(d:D)(n:Int)(e:V):En:=(a.set b (ψ (.mem ζ d (xz e)))).set c (ψ (.d (.int n)))
def L0(a:En)(b c:Nat)(t u:RS)(E:pd):θ D->θ Int->Prop
 |d::f,n::ns=>∀e,t {nx:=λg=>g=M8 a b c d n e/\L0 a b c t u E f ns,rt:=E.rt} (M8 a b c d n e)
 |_,_=>u E a
def mw(g h e f:Nat)(t u:RS):RS:=λE a=>∃(G:Hp)(c:θ D)(ns:θ Int)(b:En),a[g]?=ψ (ψ (.mem ζ (.lst c) (L1 G)))/\(a[h]?=ψ (ψ (.d (.lst (ns.map .int))))/\Olds G a b)/\(b[e]?=ψ ξ/\b[f]?=ψ ξ)/\(∀d∈c,i4 d)/\L0 b e f t u E c ns
end
section
open PySem PyProof.Rows
def WX:mroOf (.type "dict")=pure [.type "dict",.type "object"]:=by rw[mroOf_type];kernel_rfl
def TV:typeLookup (jR "dict") (iG "__new__")=pure (ψ (zW "dict.__new__")):=by rw[rW,mP];kernel_rfl
def oF:TypeCalled "dict" "dict.__new__" "dict.__init__":=#[μ,γ,#[_,_,WX],madeBy_type WX TV γ,γ,by rw[xW];kernel_rfl,PySem.F.slot_dict_init]
def UG(a:aF):checkTypeCall "dict" ⟨[a],[]⟩=pure ():=by kernel_rfl
def WY(a:aF):checkBuiltinCall "dict.__new__" ⟨[.type "dict",a],[]⟩=pure ():=by kernel_rfl
def GA:plainId "dict.__new__" = ζ:=γ
def WC:entryFor table "dict.__new__" = ψ Builtin.«dict.__new__»:=AZ (by kernel_rfl)
def rV:plainId "dict.update.loop" = ζ:=γ
def DM:entryFor table "dict.update.loop" = ψ Builtin.«dict.update.loop»:=AZ (by kernel_rfl)
section
variable{prog:cB}{w:dD}{s:aK}
def C1(l:s.heap.get? a=ψ {cls:=.type "list",data:=.seq xs k,slots:=sl})(u:A.handled=ξ)
  (q:∀h' tk,(∀b o,s.heap.get? b=ψ o->h'.get? b=ψ o)->Q ξ {s with heap:=h',toks:=tk}):Γ prog w A (getAttr? (.ref a) (iG "keys")) Q E s:=by
 have c:typeLookup (.type "list") (iG "keys")=pure ξ:=by rw[rW,mP];kernel_rfl
 have B:=sub_AttributeError;have D:=PySem.F.slot_list_getattribute.lookup;have G:=PySem.F.slot_list_getattribute.bind (.ref a);have H:=am_list_getattr_none;let⟨i,g,d,tk,os⟩:=s;unfold getAttr? getAttrBy?;apply aD;unfold mkText;apply aD;apply wpAny_fresh;apply aP;apply aD;apply uZ;unfold getAttrBy;apply fS;unfold getAttrByItsOwn callGetattribute;generalize v:runValue=C
 repeat (any_goals (first |assumption |wp_step))
 subst v;have y:∀t,zV {heap:=i,gens:=g,drawn:=d,toks:=t,os:=os} (.ref a) "list":=λt=>#[_,l,bg];have z:=PySem.F.args_list_getattribute_2 (.ref a) (.str (iG "keys") tk);show codeAny _ _ (Code.call (.builtin "list.__getattribute__") #[[.ref a,.str (iG "keys") tk],[]]) _ {heap:=i,gens:=g,drawn:=d,toks:=tk+1,os:=os};obtain⟨j,f⟩:∃j:Result->aK->Prop,j=λr m=>∃h' h e,r = .error (.ref e)/\m = {heap:=h',gens:=g,drawn:=d,toks:=h,os:=os}/\i.NewAttrErr h' e (.ref a) (iG "keys"):=#[_,bg];show oM (vD (R:=j) PySem.F.slot_list_getattribute.plain am_entry_list_getattribute (PySem.F.slot_list_getattribute.check _ _ _ _ _ _ _ _ (y _) z (meets_getattribute_miss_list a xs k sl (iG "keys") tk c μ μ prog w A j {heap:=i,gens:=g,drawn:=d,toks:=tk+1,os:=os} #[l,u,λh' h e N=>by rw[f];show#[h',h,e,bg,bg,N]]))) λr m n=>?_;rw[f] at n;let⟨h',h,e,rfl,rfl,N⟩:=n;let⟨I,J,K⟩:=N.there;have q:=q h' h N.keeps;show wpAny _ _ (getattributeRaised _ _ _ _ _ _ _) _ _ _;unfold getattributeRaised
 repeat (any_goals (first |assumption |wp_step))
def wW:Obj:={cls:=.type "dict",data:=.dict (LE [])}
def Uj(a:aF)(h:Q₁ (.ref s.z) {s with heap:=s.heap.push wW}):
  codeAny (model prog w) A (.call (.builtin "dict.__new__") #[[.type "dict",a],[]]) (wants Q₁ E) s:=by
 apply rR;show wpAny _ A.in1 (checkBuiltinCall "dict.__new__" #[[.type "dict",a],[]] >>= λ_=>again (.builtin "dict.__new__" #[[.type "dict",a],[]])) _ _ s;apply aD;show jK (WY a) (aP #[gU GA _,fQ WC ?_]);rw[eK GA _];unfold Builtin.«dict.__new__»;have c:=oF.sub;have b:=WX;let⟨e,g,d,f,os⟩:=s;fail
 repeat (any_goals (first |assumption |wp_step))
def putAll(its:θ (θ jl×Addr×aF)):θ (θ jl×Addr×aF):=its.foldl (λa x=>storedH a x.1 x.2.1 x.2.2) []
def putAll_snoc(its:θ (θ jl×Addr×aF))(x:θ jl×Addr×aF):putAll (its++[x])=storedH (putAll its) x.1 x.2.1 x.2.2:=by unfold putAll;rw[yP];rfl
def Lp{xs:θ (θ jl×Addr×aF)}{k:θ jl}{a:Addr}{v:aF}{y:θ jl×Addr×aF}(h:y∈storedH xs k a v):(∃z∈xs,z.1=y.1/\z.2.1=y.2.1)\/y=(k,a,v):=by
 unfold storedH at h;split at h
 ·let⟨z,b,rfl⟩:=bD.mp h;show .inl #[z,b,?_];unfold putAt;split <;> show#[bg,bg]
 ·rcases bQ.mp h with h |h
  ·show .inl #[y,h,bg,bg]
  ·show .inr (bR.mp h)
def Kt(its:θ (θ jl×Addr×aF)):(putAll its).length<=its.length:=by
 have b:∀(l a:θ (θ jl×Addr×aF)),(l.foldl (λa x=>storedH a x.1 x.2.1 x.2.2) a).length<=a.length+l.length:=by
  intro l
  induction l with
  |nil=>intro a;simp
  |cons x l c=>
   intro a;have:=c (storedH a x.1 x.2.1 x.2.2);have:(storedH a x.1 x.2.1 x.2.2).length<=a.length+1:=(by unfold storedH;split <;> simp);erw[oU,aT];lia
 have:=b its [];simpa [putAll] using this
structure EE(prog:cB)(w:dD)(h0:Heap)(S I:Addr)(u:aF)(x:List jl×Addr×aF):Prop where
 ex:∃p,u = .ref p/\(p≠S/\p≠I)/\h0.IsTuple p (LE [.ref x.2.1,x.2.2])
 ne:x.2.1≠S/\x.2.1≠I
 key:(tupleKind (gH prog w)).is h0 x.1 x.2.1
def Pw{I l S:Addr}(hh:A.in1.handled=ξ)(oi:l≠I)(hu:A.in1.units<cLine)(Y:S≠I)(J:S≠l)(B:its.length=items.size)(q:its.length<=sizeLine)
  (hi:∀(i:Nat)(u:aF)(x:θ jl×Addr×aF),items[i]?=ψ u->its[i]?=ψ x->EE prog w h0 S I u x):
  ∀(k i:Nat)(s:aK),items.size-i=k->i<=items.size->s.heap.IsListIter I l i/\s.heap.IsList l items->s.heap.DictOfH (tupleKind (gH prog w)) S (putAll (its.take i)) ->
   (∀b o,b≠S->b≠I->h0.get? b=ψ o->s.heap.get? b=ψ o) ->
   (∀h' tk,h'.DictOfH (tupleKind (gH prog w)) S (putAll its)->(∀b o,b≠S->b≠I->h0.get? b=ψ o->h'.get? b=ψ o)->R (.ok (.ret .none)) {s with heap:=h',toks:=tk}) ->
   codeAny (model prog w) A (.builtin "dict.update.loop" #[[.ref S,.ref I,.int i 0,.none],[]]) R s:=by
 have W:=VJ (prog:=prog) (w:=w) (A:=A.in1) hh I l oi items;have E:∀{b:Addr},b≠I->b∉[I]:=λh=> ~~~h
 have Z:∀{h:Heap}{x:θ jl×Addr×aF},(∀b o,b≠S->b≠I->h0.get? b=ψ o->h.get? b=ψ o)->x.2.1≠S->x.2.1≠I->(tupleKind (gH prog w)).is h0 x.1 x.2.1->(tupleKind (gH prog w)).is h x.1 x.2.1:=by
  rintro h x f c a ⟨o,its,n,h1,F,K,h4⟩;show#[o,its,n,f _ o c a h1,F,K,h4]
 have g:∀(i:Nat)(y:θ jl×Addr×aF),y∈putAll (its.take i)->(y.2.1≠S/\y.2.1≠I)/\(tupleKind (gH prog w)).is h0 y.1 y.2.1:=by
  intro i
  induction i with
  |zero=>intro y d;rw[mG] at d;cases d
  |succ i G=>
   intro y d;by_cases H:i<its.length
   ·rw[gD,aG H,KF,putAll_snoc] at d;rcases Lp d with⟨z,hz,e1,e2⟩ |rfl
    ·rw[<-e1,<-e2];show G z hz
    ·have P:=hi i items[i] its[i] (cJ ν) (aG H);show#[P.ne,P.key]
   ·rw[iS ν] at d;show G y (by rw[iS ν];show d)
 have move:∀{h h':Heap}{i:Nat},h.DictOfH (tupleKind (gH prog w)) S (putAll (its.take i))->(∀b o,b≠I->h.get? b=ψ o->h'.get? b=ψ o)->(∀b o,b≠S->b≠I->h0.get? b=ψ o->h'.get? b=ψ o)->h'.DictOfH (tupleKind (gH prog w)) S (putAll (its.take i)):=by
  rintro h h' i ⟨o,es,ep,g1,g2,g3,g4,g5,g6⟩ f L;show#[o,es,ep,f S o Y g1,g2,g3,g4,λy d=>?_,g6];obtain⟨⟨c,a⟩,k⟩:=g i y d;show Z L c a k
 intro k
 induction k with
 |zero=>
  intro i s hk H st D f M;have N:i=items.size:=ν
  subst N;show fQ DM ?_;rw[eK rV _];show wpAny _ A.in1 (pyNext (.ref I) >>= _) _ _ s;show aD (W.done s _ _ st λh' tk C=>?_);have j:∀b o,b≠S->b≠I->h0.get? b=ψ o->h'.get? b=ψ o:=λb o c a e=>C b o (E a) (f b o c a e);have D':=move D (λb o q e=>C b o (E q) e) j;rw[<-B,jH] at D';show wpAny _ A.in1 (zL S [] >>= λ_=>ret eU) _ _ _;unfold zL;show aD (aD (aP (aP (aP (M h' tk D' j)))))
 |succ k G=>
  intro i s hk H st D f M;have k8:i<items.size:=ν
  show fQ DM ?_;rw[eK rV _];show wpAny _ A.in1 (pyNext (.ref I) >>= _) _ _ s;show aD (W.item i s _ _ k8 st λv h' tk hv nv C=>?_);have j:∀b o,b≠S->b≠I->h0.get? b=ψ o->h'.get? b=ψ o:=λb o c a e=>C b o (E a) (f b o c a e);have D1:=move D (λb o q e=>C b o (E q) e) j;obtain⟨x,hx⟩:∃x,its[i]?=ψ x:=#[its[i]'ν,aG _];have P:=hi i v x hv hx;obtain⟨⟨p,rfl,⟨O,Q⟩,o,ho,hc,n,hd⟩,⟨T,U⟩,V⟩:=P;have zx:=j p o O Q ho;let⟨oc,od,y0,uq⟩:=o;dsimp only at hc hd;subst hc hd;show wpAny _ A.in1 (holding [eO p] _ >>= _) _ _ _;show aD (fS (aD (tT ?_)));unfold Builtin.Dict.pairItems;generalize X:dictSet=DS
  repeat (any_goals (first |assumption |wp_step))
  subst X;show wpAny_dictSet_heap (s:={s with heap:=h',toks:=tk}) (hsz:=by have:=Kt (its.take i);rw[jF] at this;lia) hu (Z j T U V) D1 λF D2 sb=>?_;have m:∀b o,b≠S->h'.get? b=ψ o->F.get? b=ψ o:=λb o q e=>(sb.2 b q).trans e;have D3:F.DictOfH (tupleKind (gH prog w)) S (putAll (its.take (i+1))):=by
   rw[gD,hx,KF,putAll_snoc];show D2
  have ei:rawInt ((i:Int)+1) = .int ((i+1:Nat):Int) 0:=rfl;show wpAny _ A.in1 (again (.builtin "dict.update.loop" #[[.ref S,.ref I,rawInt ((i:Int)+1),.none],[]])) _ _ _;rw[ei];show aP #[gU rV _,G (i+1) _ ν k8 #[nv.1.at λo e=>m _ o (Ne.symm Y) e,nv.2.at λo e=>m _ o (Ne.symm J) e] D3 (λb o c a e=>m b o c (j b o c a e)) λK A_ D4 qt=>M K A_ D4 qt]
def TL(N:A.handled=ξ)(hu:A.units+8<cLine)(O:s.heap.get? l=ψ {cls:=.type "list",data:=.seq items n,slots:=sl})
  (h:its.length=items.size) (hb:its.length<=sizeLine)
  (hi:∀(i:Nat)(u:aF)(x:θ jl×Addr×aF),items[i]?=ψ u->its[i]?=ψ x->(∃p,u = .ref p/\s.heap.IsTuple p (LE [.ref x.2.1,x.2.2]))/\(tupleKind (gH prog w)).is s.heap x.1 x.2.1)
  (q:∀h' tk,h'.DictOfH (tupleKind (gH prog w)) s.z (putAll its)->(∀b o,s.heap.get? b=ψ o->h'.get? b=ψ o)->Q (.ref s.z) {s with heap:=h',toks:=tk}):
  Γ prog w A (call (.type "dict") [.ref l]) Q E s:=by
 let⟨c,tl,P⟩:=oF.mro;have H:=oF.made;have V_:=oF.sub;apply LR;apply rR;show wpAny _ _ (callAny (.type "dict") _) _ _ _;show aP #[JP _ γ,fQ AU ?_];rw[JN (EM "dict" [.ref l] []) rfl];have h1:=oF.notType;have h2:=oF.canCreate;have vi:=UG (.ref l)
 repeat (any_goals (first |assumption |wp_step))
 show oM (Uj (.ref l) (E:=E) (Q₁:=λj T=>j = .ref s.z/\T = {s with heap:=s.heap.push wW}) #[bg,bg]) λr T g=>?_
 match r,g with
 | .error e,g=>show g
 | .ok (.ret j),g=>
  let⟨rfl,rfl⟩:=g;have k:(s.heap.push wW).get? s.z=ψ wW:=bT _ rfl;have zS:(s.heap.push wW).objs.size=s.z+1:=mC ..;have I:∀b o,s.heap.get? b=ψ o->(s.heap.push wW).get? b=ψ o:=λb o e=>aR _ e;have V:zV {s with heap:=s.heap.push wW} (.ref s.z) "dict":=#[_,k,bg];have wn:=oF.init.lookup;have u9:=oF.init.bind (.ref s.z)
  repeat (any_goals (first |assumption |wp_step))
  generalize s.heap.push wW=h2 at k zS I V;obtain⟨y,m⟩:∃y:Result->aK->Prop,y=wants (λr W=>r = .none/\∃h' tk,W = {s with heap:=h',toks:=tk}/\h'.DictOfH (tupleKind (gH prog w)) s.z (putAll its)/\(∀b o,s.heap.get? b=ψ o->h'.get? b=ψ o)) E:=#[_,bg];show oM (vD (R:=y) PySem.F.slot_dict_init.plain PySem.F.entry_dict_init (PySem.F.slot_dict_init.check _ _ _ _ _ _ _ _ V (PySem.F.args_dict_init_2 _ _) ?_)) λr₂ W a=>?_
  ·have X:=I _ _ O;unfold Builtin.«dict.__init__» Builtin.Dict.selfAndRest Builtin.Dict.notOrdered;unfold wW at k;generalize hU:Builtin.Dict.updateCommon=U
   repeat (any_goals (first |assumption |wp_step))
   subst hU;show wpAny _ A.in1.in1 (AG "dict.__init__" s.z (.ref l) [] .none) _ _ _;unfold AG;generalize hG:getAttr? = G;generalize J:pyIter=PI
   repeat (any_goals (first |assumption |wp_step))
   subst hG;show C1 X (by simp[N]) λd Y B=>?_
   repeat (any_goals (first |assumption |wp_step))
   subst J;have lt:l<s.z:=bG O;have v:d.IsList l items:=#[_,B _ _ X,bg,n,bg];show tR v ?_;have K:s.z<d.objs.size:=bG (B _ _ k);have Z:(d.push (IU l)).get? d.objs.size=ψ (IU l):=bT _ rfl;have C:∀b o,d.get? b=ψ o->(d.push (IU l)).get? b=ψ o:=λb o e=>aR _ e;show aP #[gU rV _,?_];show codeAny _ _ (.builtin "dict.update.loop" #[[.ref s.z,.ref d.objs.size,.int ((0:Nat):Int) 0,.none],[]]) y {s with heap:=d.push (IU l),toks:=Y};generalize d.push (IU l)=h4 at Z C;have f:∀{b:Addr}{o:Obj},s.heap.get? b=ψ o->b≠s.z/\b≠d.objs.size:=λe=>#[bP (bG e),bP (nA (bG e) K)];have D0:h4.DictOfH (tupleKind (gH prog w)) s.z (putAll (its.take 0)):=#[_,(LE []),_,C _ _ (B _ _ k),#[bg,bg,bg],bg,by rw[mG];rfl,(λx hx=>by rw[mG] at hx;cases hx),by rw[mG];show .nil];show Pw (A:=A.in1) (h0:=s.heap) (by simp[N]) (bP (nA lt K)) (by show A.units+2<cLine;lia) (bP K) (kN lt) h hb (λi u x e1 e2=>?_) items.size 0 {s with heap:=h4,toks:=Y} (wT _) (dZ _) #[#[_,Z,bg,bg],v.at λo e=>C _ o e] D0 (λb o _ _ e=>C b o (B b o (I b o e))) λh' tk D L=>?_
   ·obtain⟨⟨p,rfl,hp⟩,hk⟩:=hi i u x e1 e2;let⟨o,ho,g⟩:=hp;let⟨o2,i2,n2,uo,M⟩:=hk;show#[#[p,bg,f ho,o,ho,g],f uo,o2,i2,n2,uo,M]
   ·rw[m];show#[bg,h',tk,bg,D,λb o e=>L b o (f e).1 (f e).2 e]
  ·rw[m] at a
   match r₂,a with
   | .error e,a=>show a
   | .ok (.ret r),a=>
    let⟨rfl,h',tk,rfl,D,L⟩:=a
    repeat (any_goals (first |assumption |wp_step))
    show q _ _ D L
end
def Jg{xs:θ (θ jl×Addr×aF)}{k:θ jl}(h:k∉xs.map (·.1)):atKey xs k=ξ:=by
 unfold atKey;rw[JV.mpr λx a e=>h (by rw[<-of_decide_eq_true e];show eD a)];rfl
def Dp(h:(its.map (·.1)).Nodup):putAll its=its:=by
 have b:∀(l a:θ (θ jl×Addr×aF)),((a++l).map (·.1)).Nodup->l.foldl (λa x=>storedH a x.1 x.2.1 x.2.2) a=a++l:=by
  intro l
  induction l with
  |nil=>intro a _;simp
  |cons x l c=>
   intro a h;have d:x.1∉a.map (·.1):=by
    rw[aX,pO] at h;show λm=>h.2.2 _ m x.1 η rfl
   have e:storedH a x.1 x.2.1 x.2.2=a++[x]:=by
    unfold storedH;rw[Jg d];rfl
   rw[oU,e,c _ (~~~h)];simp
 show b its [] h
open PySem.Spec L2 in
def boot_dict:bootBuiltins "dict" = ψ (.type "dict"):=γ
section
open PySem.Spec L2
variable{σ:St}{s:aK}
abbrev pairD(p:θ Int×D):D:=.tup [.tup (p.1.map .int),p.2]
def Wn(I:Inv X Φ σ H s):∀{q9:θ (θ Int×D)}{vs:θ V}{us:θ aF},cn X.K H (q9.map pairD) vs->c9 vs us->∃(its:θ (θ jl×Addr×aF))(ws:θ V),its.length=us.length /\
  (∀(i:Nat)(u:aF)(x:θ jl×Addr×aF),us[i]?=ψ u->its[i]?=ψ x->(∃p,u = .ref p/\s.heap.IsTuple p (LE [.ref x.2.1,x.2.2]))/\(tupleKind (gH X.prog X.w)).is s.heap x.1 x.2.1) /\
  its.map (·.1)=q9.map (λp=>p.1.map eI)/\KT H (hZ (q9.map (·.1)) ws) its/\cn X.K H (q9.map (·.2)) ws:=by
 intro q9
 induction q9 with
 |nil=>
  intro vs us r t;cases r;cases t;show#[[],[],bg,λi u x e=>by simp at e,bg,.nil,.nil]
 |cons f q9 g=>
  intro vs us r t;cases r with
  |cons r h=>
  cases t with
  |cons t j=>
  let⟨its,ws,k,l,m,q,v⟩:=g h j;cases r with
  | @tup p y _ z r2=>
  cases t;cases r2 with
  | @cons _ Q _ A B r2=>
  cases r2 with
  | @cons _ C _ E r1 r2=>
  cases r2;let⟨b,rfl,a⟩:=Ct B;let⟨R,F,G,_⟩:=I.tuple (m7.of (K:=X.K) z);let⟨T,J,rfl,L,M⟩:=c9.two F;cases L;show#[(f.1.map eI,b,J)::its,C::ws,by simp[k],λi u x c d=>?_,by simp[m],.cons #[bg,a,M] q,.cons r1 v];cases i with
  |zero=>
   cases c;cases d;let⟨o,N,O,n,P⟩:=G;show#[#[p,bg,o,N,O,n,~~~P],Cs I.hok a]
  |succ i=>show l i u x (~~~c) (~~~d)
end
def Kx(c:RE):RE:=λa Q=>c a λx=>∃b:θ (θ Int×D),x = .lst (b.map pairD)/\(b.map (·.1)).Nodup/\Q (.dtt (b.map (·.1)) (b.map (·.2)))
section
open PySem.Spec L2
variable{p pos:Pos}
def Ug(hr:g_ k X.A)(hm:X.mg "dict" = ξ)(hc:X.calm=ζ)(h:DB X e te)(hg:Gl X "dict":=by rfl)(y:starEach [] X.env=[]:=by rfl)(L:starEach [e] X.env=[(χ,eval e X.env)]:=by rfl):
  DE X (.Call (.Name "dict" p) [e] [] pos) (Kx te):=by
 intro Φ s Z H Q I e9;let⟨d,P,st,q,kq⟩:=e9;show fF (oA I hg hm boot_dict ?_);show dE (i0 (oQ h L y pos Φ s Z H (λF g=>∃(f:θ (θ Int×D))(v:V),F=[v]/\a_ H g/\j2 X.K g (.lst (f.map pairD)) v/\(f.map (·.1)).Nodup/\P (.dtt (f.map (·.1)) (f.map (·.2)))) I
  #[d,_,st,q,λx v g hx j r1=>?_]) λM j OK=>?_) (by rw[L,y]) (by rw[y];rfl)
 ·let⟨f,rfl,a1,a2⟩:=hx;show#[f,v,bg,j,r1,a1,a2]
 let⟨F,g,w,r1,f,v,rfl,qw,rb,nd,hP⟩:=OK;let⟨l,F,rfl,hq,rr⟩:=rb.lst;let⟨u,rfl,rx⟩:=vals1 r1;cases rx;let⟨M,N,pl,hz⟩:=w.list hq;let⟨B,C,G,e2,e3,O,R⟩:=Wn w rr N;have m:M.length<=sizeLine:=by rw[<-N.length];show hz
 let⟨o,n,ho,T,U,E⟩:=pl;let⟨oc,od,y0,uq⟩:=o;dsimp only at T U E;subst T U E;have J:(B.map (·.1)).Nodup:=by
  rw[e3];have:f.map (λp=>p.1.map (eI:Int->jl))=(f.map (·.1)).map λk=>k.map eI:=by rw[cO];rfl
  rw[this];show sT _ (λa b y e=>y (NJ e)) nd
 show TL (w.ok.hd hc) (by have:=hr.un;lia) ho (~~~G) (by rw[G];show m) (λi u x eu ex=>e2 i u x (~~~eu) ex) λh' W D up=>?_;rw[Dp J] at D;let⟨o,es,ep,g1,g2,g3,g4,_,g6⟩:=D;have Y:g j.z=ξ:=w.hok.fresh (aY _);have up1:∀b o,g b=ψ o->f_ g j.z (.dT (hZ (f.map (·.1)) C)) b=ψ o:=λb o e=>by rw[cY (dF e Y)];show e
 have lw:(f.map (·.1)).length=C.length:=by rw[<-R.length];simp
 have I2:Inv X Φ Z (f_ g j.z (.dT (hZ (f.map (·.1)) C))) {j with heap:=h',toks:=W}:=
  w.laid (t':=W) up (aY _) #[by rw[zQ O,G];show m,beq_eq_false_iff_ne.mpr (Ne.symm (bP w.big)),B,KT.keeps O (λc ys ec=>up1 _ _ ec),o,es,ep,g1,g2,g3,g4,g6]
 let⟨o3,I3⟩:=Inv.freezeT I2 fA;have sm:a_ g (f_ (f_ g j.z (.dT (hZ (f.map (·.1)) C))) j.z (.frz o3 (.dT (hZ (f.map (·.1)) C)))):=a_.fn λb o e=>by
  rw[cY (dF e Y)];show up1 b o e
 show#[.ref j.z,_,I3,bg,kq _ _ _ hP (qw.trans sm) (.dtt fA lw (R.keep (.of sm)))]
end
end
section
open PySem PySem.Spec PyProof.Rows L2
abbrev c6(i:Int):RE:=rC (.int i)
abbrev c5(i:Nat)(k:Int):RE:=r2 f8 (aQ i) (rC (.int k))
abbrev ap(d:D):Option S:=ψ (.d d)
def qI:RS:=
 cS (dC 4 (r2 oW (aQ 2) (aQ 3)))
 (cS (dC 2 (bH 3))
 (dC 3 (bH 4)))
def zG:RS:=
 cS (dC 2 (rCB Ez (aE (bH 0) aU)))
 (cS (dC 3 (rCB Ez (aE (bH 1) aU)))
 (cS (LK (cU (r2 (qR ζ) (aQ 3) (c6 0))) qI)
 (eP (bH 2))))
def Hn(a:FD):RS:=
 cS (gN (cU (r2 (qR χ) (aQ 1) (c6 0))) ((λ_ _=>False)) fB)
 (cS (dC 2 (cE a (aE (bH 0) (aE (bH 1) aU))))
 (cS (gN (cU (r2 (mK λi j=>decide (i<j)) (aQ 1) (c6 0))) (dC 2 (r1 TN (aQ 2))) fB)
 (eP (gQ (aE (r2 qE (aQ 0) (aQ 2)) (aE (r2 qE (aQ 1) (aQ 2)) aU))))))
def JH:RS:=
 eP (XR (r1 (EI "int") (bH 0)) (Xj (r1 (EI "bool") (bH 0))))
def Oj(a:FD):RS:=
 eP (cE a (aE (r2 kO (r2 fI (c5 0 0) (c5 1 1)) (r2 fI (c5 1 0) (c5 0 1))) (aE (r2 fI (c5 0 1) (c5 1 1)) aU)))
def Hl(a:FD):RS:=
 eP (cE a (aE (r2 iR (r2 fI (c5 0 0) (c5 1 1)) (r2 fI (c5 1 0) (c5 0 1))) (aE (r2 fI (c5 0 1) (c5 1 1)) aU)))
def sF:RS:=
 V7 0 1 (aE (bH 1) (aE (r2 oW (aQ 0) (aQ 1)) aU))
def DU:RS:=
 cS (dC 0 (rCB Ez (aE (bH 0) aU)))
 (cS (dC 1 (rCB Ez (aE (bH 1) aU)))
 (cS (LK (cU (r2 (mK λi j=>decide (j<i)) (aQ 1) (c6 0))) sF)
 (eP (bH 0))))
def Hk:RS:=
 eP (r2 (mK λi j=>decide (i<j)) (r2 fI (c5 0 0) (c5 1 1)) (r2 fI (c5 1 0) (c5 0 1)))
def yF(a:FD):RS:=
 eP (r2 fI (aQ 0) (r2 qE (aQ 1) (cE a (aE (bH 0) (aE (bH 1) aU)))))
def Ol:RS:=
 cS (dC 3 (r2 fI (r2 iR (c5 1 0) (c5 0 0)) (r2 iR (c5 2 1) (c5 0 1))))
 (cS (dC 4 (r2 fI (r2 iR (c5 1 1) (c5 0 1)) (r2 iR (c5 2 0) (c5 0 0))))
 (eP (r2 iR (aQ 3) (aQ 4))))
def qU:RS:=
 Oh 1
def BS(a:FD):RS:=
 cS (LK (QM (cU (r2 (mK λi j=>decide (j<i)) (r1 nE (aQ 1)) (c6 1))) (cU (r2 (mK λi j=>decide (i<=j)) (cE a (aE (r2 f8 (aQ 1) (r1 TN (c6 2))) (aE (r2 f8 (aQ 1) (r1 TN (c6 1))) (aE (bH 2) aU)))) (c6 0)))) qU)
 (yB 1 (bH 2))
def JI(a:FD):RS:=
 cS (oY 1 (nO aU))
 (cS (iA (riL (bH 0)) (cA 2) (BS a))
 (eP (LJ (aQ 1) lP (tL (r1 TN (c6 1))))))
def BJ:RS:=
 dC 0 (r2 qE (aQ 0) (aQ 1))
def JC:RS:=
 cS (iA (AB (aE (bH 2) aU)) (cA 3) BJ)
 (eP (r2 oW (aQ 0) (aQ 1)))
def sG:RS:=
 cS (dC 4 (c6 0))
 (cS (gN (cU (r2 (mK λi j=>decide (j<i)) (r1 nE (aQ 0)) (c6 0))) (dC 4 (r2 oW (r2 f8 (aQ 0) (r2 oW (aQ 3) (rCB Aj (aE (r1 nE (aQ 0)) (aE (c6 63) aU))))) (r2 kO (r2 MY (c6 10) (c6 60)) (c6 7)))) fB)
 (cS (dC 5 (r2 oW (aQ 3) (aQ 1)))
 (XT 2 (r2 oW (r2 kO (r2 kO (r2 fI (r2 f8 (aQ 2) (aQ 5)) (c6 48271)) (aQ 4)) (r2 fI (aQ 3) (aQ 3))) (r2 kO (r2 MY (c6 10) (c6 60)) (c6 7))) (bH 5))))
def DX:RS:=
 cS (oY 2 (oC (AB (aE (bH 1) aU)) 1 [] (cA 0) (c6 0)))
 (cS (iA (AB (aE (rCB Mo (aE (bH 1) (aE (rCB Aj (aE (r1 nE (aQ 0)) (aE (c6 63) aU))) aU))) aU)) (cA 3) sG)
 ((λE a=>(eP (bH 2)) E (sC 2 a))))
def GH(a:FD):RS:=
 dC 2 (cE a (aE (cE a (aE (bH 2) (aE (bH 3) aU))) (aE (bH 4) aU)))
def SC(a:FD):RS:=
 cS (dC 2 (bH 0))
 (cS (iA (riL (bH 1)) (kW 2 (eG (cA 3) (eG (cA 4) kU))) (GH a))
 (cS (oY 5 (oC (riL (bH 1)) 2 [2] (kW 2 (eG (cA 0) (eG (cA 1) kU))) (gQ (aE (r2 qE (aQ 0) (aQ 2)) (aE (r2 qE (aQ 1) (aQ 2)) aU)))))
 (cS (dC 6 (Ky (aQ 5) (r1 Mr (aQ 5))))
 (eP (gQ (aE (r2 qE (aQ 0) (aQ 2)) (aE (r1 VW (r2 qD (LJ (aQ 5) (tL (bH 6)) lP) (LJ (aQ 5) lP (tL (bH 6))))) aU)))))))
def XX(c:FD):RS:=
 cS (dC 1 ((λa Q=>(XV (aQ 0)) a λb=>Q (.lst b))))
 (eP (r2 qD (cE c (aE (bH 1) aU)) (cE c (aE ((λa Q=>(XS (aQ 1)) a λb=>Q (.lst b))) aU))))
def JK(a:FD):RS:=
 dC 3 (cE a (aE (cE a (aE (bH 3) (aE (bH 4) aU))) (aE (bH 5) aU)))
def XY(b:FD)(c:FD):RS:=
 cS (dC 2 (cE b (aE (bH 1) aU)))
 (cS (gN (cU (r2 (mK λi j=>decide (i<j)) (r1 nE (aQ 2)) (c6 3))) (eP (rC .non)) fB)
 (cS (dC 3 (bH 0))
 (cS (iA (riL (bH 2)) (kW 2 (eG (cA 4) (eG (cA 5) kU))) (JK c))
 (eP (gQ (aE (r2 qE (aQ 0) (aQ 3)) (aE (r1 VW ((λa Q=>(oC (riL (bH 2)) 2 [3] (kW 2 (eG (cA 0) (eG (cA 1) kU))) (gQ (aE (r2 qE (aQ 0) (aQ 2)) (aE (r2 qE (aQ 1) (aQ 2)) aU)))) a λd=>Q (.lst d)))) aU)))))))
def zC:RS:=
 cS (dC 6 (r2 f8 (aQ 3) (r2 iR (aQ 5) (c6 1))))
 (cS (dC 7 (r2 iR (r2 fI (c5 1 0) (aQ 2)) (r2 fI (c5 6 0) (c5 1 2))))
 (cS (dC 8 (r2 iR (r2 fI (c5 1 1) (aQ 2)) (r2 fI (c5 6 1) (c5 1 2))))
 (cS (dC 9 (r2 iR (r2 fI (r2 iR (r2 f8 (r2 f8 (aQ 3) (aQ 5)) (c6 0)) (c5 6 0)) (aQ 8)) (r2 fI (r2 iR (r2 f8 (r2 f8 (aQ 3) (aQ 5)) (c6 1)) (c5 6 1)) (aQ 7))))
 (gN (rOr (cU (r2 (MW χ) (aQ 4) (rC .non))) (cU (r2 (mK λi j=>decide (i<j)) (aQ 9) (aQ 4)))) (dC 4 (bH 9)) fB))))
def GK:RS:=
 cS (Kw (bH 0) (kW 2 (eG (cA 2) (eG (cA 3) kU))))
 (cS (dC 4 (rC .non))
 (cS (iA (AB (aE (r1 nE (aQ 3)) aU)) (cA 5) zC)
 (eP (r2 iR (rCB VU (aE (r2 (mK λi j=>decide (j<i)) (aQ 4) (c6 0)) aU)) (rCB VU (aE (r2 (mK λi j=>decide (i<j)) (aQ 4) (c6 0)) aU))))))
def OB:RS:=
 cS (dC 3 (r2 fI (r2 iR (c5 1 0) (c5 0 0)) (r2 iR (c5 2 1) (c5 1 1))))
 (eP (r2 iR (aQ 3) (r2 fI (r2 iR (c5 1 1) (c5 0 1)) (r2 iR (c5 2 0) (c5 1 0)))))
def rL(a:FD):RS:=
 cS (gN (rOr (oR (cU (r1 (EI "tuple") (bH 1)))) (cU (r2 (qR ζ) (r1 nE (aQ 1)) (c6 2)))) (eP (rC (.bl χ))) fB)
 (gN (rOr (oR (cU (cE a (aE (c5 1 0) aU)))) (oR (cU (cE a (aE (c5 1 1) aU))))) (eP (rC (.bl χ))) fB)
def uA(a:FD):RS:=
 cS (gN (rOr (oR (cU (r1 (EI "tuple") (bH 0)))) (rOr (cU (r2 (qR ζ) (r1 nE (aQ 0)) (c6 2))) (rOr (oR (cU (cE a (aE (c5 0 0) aU)))) (cU (r2 (mK λi j=>decide (i<j)) (c5 0 0) (c6 1)))))) (eP (rC (.bl χ))) fB)
 (cS (gN (rOr (oR (cU (r1 (EI "tuple") (c5 0 1)))) (cU (r2 (mK λi j=>decide (i<j)) (r1 nE (c5 0 1)) (c6 3)))) (eP (rC (.bl χ))) fB)
 (cS (iA (riT (c5 0 1)) (cA 1) (rL a))
 (eP (rC (.bl ζ)))))
def wM(a:FD)(b:FD):RS:=
 cS (dC 3 (cE a (aE (cE a (aE (bH 3) (aE (r2 f8 (r2 f8 (aQ 2) (aQ 5)) (c6 0)) aU))) (aE (r2 f8 (r2 f8 (aQ 2) (aQ 5)) (c6 1)) aU))))
 (cS (gN (cU (r2 (mK λi j=>decide (i<=j)) (cE b (aE (r2 f8 (aQ 2) (r2 iR (aQ 5) (c6 2))) (aE (r2 f8 (aQ 2) (r2 iR (aQ 5) (c6 1))) (aE (r2 f8 (aQ 2) (aQ 5)) aU)))) (c6 0))) (eP (rC (.bl χ))) fB)
 (gN (QM (cU (r2 Zh (r2 f8 (aQ 2) (r2 iR (aQ 5) (c6 1))) (r2 f8 (aQ 2) (r2 iR (aQ 5) (c6 2))))) (cU (r2 Zh (r2 f8 (aQ 2) (r2 iR (aQ 5) (c6 1))) (r2 f8 (aQ 2) (aQ 5))))) (dC 4 (r2 kO (aQ 4) (c6 1))) fB))
def BM(a:FD)(b:FD)(c:FD):RS:=
 cS (gN (oR (cU (cE b (aE (bH 0) aU)))) (eP (rC (.bl χ))) fB)
 (cS (Kw (bH 0) (kW 2 (eG (cA 1) (eG (cA 2) kU))))
 (cS (dC 3 (bH 1))
 (cS (dC 4 (c6 0))
 (cS (iA (AB (aE (r1 nE (aQ 2)) aU)) (cA 5) (wM a c))
 (eP (XR (r2 (qR χ) (aQ 3) (c6 1)) (XR (r2 (qR χ) (aQ 4) (c6 1)) (r2 zn (c5 2 0) (r1 Mr (aQ 2))))))))))
def GR(a:FD):RS:=
 eP (cE a (aE (c5 0 3) (aE (c5 0 1) aU)))
def DZ(a:FD):RS:=
 eP (cE a (aE (c5 0 4) (aE (c5 0 2) aU)))
def uC(a:FD):RS:=
 dC 1 (cE a (aE (bH 1) (aE (bH 2) aU)))
def yD(a:FD):RS:=
 cS (dC 1 (c6 1))
 (cS (iA (riL (bH 0)) (cA 2) (uC a))
 (eP (bH 1)))
def GS(a:FD):RS:=
 eP (cE a (aE (c5 0 2) (aE (c5 0 1) aU)))
def GW(a:FD):RS:=
 eP (cE a (aE (c5 0 4) (aE (c5 0 3) aU)))
def GV:RS:=
 cS (gN (cU (r2 (mK λi j=>decide (i<j)) (c5 2 0) (c5 3 0))) (yB 1 (gQ (aE (bH 2) (aE (bH 3) aU)))) fB)
 (gN (cU (r2 (mK λi j=>decide (i<j)) (c5 3 0) (c5 2 0))) (yB 1 (gQ (aE (bH 3) (aE (bH 2) aU)))) fB)
def SM:RS:=
 cS (oY 1 (nO aU))
 (cS (iA (SO (bH 0) (r2 qD (LJ (aQ 0) (tL (c6 1)) lP) (LJ (aQ 0) lP (tL (c6 1))))) (kW 2 (eG (cA 2) (eG (cA 3) kU))) GV)
 ((λE a=>(eP (bH 1)) E (sC 1 a))))
def uE:RS:=
 Og 1 (bH 4) (bH 3)
def uF:RS:=
 iA (Xu (aE (r2 f8 (c5 3 0) (c6 0)) (aE (r2 f8 (c5 3 1) (c6 0)) aU))) (cA 4) uE
def uG(a:FD):RS:=
 iA (riL (cE a (aE (bH 2) aU))) (cA 3) uF
def yG(b:FD):RS:=
 cS (Xh 1)
 (cS (iA (riL (bH 0)) (cA 2) (uG b))
 ((λE a=>(eP (bH 1)) E (sC 1 a))))
def SN:RS:=
 eP (r2 iR (r2 f8 (c5 0 1) (c6 0)) (r2 f8 (c5 0 0) (c6 0)))
def OE(a:FD):RS:=
 cS (dC 3 (c5 0 0))
 (cS (dC 4 (cE a (aE (bH 0) aU)))
 (cS (dC 5 (r2 fI (r2 iR (r2 f8 (c5 0 1) (c6 1)) (c5 3 1)) (r2 iR (aQ 1) (c5 3 0))))
 (eP (r2 fI (r2 kO (r2 fI (c5 3 1) (aQ 4)) (aQ 5)) (r2 qE (aQ 2) (aQ 4))))))
def uD:RS:=
 gN (cU (r2 (mK λi j=>decide (i<j)) (c5 5 1) (c5 4 1))) ((λ_ _=>False)) fB
def yE(b:FD):RS:=
 cS (oY 3 (oC (riL (bH 0)) 1 [1,2] (cA 0) (gQ (aE (cE b (aE (bH 0) (aE (bH 1) (aE (bH 2) aU)))) (aE (cE b (aE (bH 0) (aE (r2 kO (aQ 1) (c6 1)) (aE (bH 2) aU)))) aU)))))
 (cS (oY 3 (La (aQ 3)))
 (cS ((λE a=>(iA (SO (bH 3) (LJ (aQ 3) (tL (c6 1)) lP)) (kW 2 (eG (cA 4) (eG (cA 5) kU))) uD) E (sC 3 a)))
 ((λE a=>(eP (bH 3)) E (sC 3 a)))))
def yC(a:FD):RS:=
 gN (cU (r2 dNe (aQ 5) (aQ 6))) (cS (oY 7 (oC (riT (r2 qD (aQ 5) (aQ 6))) 1 [2] (cA 0) (cE a (aE (bH 0) (aE (bH 1) aU)))))
 (yB 4 (gQ (aE (bH 1) (aE (c5 7 0) (aE (c5 7 1) (aE (c5 7 2) (aE (c5 7 3) aU)))))))) fB
def vY(c:FD)(d:FD)(e:FD)(f:FD):RS:=
 cS (dC 2 (cE c (aE ((λa Q=>(oC (riL (bH 0)) 1 [] (cA 0) (cE f (aE (bH 0) aU))) a λb=>Q (.lst b))) aU)))
 (cS (dC 3 (cE d (aE (bH 0) (aE (bH 1) (aE (bH 2) aU)))))
 (cS (oY 4 (nO aU))
 (cS (iA (SO ((λa Q=>(Rl 0 (aQ 3)) a λb=>Q (.lst b))) ((λa Q=>(Rl 1 (aQ 3)) a λb=>Q (.lst b)))) (kW 2 (eG (cA 5) (eG (cA 6) kU))) (yC e))
 ((λE a=>(eP (bH 4)) E (sC 4 a))))))
def SF(a:FD):RS:=
 GC 2 (cE a (aE (r2 Zg (bH 1) (bH 3)) (aE (bH 3) aU)))
def Hj(c:FD)(d:FD):RS:=
 cS (dC 1 (cE d (aE (bH 0) aU)))
 (cS (oY 2 (nO aU))
 (cS (iA (riL ((λa Q=>(XU ((λa Q=>(Kz (bH 1)) a λb=>Q (.lst b)))) a λb=>Q (.lst b)))) (cA 3) (SF c))
 ((λE a=>(eP (bH 2)) E (sC 2 a)))))
def wK(b:FD)(a:FD):RS:=
 cS (gN (rOr (oR (cU (r1 (EI "tuple") (bH 0)))) (rOr (cU (r2 (qR ζ) (r1 nE (aQ 0)) (c6 2))) (rOr (oR (cU (cE a (aE (c5 0 0) aU)))) (oR (cU (cE a (aE (c5 0 1) aU))))))) (eP (rC (.bl χ))) fB)
 (eP (XR (r2 (mK λi j=>decide (j<i)) (c5 0 1) (c6 0)) (r2 (qR χ) (cE b (aE (c5 0 0) (aE (c5 0 1) aU))) (c6 1))))
def vH(a:FD):RS:=
 yB 3 (cE a (aE (bH 0) (aE (r2 kO (aQ 2) (c6 1)) (aE (bH 4) aU))))
def zA(b:FD):RS:=
 cS (oY 3 (nO aU))
 (cS (iA (AB (aE (bH 1) aU)) (cA 4) (vH b))
 (eP ((λa Q=>(XU (aQ 3)) a λc=>Q (.lst c)))))
def BO:RS:=
 cS (dC 8 (r2 fI (c6 2) (aQ 5)))
 (cS (dC 9 (r2 kO (r2 fI (c6 2) (aQ 5)) (c6 1)))
 (cS (gN (cU (r2 (qR χ) (r2 oW (r2 qE (c5 0 0) (c6 2)) (c6 3)) (c6 1))) (cS (dC 8 (bH 5))
 (dC 9 (r2 iR (r2 iR (aQ 3) (c6 1)) (aQ 5)))) fB)
 (cS ((λE a=>(oY 10 (oC (AB (aE (r1 nE (aQ 4)) aU)) 1 [4,6,8] (cA 0) (gQ (aE (r2 f8 (aQ 1) (aQ 0)) (aE (r2 f8 (r2 f8 (aQ 2) (aQ 0)) (aQ 3)) aU))))) E (sC 4 a)))
 ((λE a=>(yB 7 (r2 qD (aQ 10) ((λa Q=>(oC (Le (aE (r1 nE (aQ 4)) aU)) 1 [4,6,9] (cA 0) (gQ (aE (r2 f8 (aQ 1) (aQ 0)) (aE (r2 f8 (r2 f8 (aQ 2) (aQ 0)) (aQ 3)) aU)))) a λb=>Q (.lst b))))) E (sC 4 a))))))
def BQ:RS:=
 yB 4 (r2 kO (r2 kO (r2 f8 (aQ 4) (r1 TN (c6 1))) (c6 1)) (r2 oW (r2 qE (c5 0 1) (r2 kO (c6 2) (r2 fI (c6 3) (aQ 5)))) (aQ 1)))
def JF(b:FD):RS:=
 cS (dC 3 (r2 fI (c6 2) (r2 kO (c6 1) (r2 oW (c5 0 0) (c6 2)))))
 (cS (oY 4 (nO (aE (c6 0) aU)))
 (cS (iA (AB (aE (r2 kO (c6 1) (r2 oW (c5 0 1) (c6 2))) aU)) (cA 5) BQ)
 (cS (dC 6 ((λa Q=>(oC (AB (aE (r1 nE (aQ 4)) aU)) 1 [0,3,2] (cA 0) (cE b (aE (r2 f8 (aQ 1) (r2 kO (c6 2) (aQ 0))) (aE (bH 2) (aE (bH 3) aU))))) a λc=>Q (.lst c))))
 (cS (oY 7 (nO aU))
 (cS (iA (AB (aE (r2 qE (aQ 3) (c6 2)) aU)) (cA 5) BO)
 ((λE a=>(eP (bH 7)) E (sC 7 a))))))))
def GN:RS:=
 yB 3 ((λa Q=>(oC (riL (bH 4)) 2 [1,2] (kW 2 (eG (cA 0) (eG (cA 1) kU))) (gQ (aE (r2 kO (aQ 0) (c5 2 0)) (aE (r2 kO (r2 fI (aQ 1) (aQ 3)) (c5 2 1)) aU)))) a λb=>Q (.lst b)))
def SE:RS:=
 cS (oY 3 (nO aU))
 (cS (iA (riL (bH 0)) (cA 4) GN)
 ((λE a=>(eP (bH 3)) E (sC 3 a))))
def GU(a:FD):RS:=
 dC 1 (cE a (aE (cE a (aE (bH 1) (aE (c5 2 1) aU))) (aE (c5 3 1) aU)))
def SJ(b:FD)(c:FD):RS:=
 cS (dC 1 (c6 1))
 (cS (iA (riL (bH 0)) (kW 2 (eG (cA 2) (eG (cA 3) kU))) (GU c))
 (eP (cE b (aE (bH 1) (aE ((λa Q=>(oC (riL (bH 0)) 2 [1] (kW 2 (eG (cA 0) (eG (cA 1) kU))) (gQ (aE (r2 fI (c5 0 0) (r2 qE (aQ 2) (c5 0 1))) (aE (r2 fI (c5 1 0) (r2 qE (aQ 2) (c5 1 1))) aU)))) a λd=>Q (.lst d))) aU)))))
def OC(b:FD)(c:FD):RS:=
 cS (dC 2 (gQ (aE (c6 0) (aE (c6 1) aU))))
 (cS (dC 3 (gQ (aE (c6 1) (aE (c6 1) aU))))
 (eP (cE b (aE ((λa Q=>(nO (aE (gQ (aE (bH 2) (aE (bH 2) aU))) (aE (gQ (aE (bH 3) (aE (bH 0) aU))) (aE (gQ (aE (bH 3) (aE (cE c (aE (bH 0) (aE (bH 1) aU))) aU))) (aE (gQ (aE (bH 2) (aE (bH 1) aU))) aU))))) a λd=>Q (.lst d))) aU))))
def BT(b:FD):RS:=
 eP (cE b (aE ((λa Q=>(nO (aE (gQ (aE (gQ (aE (c6 0) (aE (c6 1) aU))) (aE (gQ (aE (c6 0) (aE (c6 1) aU))) aU))) (aE (gQ (aE (gQ (aE (c6 1) (aE (c6 1) aU))) (aE (bH 0) aU))) (aE (gQ (aE (gQ (aE (c6 1) (aE (c6 1) aU))) (aE (bH 1) aU))) aU)))) a λc=>Q (.lst c))) aU))
def BR(b:FD)(c:FD):RS:=
 eP (cE c (aE ((λa Q=>(nO (aE (gQ (aE (gQ (aE (c6 0) (aE (c6 1) aU))) (aE (gQ (aE (c6 0) (aE (c6 1) aU))) aU))) (aE (gQ (aE (gQ (aE (c6 1) (aE (c6 1) aU))) (aE (bH 1) aU))) (aE (gQ (aE (gQ (aE (c6 0) (aE (c6 1) aU))) (aE (cE b (aE (bH 1) (aE (bH 0) aU))) aU))) aU)))) a λd=>Q (.lst d))) aU))
def SK:RS:=
 eP (gQ (aE (c6 1) (aE (gQ (aE (bH 0) (aE (c6 1) aU))) (aE (bH 1) aU))))
def GJ(a:FD)(b:FD)(c:FD):RS:=
 cS (gN (rOr (oR (cU (r1 (EI "tuple") (bH 0)))) (rOr (cU (r2 (qR ζ) (r1 nE (aQ 0)) (c6 2))) (oR (cU (cE b (aE (c5 0 0) aU)))))) (eP (rC (.bl χ))) fB)
 (cS (dC 1 (c5 0 1))
 (cS (gN (rOr (oR (cU (r1 (EI "tuple") (bH 1)))) (rOr (cU (r2 (qR ζ) (r1 nE (aQ 1)) (c6 3))) (rOr (oR (cU (cE c (aE (c5 1 0) aU)))) (cU (r2 (qR ζ) (rCB Ez (aE (c5 1 0) aU)) (c6 1)))))) (eP (rC (.bl χ))) fB)
 (eP (XR (cE a (aE (c5 1 1) aU)) (cE a (aE (c5 1 2) aU))))))
def DR(a:FD):RS:=
 gN (oR (cU (cE a (aE (bH 1) aU)))) (eP (rC (.bl χ))) fB
def NZ(a:FD):RS:=
 cS (gN (oR (cU (r1 (EI "list") (bH 0)))) (eP (rC (.bl χ))) fB)
 (cS (iA (riL (bH 0)) (cA 1) (DR a))
 (eP (rC (.bl ζ))))
def NY:RS:=
 cS (Kw (bH 1) (kW 3 (eG (cA 2) (eG (cA 3) (eG (cA 4) kU)))))
 (cS (dC 5 (r2 fI (r2 fI (aQ 2) (r2 iR (r2 fI (c5 0 0) (c5 3 1)) (r2 fI (c5 3 0) (c5 0 2)))) (c5 4 1)))
 (cS (dC 6 (r2 fI (r2 fI (aQ 2) (r2 iR (r2 fI (c5 0 1) (c5 4 1)) (r2 fI (c5 4 0) (c5 0 2)))) (c5 3 1)))
 (eP (gQ (aE (bH 5) (aE (bH 6) (aE (r2 fI (r2 fI (c5 0 2) (c5 3 1)) (c5 4 1)) aU)))))))
def DV(a:FD)(b:FD):RS:=
 cS (dC 6 (bH 1))
 (cS (gN (cU (bH 2)) (dC 6 (cE a (aE (bH 1) (aE (bH 5) aU)))) fB)
 (cS (dC 7 (cE b (aE (bH 4) (aE (bH 6) aU))))
 (cS (gN (cU (r2 (qR χ) (aQ 7) (c6 0))) (eP (rC .non)) fB)
 (dC 3 (r2 kO (aQ 3) (rCB VU (aE (r2 (qR χ) (aQ 7) (c6 1)) aU)))))))
def OA(a:FD)(b:FD):RS:=
 cS (dC 3 (c6 0))
 (cS (iA (riL (bH 0)) (kW 2 (eG (cA 4) (eG (cA 5) kU))) (DV a b))
 (eP (bH 3)))
def yX:RS:=
 cS (dC 3 (r2 f8 (c5 0 1) (r2 iR (aQ 2) (c6 1))))
 (cS (dC 4 (r2 f8 (c5 0 1) (aQ 2)))
 (dC 1 (r2 iR (r2 kO (aQ 1) (r2 fI (c5 3 0) (c5 4 1))) (r2 fI (c5 3 1) (c5 4 0)))))
def GE:RS:=
 cS (dC 1 (c6 0))
 (cS (iA (AB (aE (r1 nE (c5 0 1)) aU)) (cA 2) yX)
 (eP (gQ (aE (bH 1) (aE (r2 fI (c5 0 0) (c5 0 0)) aU)))))
def JA:RS:=
 eP (gQ (aE (r2 kO (r2 fI (c5 0 0) (c5 1 1)) (r2 fI (c5 1 0) (c5 0 1))) (aE (r2 fI (c5 0 1) (c5 1 1)) aU)))
def BI(a:FD)(b:FD):RS:=
 dC 1 (cE a (aE (bH 1) (aE (cE b (aE (c5 2 0) aU)) aU)))
def JB(a:FD)(b:FD):RS:=
 cS (dC 1 (gQ (aE (c6 0) (aE (c6 1) aU))))
 (cS (iA (riL (bH 0)) (cA 2) (BI a b))
 (eP (bH 1)))
def GL:RS:=
 cS (dC 5 (rCB Uc (aE (r2 f8 (aQ 3) (r2 iR (aQ 4) (c6 1))) (aE (r2 f8 (aQ 3) (aQ 4)) aU))))
 (cS (dC 6 (rCB Ub (aE (r2 f8 (aQ 3) (r2 iR (aQ 4) (c6 1))) (aE (r2 f8 (aQ 3) (aQ 4)) aU))))
 (gN (QM (cU (r2 (mK λi j=>decide (i<j)) (r2 fI (c5 5 0) (c5 1 2)) (c5 1 0))) (cU (r2 (mK λi j=>decide (i<j)) (c5 1 0) (r2 fI (c5 6 0) (c5 1 2))))) (cS (dC 7 (r2 iR (c5 1 0) (r2 fI (c5 5 0) (c5 1 2))))
 (cS (dC 8 (r2 fI (r2 iR (c5 6 1) (c5 5 1)) (aQ 7)))
 (cS (dC 9 (r2 fI (r2 iR (c5 1 1) (r2 fI (c5 5 1) (c5 1 2))) (r2 iR (c5 6 0) (c5 5 0))))
 (cS (dC 9 (r2 iR (aQ 9) (aQ 8)))
 (cS (gN (cU (r2 (qR χ) (aQ 9) (c6 0))) (eP (rC .non)) fB)
 (dC 2 (r2 kO (aQ 2) (rCB VU (aE (r2 (mK λi j=>decide (j<i)) (aQ 9) (c6 0)) aU))))))))) fB))
def GM:RS:=
 iA (AB (aE (r1 nE (aQ 3)) aU)) (cA 4) GL
def SD:RS:=
 cS (dC 2 (c6 0))
 (cS (iA (riL (bH 0)) (cA 3) GM)
 (eP (r2 oW (aQ 2) (c6 2))))
def JD:RS:=
 cS (dC 3 (r2 oW (r2 fI (r2 fI (r2 kO (r2 oW (aQ 0) (r2 MY (c6 10) (c6 9))) (c6 7)) (r2 kO (r2 oW (aQ 0) (r2 MY (c6 10) (c6 9))) (c6 31))) (c6 48271)) (c6 2147483629)))
 (cS (dC 4 (r2 kO (c6 1) (r2 oW (aQ 3) (r2 iR (r2 fI (c6 1009) (r2 iR (c5 2 0) (c5 1 0))) (c6 1)))))
 (cS (gN (cU (r2 (qR χ) (r2 oW (aQ 4) (c6 1009)) (c6 0))) (dC 4 (r2 kO (aQ 4) (c6 1))) fB)
 (cS (dC 3 (r2 oW (r2 fI (aQ 3) (c6 69621)) (c6 2147483587)))
 (cS (dC 5 (r2 iR (r2 qE (r2 fI (aQ 3) (r2 fI (c6 1009) (r2 kO (r2 iR (c5 2 1) (c5 1 1)) (c6 2)))) (c6 2147483587)) (c6 1009)))
 (eP (gQ (aE (r2 kO (r2 fI (c5 1 0) (c6 1009)) (aQ 4)) (aE (r2 kO (r2 fI (c5 1 1) (c6 1009)) (aQ 5)) (aE (c6 1009) aU)))))))))
def BN:RS:=
 cS (dC 1 (r2 qD (aQ 1) ((λa Q=>(oC (riL (bH 3)) 2 [] (kW 2 (eG (cA 0) (eG (cA 1) kU))) (bH 0)) a λb=>Q (.lst b)))))
 (dC 2 (r2 qD (aQ 2) ((λa Q=>(oC (riL (bH 3)) 2 [] (kW 2 (eG (cA 0) (eG (cA 1) kU))) (bH 1)) a λb=>Q (.lst b)))))
def JE:RS:=
 cS (dC 1 ((λa Q=>(nO (aE (c6 0) (aE (c6 1) aU))) a λb=>Q (.lst b))))
 (cS (dC 2 ((λa Q=>(nO (aE (c6 0) aU)) a λb=>Q (.lst b))))
 (cS (iA (riL (bH 0)) (cA 3) BN)
 (cS (gN (cU (r2 Zj (aQ 0) ((λa Q=>(nO aU) a λb=>Q (.lst b))))) (cS (dC 1 (LJ (aQ 1) (tL (c6 2)) lP))
 (dC 2 (LJ (aQ 2) (tL (c6 1)) lP))) fB)
 (eP (gQ (aE (gQ (aE (r1 Mq (aQ 1)) (aE (r1 Mq (aQ 2)) aU))) (aE (gQ (aE (r1 Mp (aQ 1)) (aE (r1 Mp (aQ 2)) aU))) aU)))))))
def JG(c:FD):RS:=
 cS (dC 3 (r2 fI (c5 0 1) (c5 1 1)))
 (cS (dC 4 (r2 fI (c5 0 0) (c5 1 1)))
 (cS (dC 5 (r2 fI (c5 1 0) (c5 0 1)))
 (cS (gN (cU (bH 2)) (eP (cE c (aE (bH 3) (aE ((λa Q=>(nO (aE (gQ (aE (c6 0) (aE (c6 0) aU))) (aE (gQ (aE (bH 3) (aE (bH 4) aU))) (aE (gQ (aE (bH 3) (aE (bH 5) aU))) aU)))) a λb=>Q (.lst b))) aU)))) fB)
 (eP (cE c (aE (bH 3) (aE ((λa Q=>(nO (aE (gQ (aE (c6 0) (aE (c6 0) aU))) (aE (gQ (aE (bH 3) (aE (bH 5) aU))) (aE (gQ (aE (c6 0) (aE (r2 iR (aQ 5) (aQ 4)) aU))) aU)))) a λb=>Q (.lst b))) aU)))))))
def zB:RS:=
 cS (gN (rOr (cU (r2 (mK λi j=>decide (i<j)) (aQ 3) (c6 0))) (cU (r2 (mK λi j=>decide (j<i)) (aQ 3) (c5 0 0)))) (eP (rC (.bl χ))) fB)
 (cS (dC 5 (r2 iR (r2 fI (aQ 4) (c5 1 1)) (r2 fI (aQ 3) (c5 1 0))))
 (gN (rOr (cU (r2 (mK λi j=>decide (i<j)) (aQ 5) (c6 0))) (cU (r2 (mK λi j=>decide (j<i)) (r2 fI (aQ 5) (c5 2 1)) (r2 fI (r2 fI (c5 2 0) (c5 1 1)) (c5 0 0))))) (eP (rC (.bl χ))) fB))
def GI:RS:=
 cS (iA (riT (c5 0 1)) (kW 2 (eG (cA 3) (eG (cA 4) kU))) zB)
 (eP (rC (.bl ζ)))
def GF(a:FD):RS:=
 gN (oR (cU (cE a (aE (c5 2 0) (aE (r2 f8 (aQ 1) (c5 0 0)) (aE (c5 0 1) aU)))))) (eP (rC (.bl χ))) fB
def SB(a:FD)(b:FD)(c:FD)(d:FD)(e:FD):RS:=
 cS (gN (rOr (oR (cU (r1 (EI "tuple") (bH 0)))) (rOr (cU (r2 (qR ζ) (r1 nE (aQ 0)) (c6 3))) (rOr (oR (cU (cE e (aE (c5 0 0) aU)))) (oR (cU (cE d (aE (c5 0 1) aU))))))) (eP (rC (.bl χ))) fB)
 (cS (gN (rOr (cU (r2 (mK λi j=>decide (i<j)) (c5 0 0) (c6 0))) (rOr (cU (r2 (mK λi j=>decide (j<=i)) (c5 0 0) (r1 nE (aQ 1)))) (rOr (cU (r2 (mK λi j=>decide (i<=j)) (r2 f8 (c5 0 1) (c6 0)) (c6 0))) (oR (cU (cE b (aE (c5 0 2) aU))))))) (eP (rC (.bl χ))) fB)
 (cS (iA (riL (c5 0 2)) (cA 2) (GF c))
 (cS (dC 3 (cE a (aE (c5 0 2) aU)))
 (eP (r2 (qR χ) (r2 fI (c5 3 0) (r2 f8 (c5 0 1) (c6 1))) (r2 fI (r2 fI (c6 2) (r2 f8 (c5 0 1) (c6 0))) (c5 3 1)))))))
def DY:RS:=
 cS (dC 3 (r2 oW (r2 fI (r2 fI (r2 kO (r2 oW (aQ 0) (r2 MY (c6 10) (c6 9))) (c6 7)) (r2 kO (r2 oW (aQ 0) (r2 MY (c6 10) (c6 9))) (c6 31))) (c6 48271)) (c6 2147483629)))
 (cS (dC 4 (r2 kO (c6 1) (r2 oW (aQ 3) (c6 1008))))
 (cS (dC 5 (r2 kO (c6 1) (r2 oW (r2 oW (r2 fI (aQ 3) (c6 69621)) (c6 2147483587)) (c6 9972))))
 (cS (dC 6 (r2 fI (r2 fI (r2 fI (c6 1009) (c6 9973)) (c5 1 1)) (c5 2 1)))
 (eP (gQ (aE (r2 fI (r2 fI (r2 fI (aQ 4) (c6 9973)) (c5 1 1)) (c5 2 1)) (aE (r2 kO (r2 fI (r2 fI (r2 fI (aQ 4) (c5 1 0)) (c6 9973)) (c5 2 1)) (r2 fI (r2 fI (r2 fI (aQ 5) (c5 2 0)) (c6 1009)) (c5 1 1))) (aE (bH 6) aU))))))))
def zD(a:FD)(b:FD)(c:FD):RS:=
 cS (gN (rOr (oR (cU (r1 (EI "tuple") (bH 3)))) (rOr (cU (r2 (qR ζ) (r1 nE (aQ 3)) (c6 2))) (rOr (oR (cU (cE c (aE (c5 3 0) aU)))) (oR (cU (cE a (aE (c5 3 1) aU))))))) (eP (rC (.bl χ))) fB)
 (cS (gN (rOr (cU (r2 (mK λi j=>decide (i<j)) (c5 3 0) (c6 0))) (cU (r2 (mK λi j=>decide (j<=i)) (c5 3 0) (r2 iR (r1 nE (aQ 1)) (c6 1))))) (eP (rC (.bl χ))) fB)
 (gN (cU (r2 dNe (r2 f8 (c5 3 1) (c6 0)) (cE b (aE (r2 f8 (aQ 1) (c5 3 0)) (aE (r2 f8 (aQ 1) (r2 kO (c5 3 0) (c6 1))) (aE (bH 2) aU)))))) (eP (rC (.bl χ))) fB))
def GO(a:FD)(b:FD)(c:FD):RS:=
 cS (gN (oR (cU (r1 (EI "list") (bH 0)))) (eP (rC (.bl χ))) fB)
 (cS (iA (riL (bH 0)) (cA 3) (zD a b c))
 (eP (rC (.bl ζ))))
def wN:RS:=
 cS (dC 3 (r2 fI (r2 iR (r2 fI (c5 1 0) (c5 0 1)) (r2 fI (c5 0 0) (c5 1 1))) (c5 2 1)))
 (eP (r2 (mK λi j=>decide (i<=j)) (aQ 3) (r2 fI (r2 fI (c5 2 0) (c5 0 1)) (c5 1 1))))
def sJ(a:FD):RS:=
 cS (dC 1 (cE a (aE (bH 1) (aE (cE a (aE (bH 5) (aE (bH 6) aU))) aU))))
 (cS (dC 1 (cE a (aE (bH 1) (aE (gQ (aE (r2 iR (c6 0) (c5 3 0)) (aE (c5 3 1) aU))) aU))))
 (dC 1 (cE a (aE (bH 1) (aE (gQ (aE (r2 iR (c6 0) (c5 4 0)) (aE (c5 4 1) aU))) aU)))))
def vI(a:FD):RS:=
 cS (dC 1 (gQ (aE (c6 0) (aE (c6 1) aU))))
 (cS (iA (riL (bH 0)) (kW 5 (eG (cA 2) (eG (cA 3) (eG (cA 4) (eG (cA 5) (eG (cA 6) kU)))))) (sJ a))
 (eP (bH 1)))
def QN(c:FD):RS:=
 cS (dC 1 (cE c (aE ((λa Q=>(oC (riL (bH 0)) 1 [] (cA 0) (c5 0 1)) a λb=>Q (.lst b))) aU)))
 (eP ((λa Q=>(Dq 1 (aQ 0)) a λb=>Q (.lst b))))
def GQ(a:FD)(b:FD):RS:=
 cS (Ba 2 (cE a (aE (bH 3) aU)) (rC (.bl ζ)))
 (Ba 2 (cE b (aE (bH 3) aU)) (rC (.bl ζ)))
def SH(c:FD)(b:FD)(d:FD):RS:=
 cS (M6 2)
 (cS (iA (riL (r2 qD (aQ 0) (aQ 1))) (cA 3) (GQ c d))
 (eP (cE b (aE ((λa Q=>(Dr 2) a λe=>Q (.lst e))) aU))))
def SG(c:FD)(d:FD)(e:FD):RS:=
 cS (dC 3 (cE d (aE (bH 0) aU)))
 (cS (gN (cU (r2 zn (aQ 1) (gQ (aE (c6 0) (aE (c6 1) aU))))) (eP ((λa Q=>(nO aU) a λb=>Q (.lst b)))) fB)
 (cS (dC 4 (gQ (aE (cE c (aE (bH 3) (aE (bH 1) aU))) (aE (cE e (aE (c5 0 0) (aE (c5 0 1) aU))) aU))))
 (eP ((λa Q=>(nO (aE (gQ (aE (r2 RF (bH 2) (bH 3)) (aE (bH 1) (aE ((λa Q=>(nO (aE (bH 4) aU)) a λb=>Q (.lst b))) aU)))) aU)) a λb=>Q (.lst b))))))
def zF(a:FD)(b:FD):RS:=
 cS (dC 5 (cE a (aE (r2 f8 (aQ 1) (aQ 4)) (aE (r2 f8 (aQ 1) (r2 kO (aQ 4) (c6 1))) aU))))
 (yB 3 (gQ (aE (bH 4) (aE (gQ (aE (bH 5) (aE (cE b (aE (c5 0 0) (aE (c5 0 3) aU))) aU))) aU))))
def GT(b:FD)(c:FD)(d:FD)(e:FD):RS:=
 cS (oY 3 (nO aU))
 (cS (iA (Rn (aE (r2 RF (bH 2) (cE b (aE (bH 0) aU))) (aE (r2 RF (bH 2) (cE e (aE (bH 0) aU))) aU))) (cA 4) (zF c d))
 ((λE a=>(eP (bH 3)) E (sC 3 a))))
def zE(a:FD)(b:FD)(c:FD):RS:=
 cS (dC 5 (cE a (aE (r2 f8 (aQ 1) (aQ 4)) (aE (r2 f8 (aQ 1) (r2 kO (aQ 4) (c6 1))) aU))))
 (yB 3 (gQ (aE (bH 4) (aE (gQ (aE (bH 5) (aE (cE c (aE (c5 0 0) (aE (cE b (aE (c5 0 4) (aE (r2 f8 (aQ 1) (r2 kO (aQ 4) (c6 1))) aU))) aU))) aU))) aU))))
def GP(b:FD)(c:FD)(d:FD)(e:FD)(f:FD):RS:=
 cS (oY 3 (nO aU))
 (cS (iA (Rn (aE (r2 RF (bH 2) (cE f (aE (bH 0) aU))) (aE (r2 RF (bH 2) (cE c (aE (bH 0) aU))) aU))) (cA 4) (zE b d e))
 ((λE a=>(eP (bH 3)) E (sC 3 a))))
def SI(b:FD)(c:FD)(d:FD)(e:FD)(f:FD)(a:FD):RS:=
 cS (dC 7 (cE e (aE (bH 6) aU)))
 (cS (gN (cU (cE b (aE (cE a (aE (bH 6) aU)) (aE (bH 7) aU)))) (dC 7 (cE a (aE (bH 6) aU))) fB)
 (cS (GC 3 (cE c (aE (bH 6) (aE (bH 7) (aE (bH 2) aU)))))
 (cS (GC 4 (cE f (aE (bH 6) (aE (bH 1) (aE (bH 2) aU)))))
 (GC 5 (cE d (aE (bH 6) (aE (bH 1) (aE (bH 2) aU))))))))
def Hm(b:FD)(c:FD)(d:FD)(e:FD)(f:FD)(g:FD):RS:=
 cS (dC 2 (Kx ((λa Q=>(oC (F6 (bH 1)) 2 [] (kW 2 (eG (cA 0) (eG (cA 1) kU))) (gQ (aE (bH 1) (aE (bH 0) aU)))) a λh=>Q (.lst h)))))
 (cS (oY 3 (nO aU))
 (cS (oY 4 (nO aU))
 (cS (oY 5 (nO aU))
 (cS (iA (riL (bH 0)) (cA 6) (SI b c d e f g))
 ((λE a=>((λE a=>((λE a=>(eP (gQ (aE (bH 3) (aE (bH 4) (aE (bH 5) aU))))) E (sC 5 a))) E (sC 4 a))) E (sC 3 a)))))))
def wI(b:FD)(c:FD):RS:=
 gN (cU (r2 Ud (cE b (aE (bH 5) (aE (cE c (aE (bH 6) (aE (r2 f8 (aQ 1) (aQ 3)) (aE (bH 4) aU)))) (aE (rC (.bl χ)) aU)))) ((λa Q=>(nO (aE (c6 1) (aE (rC .non) aU))) a λd=>Q (.lst d))))) (eP (rC (.bl χ))) fB
def wJ(a:FD)(b:FD):RS:=
 iA (riL (bH 2)) (cA 6) (wI a b)
def BK(a:FD)(b:FD):RS:=
 cS (iA (riL (bH 0)) (kW 3 (eG (cA 3) (eG (cA 4) (eG (cA 5) kU)))) (wJ a b))
 (eP (rC (.bl ζ)))
def wH(a:FD):RS:=
 cS (gN (oR (cU (cE a (aE (bH 3) (aE (bH 1) aU))))) (eP (rC .non)) fB)
 (dC 2 (r2 qD (aQ 2) (c5 3 2)))
def BH(d:FD)(c:FD):RS:=
 cS (gN (rOr (oR (cU (r1 (EI "tuple") (bH 0)))) (rOr (cU (r2 (qR ζ) (r1 nE (aQ 0)) (c6 3))) (oR (cU (r1 (EI "list") (c5 0 0)))))) (eP (rC .non)) fB)
 (cS (dC 2 ((λa Q=>(nO aU) a λb=>Q (.lst b))))
 (cS (iA (riL (c5 0 0)) (cA 3) (wH d))
 (cS (gN (rOr (oR (cU (cE c (aE (c5 0 1) (aE (bH 1) (aE (rC (.bl ζ)) aU)))))) (oR (cU (cE c (aE (c5 0 2) (aE (bH 1) (aE (rC (.bl χ)) aU))))))) (eP (rC .non)) fB)
 (cS (dC 2 (r2 qD (r2 qD (aQ 2) ((λa Q=>(oC (riL (c5 0 1)) 1 [] (cA 0) (c5 0 1)) a λb=>Q (.lst b)))) ((λa Q=>(oC (riL (c5 0 2)) 1 [] (cA 0) (c5 0 1)) a λb=>Q (.lst b)))))
 (cS (gN (cU (r2 (mK λi j=>decide (i<j)) (r1 nE ((λa Q=>(AA (riL (bH 2)) 1 [] (cA 0) (cU (r2 (qR χ) (r2 f8 (c5 0 1) (c6 0)) (c6 1))) (bH 0)) a λb=>Q (.lst b)))) (r1 nE (aQ 2)))) (eP (rC .non)) fB)
 (eP (bH 2)))))))
def yY(a:FD):RS:=
 cS (dC 4 (r2 kO (aQ 4) (rCB VU (aE (cE a (aE (bH 6) (aE (bH 7) (aE (r2 f8 (aQ 2) (aQ 3)) aU)))) aU))))
 (dC 4 (r2 iR (aQ 4) (rCB VU (aE (cE a (aE (bH 8) (aE (bH 9) (aE (r2 f8 (aQ 2) (aQ 3)) aU)))) aU))))
def yZ(c:FD):RS:=
 cS (dC 4 (c6 0))
 (cS (iA (riL (bH 1)) (kW 5 (eG (cA 5) (eG (cA 6) (eG (cA 7) (eG (cA 8) (eG (cA 9) kU)))))) (yY c))
 (cS (dC 10 (r1 nE ((λa Q=>(AA (riL (c5 0 1)) 1 [3] (cA 0) (cU (r2 zn (c5 0 0) (aQ 1))) (bH 0)) a λb=>Q (.lst b)))))
 (gN (cU (r2 (qR ζ) (r2 iR (aQ 10) (r1 nE ((λa Q=>(AA (riL (c5 0 2)) 1 [3] (cA 0) (cU (r2 zn (c5 0 0) (aQ 1))) (bH 0)) a λb=>Q (.lst b))))) (aQ 4))) (eP (rC (.bl χ))) fB)))
def GG(a:FD):RS:=
 cS (iA (AB (aE (r2 iR (r1 nE (aQ 2)) (c6 1)) aU)) (cA 3) (yZ a))
 (eP (rC (.bl ζ)))
def JJ(a:FD)(b:FD)(c:FD):RS:=
 cS (dC 16 (cE c (aE (bH 15) (aE (bH 13) (aE (bH 14) aU)))))
 (cS (dC 17 (cE b (aE (bH 4) (aE (bH 16) aU))))
 (gN (cU (r2 (MW ζ) (aQ 17) (rC .non))) (cS (dC 18 (cE a (aE (bH 10) (aE (bH 16) (aE (rC (.bl ζ)) aU)))))
 (gN (QM (cU (r2 (MW ζ) (aQ 18) (rC .non))) (cU (r2 dNe (aQ 18) (aQ 17)))) (eP (rC (.bl χ))) fB)) fB))
def XW(f:FD)(g:FD)(h:FD)(i:FD)(j:FD)(k:FD)(l:FD)(m:FD)(d:FD)(n:FD)(e:FD)(o:FD)(b:FD)(q:FD)(s:FD):RS:=
 cS (dC 1 (cE k (aE (bH 0) (aE (c6 20) aU))))
 (cS (dC 2 (r2 f8 ((λa Q=>(nO (aE (c6 1) (aE (r2 kO (c6 1) (r2 oW (c5 1 7) (r2 MY (c6 10) (c6 9)))) aU))) a λc=>Q (.lst c))) (r2 oW (c5 1 6) (c6 2))))
 (cS (dC 3 (gQ (aE (r2 iR (r2 oW (c5 1 8) (c6 201)) (c6 100)) (aE (r2 f8 ((λa Q=>(nO (aE (c6 0) (aE (r2 iR (r2 oW (c5 1 9) (r2 kO (r2 fI (c6 2) (r2 MY (c6 10) (c6 18))) (c6 1))) (r2 MY (c6 10) (c6 18))) aU))) a λc=>Q (.lst c))) (r2 oW (r2 qE (c5 1 6) (c6 2)) (c6 2))) aU))))
 (cS (dC 4 (cE d (aE (cE e (aE (bH 1) (aE (c6 3) (aE (c6 6) aU)))) (aE (bH 3) (aE (bH 2) aU)))))
 (cS (dC 5 (cE b (aE (bH 4) aU)))
 (cS (dC 6 ((λa Q=>(nO aU) a λc=>Q (.lst c))))
 (cS (gN (cU (r2 (qR χ) (r2 oW (r2 qE (c5 1 6) (c6 4)) (c6 2)) (c6 1))) (dC 6 (cE b (aE (cE d (aE (cE e (aE (LJ (aQ 1) (tL (c6 10)) lP) (aE (c6 3) (aE (c6 6) aU)))) (aE (bH 3) (aE (bH 2) aU)))) aU))) fB)
 (cS (dC 7 (cE q (aE (bH 5) (aE (bH 6) aU))))
 (cS (dC 8 ((λa Q=>(nO (aE (r1 MX (aQ 5)) (aE (r1 MX (aQ 7)) aU))) a λc=>Q (.lst c))))
 (cS (dC 9 (cE s (aE (c5 8 0) (aE (c5 8 1) aU))))
 (cS (dC 10 (cE f (aE (bH 9) (aE (bH 7) aU))))
 (cS (gN (rOr (cU (r2 (MW χ) (aQ 10) (rC .non))) (rOr (cU (r2 Zi (aQ 8) ((λa Q=>(nO (aE (bH 5) (aE (bH 7) aU))) a λc=>Q (.lst c))))) (oR (cU (cE h (aE (bH 9) (aE (bH 5) (aE (bH 7) aU)))))))) (eP (rC (.bl χ))) fB)
 (cS (gN (oR (cU (cE i (aE (c5 9 0) (aE (bH 7) (aE (r2 qD ((λa Q=>(Az (aQ 0) lP (tL (c6 2))) a λc=>Q (.lst c))) ((λa Q=>(nO (aE (c5 1 9) aU)) a λc=>Q (.lst c)))) aU)))))) (eP (rC (.bl χ))) fB)
 (cS (dC 11 (cE g (aE (bH 10) aU)))
 (cS (dC 12 (cE o (aE (bH 5) aU)))
 (cS (gN (cU (r2 (qR ζ) (r2 fI (c5 11 0) (c5 12 1)) (r2 fI (c5 12 0) (c5 11 1)))) (eP (rC (.bl χ))) fB)
 (cS (Kw (cE n (aE (bH 4) aU)) (kW 2 (eG (cA 13) (eG (cA 14) kU))))
 (cS (iA (riL (r2 qD ((λa Q=>(Az (aQ 0) lP (tL (c6 8))) a λc=>Q (.lst c))) ((λa Q=>(nO (aE (c5 1 9) aU)) a λc=>Q (.lst c))))) (cA 15) (JJ j l m))
 (eP (rC (.bl ζ))))))))))))))))))))
def Y7{α:Type}(x:α)(xs:θ α):qe (x::xs) 0=ψ x:=by
 unfold qe uj;simp
def Y8{α:Type}(x y:α)(xs:θ α):qe (x::y::xs) 1=ψ y:=by
 unfold qe uj;rw[υ μ,υ (by erw[aT];lia)];rfl
def Y9{α:Type}(x y z:α)(xs:θ α):qe (x::y::z::xs) 2=ψ z:=by
 unfold qe uj;rw[υ μ,υ (by erw[aT];lia)];rfl
def So{α:Type}{xs:θ α}{i:Int}{j:Nat}{x:α}(h:i=(j:Int))(e:xs[j]?=ψ x):qe xs i=ψ x:=by
 subst h;show qQ e
def Ca:zn x y Q=(match k5 6 x y with |some b=>Q (.bl b) |none=>False):=rfl
def BL.const(h:i.natAbs<2 ^ n:=by decide):BL n i:=h
def QI(h:0<=j/\j<=1000000/\i.natAbs<2 ^ 64:=by decide):zf i j:=#[h]
def pH(h:j≠0:=by decide):zd j:=#[h]
def Nr(h:n<=1000):n<=sizeLine:=dY h μ
def iT:f8 (.tup (x::xs)) (.int 0) Q=Q x:=by erw[f8,Y7]
def jS:f8 (.tup (x::y::xs)) (.int 1) Q=Q y:=by erw[f8,Y8]
def rH:f8 (.tup (x::y::z::xs)) (.int 2) Q=Q z:=by erw[f8,Y9]
def rS(e:qe xs i=ψ x)(h:Q x):f8 (.lst xs) (.int i) Q:=by erw[f8,e];show h
def UI(e:qe xs i=ψ x)(h:Q x):f8 (.tup xs) (.int i) Q:=by erw[f8,e];show h
def Cc(h0:0<=i)(b:i<xs.length)(h:∀x,x∈xs->Q x):f8 (.lst xs) (.int i) Q:=by
 have a:i.toNat<xs.length:=ν
 show rS (So (j:=i.toNat) ν (aG a)) (h _ (nU a))
def vS{xs:θ D}{k:Nat}{x:D}{Q:D->Prop}(e:xs[k]?=ψ x):f8 (.lst xs) (.int (k:Int)) Q=Q x:=by erw[f8,qQ e]
def Fa:f8 (.lst (a0::r)) (.int 0) Q=Q a0:=vS (k:=0) rfl
def Fb:f8 (.lst (a0::a1::r)) (.int 1) Q=Q a1:=vS (k:=1) rfl
def Tq:f8 (.lst (a0::a1::a2::r)) (.int 2) Q=Q a2:=vS (k:=2) rfl
def Tr:f8 (.lst (a0::a1::a2::a3::r)) (.int 3) Q=Q a3:=vS (k:=3) rfl
def Ts:f8 (.lst (a0::a1::a2::a3::a4::r)) (.int 4) Q=Q a4:=vS (k:=4) rfl
def Tt:f8 (.lst (a0::a1::a2::a3::a4::a5::r)) (.int 5) Q=Q a5:=vS (k:=5) rfl
def Tu:f8 (.lst (a0::a1::a2::a3::a4::a5::a6::r)) (.int 6) Q=Q a6:=vS (k:=6) rfl
def Tv:f8 (.lst (a0::a1::a2::a3::a4::a5::a6::a7::r)) (.int 7) Q=Q a7:=vS (k:=7) rfl
def Tw:f8 (.lst (a0::a1::a2::a3::a4::a5::a6::a7::a8::r)) (.int 8) Q=Q a8:=vS (k:=8) rfl
def Tx:f8 (.lst (a0::a1::a2::a3::a4::a5::a6::a7::a8::a9::r)) (.int 9) Q=Q a9:=vS (k:=9) rfl
def Pr:f8 (.lst (a0::a1::a2::a3::a4::a5::a6::a7::a8::a9::ym::r)) (.int 10) Q=Q ym:=vS (k:=10) rfl
def Ps:f8 (.lst (a0::a1::a2::a3::a4::a5::a6::a7::a8::a9::ym::pr::r)) (.int 11) Q=Q pr:=vS (k:=11) rfl
def gE(n:Nat)(a:θ D):En:=a.map (λd=>ap d)++eQ n ξ
def cM(n:Nat)(h:N.length=ds.length+n):dH N ds=gE n ds:=by
 unfold dH gE;rw[h,Nat.add_sub_cancel_left]
def Q4:Cq "int" (.int i)=ψ ζ:=rfl
def Q2:Cq "bool" (.int i)=ψ χ:=rfl
def Q3:Cq "int" (.bl i)=ψ ζ:=rfl
def Q1:Cq "bool" (.bl i)=ψ ζ:=rfl
def Q5:Cq "tuple" (.tup xs)=ψ ζ:=rfl
def iq{α:Type}{x:α}:eQ 0 x=[]:=rfl
def Ld{α:Type}{x:α}:eQ 1 x=[x]:=rfl
def QO{α:Type}{x:α}:eQ 2 x=[x,x]:=rfl
def Ds{α:Type}{x:α}:eQ 3 x=[x,x,x]:=rfl
def Xq{α:Type}{x:α}:eQ 4 x=[x,x,x,x]:=rfl
def Xr{α:Type}{x:α}:eQ 5 x=[x,x,x,x,x]:=rfl
def V8{α:Type}{x:α}:eQ 6 x=[x,x,x,x,x,x]:=rfl
def iw{α:Type}{x:α}:eQ 7 x=[x,x,x,x,x,x,x]:=rfl
def Xs{α:Type}{x:α}:eQ 8 x=[x,x,x,x,x,x,x,x]:=rfl
def iz{α:Type}{x:α}:eQ 9 x=[x,x,x,x,x,x,x,x,x]:=rfl
def cw{α:Type}{x:α}:eQ 10 x=[x,x,x,x,x,x,x,x,x,x]:=rfl
def cz{α:Type}{x:α}:eQ 11 x=[x,x,x,x,x,x,x,x,x,x,x]:=rfl
def db{α:Type}{x:α}:eQ 12 x=[x,x,x,x,x,x,x,x,x,x,x,x]:=rfl
def sz2:Sz (0+1+1):=#[μ]
def sz3:Sz (0+1+1+1):=#[μ]
def sz4:Sz (0+1+1+1+1):=#[μ]
def sz1:Sz (0+1):=#[μ]
def sz0:Sz 0:=#[μ]
local macro_rules | `(tactic|nofun)=>do
 let a <- ("ic cm cq S.fz Xh GC Z6 cS fB eP cj gN dC oY V7 Kw cA kW eG kU bH aQ rC r2 r1 cU QM rOr oR XR ie Xj rIf aU aE gQ nO cE rCB lP tL Az iA F6 riL riT AB Rn V9 oC yS AX Pm sC yB Oh XT im Hr LJ qD MX VW ge dNe Ky dc SO kO iR fI qE oW MY TN mK qR MW Ca NK iT jS rH Fa Fb Tq Tr Ts Tt Tu Tv Tw Tx Pr Ps Ez VU Mo Aj nE EI Q4 Q2 Q3 Q1 Q5 S.val gE iq Ld QO Ds Xq Xr V8 iw Xs iz cw cz db aN cD bK bS aT cK aA aB aH aI cQ II Bool.or_true YR Bool.true_or dX lZ if_true if_false aO sz0 sz1 sz2 sz3 sz4 true_and decide_eq_true_eq Int.reduceToNat Int.reducePow Int.reduceMul Int.reduceSub Int.reduceAdd Int.reduceNeg".splitOn " ").toArray.mapM λx=>`(Lean.Parser.Tactic.simpLemma| $(Lean.mkIdent x.toName):term)
 `(tactic|simp only[$a,*])
local macro_rules | `(tactic|walk_at "side")=>`(tactic|first |show QI |show pH |show(BL.const (n:=9000) μ).divOk μ |show(BL.const (n:=300) μ).mulOk (BL.const (n:=300) μ))
local macro_rules | `(tactic|walk_at "sides")=>`(tactic|repeat (show And.intro (by walk_at "side") ?_))
def MQ(i:Int):(if i<0 then -i else i)=((i.natAbs:Nat):Int):=by split <;> lia
def An(x y:Nat):((x:Nat):Int).fmod (y:Nat)=((x % y:Nat):Int):=by
 rw[mE _ (xP y)];show(Int.natCast_emod x y).symm
def IJ:FD:=λc Q=>∃a b:Int,c=[.int a,.int b]/\Q (.int (cP a b:Nat))
def PU(E:pd):∀(y x:Nat),E.nx [ap (.int (Nat.gcd x y:Nat)),ap (.int (0:Nat))] ->
  LK (cU (r2 (mK λi j=>decide (j<i)) (aQ 1) (c6 0))) sF E [ap (.int (x:Nat)),ap (.int (y:Nat))]:=by
 intro y
 induction y using TH with
 |ind y b=>
  intro x h;cases KB y with
  |inl a=>
   subst a;show#[1,?_];unfold tQ;nofun;rw[ω μ];rw[KC] at h;show h
  |inr a=>
   have c:=b (x % y) (mH x a) y (by
    rw[wR y,<-Nat.gcd_rec,wR];show h)
   let⟨n,d⟩:=c;show#[n+1,?_];unfold tQ sF;nofun;rw[υ ν];show#[#[ν],?_];rw[An];show d
abbrev ι(F:FD)(r:RS)(N:List Str):Prop:=∀a Q,F a Q->r {nx:=λ_=>Q .non,rt:=Q} (dH N a)
def QJ:ι IJ DU ["_law_one","_law_other"]:=by
 rintro c Q ⟨a,b,rfl,q⟩;rw[cM 0 rfl];unfold DU;nofun;rw[MQ,MQ];show PU _ _ _ ?_;nofun;show q
def IB(E:pd)(u v:Option S):∀(y x:Nat)(r:Option S),(∀r,E.nx [u,v,ap (.int (Nat.gcd x y:Nat)),ap (.int (0:Nat)),r]) ->
  LK (cU (r2 (qR ζ) (aQ 3) (c6 0))) qI E [u,v,ap (.int (x:Nat)),ap (.int (y:Nat)),r]:=by
 intro y
 induction y using TH with
 |ind y b=>
  intro x r h;cases KB y with
  |inl a=>
   subst a;show#[1,?_];unfold tQ;nofun;rw[ω η];rw[KC] at h;show h r
  |inr a=>
   let⟨n,c⟩:=b (x % y) (mH x a) y (ap (.int ((x % y:Nat)))) (by
    rw[wR y,<-Nat.gcd_rec,wR];show h)
   show#[n+1,?_];unfold tQ qI;nofun;rw[υ ε];show#[#[ν],?_];rw[An];show c
def IF:ι IJ zG ["one","other","larger","smaller","rest"]:=by
 rintro c Q ⟨a,b,rfl,q⟩;rw[cM 3 rfl];unfold zG;nofun;rw[MQ,MQ];show IB _ _ _ _ _ _ λr=>?_;nofun;show q
abbrev fr(a b:Int):D:=.tup [.int a,.int b]
def Cn(h:b≠0):0<(cP a b:Int):=by
 have:0<cP a b:=Int.gcd_pos_of_ne_zero_right a h;lia
def BL.gcd(c:b≠0)(h:BL n b):BL n (cP a b:Int):=by
 show h.le ?_;rw[Int.natAbs_natCast];show zP ν (Int.gcd_dvd_natAbs_right a b)
structure j3(a b p q:Int):Prop where
 pos:0<q
 cop:cP p q=1
 worth:p*b=a*q
 lea:p.natAbs<=a.natAbs
 leb:q.natAbs<=b.natAbs
def oP(c:0<b):j3 a b (a.fdiv (cP a b:Nat)) (b.fdiv (cP a b:Nat)):=by
 have i:0<(cP a b:Int):=Cn ν;have d:((cP a b:Nat):Int)∣a:=qM ..;have eb:((cP a b:Nat):Int)∣b:=mX ..;rw[dR _ ν,dR _ ν];have e:a / (cP a b:Int)*(cP a b:Int)=a:=HV d;have f:b / (cP a b:Int)*(cP a b:Int)=b:=HV eb;have h:cP (a / (cP a b:Int)) (b / (cP a b:Int))=1:=yK ν;generalize (cP a b:Int)=g at *;generalize a / g=p at *;generalize b / g=q at *;subst e f;show#[?_,h,by rw[lR,jO q g],?_,?_]
 ·show AK c ν
 ·rw[iK];show sH _ ν
 ·rw[iK];show sH _ ν
def B9(c:b<0):j3 a b (a.fdiv (-(cP a b:Nat))) (b.fdiv (-(cP a b:Nat))):=by
 have h:=oP (a:=-a) (b:=-b) ν;have e:cP (-a) (-b)=cP a b:=by rw[Int.neg_gcd,Int.gcd_neg]
 rw[e] at h;have f:∀x g:Int,(-x).fdiv g=x.fdiv (-g):=λx g=>by
  have:=Int.neg_fdiv_neg (-x) g;rw[Int.neg_neg] at this;show this.symm
 rw[f,f] at h;show#[h.pos,h.cop,?_,VC a▸h.lea,VC b▸h.leb];have w:=h.worth;rw[Int.mul_neg,Int.neg_mul] at w;show Int.neg_inj.mp w
def pK:FD:=λc Q=>∃a b:Int,c=[.int a,.int b]/\(b≠0/\BL 9000 b)/\∀p q,j3 a b p q->Q (fr p q)
def Kr:ι pK (Hn IJ) ["top","bottom","divisor"]:=by
 rintro g Q ⟨a,b,rfl,⟨d,f⟩,q⟩;rw[cM 1 rfl];unfold Hn;nofun;rw[ω d];show#[a,b,bg,?_];have h:=Cn (a:=a) d;have c:=BL.gcd (a:=a) d f;nofun;split
 ·rename_i e;show#[c.neg.divOk ν,c.neg.divOk ν,q _ _ (B9 e)]
 ·rename_i e;show#[c.divOk ν,c.divOk ν,q _ _ (oP ν)]
structure Fr(n:Nat)(a b:Int):Prop where
 pos:0<b
 top:BL n a
 bot:BL n b
 cop:cP a b=1
def J5(f:Int->Int->Int->Int->Int):FD:=λe Q=>∃a b c d:Int,e=[fr a b,fr c d]/\(0<b/\0<d)/\(BL 4000 a/\BL 4000 b/\BL 4000 c/\BL 4000 d)/\∀p q,j3 (f a b c d) (b*d) p q->Q (fr p q)
abbrev UX:FD:=J5 λa b c d=>a*d+c*b
abbrev kB:FD:=J5 λa b c d=>a*d-c*b
def Rh:ι UX (Oj pK) ["one","other"]:=by
 rintro k Q ⟨a,b,c,d,rfl,⟨g,h⟩,⟨i,e,j,f⟩,q⟩;rw[cM 0 rfl];unfold Oj;nofun;show#[i.mulOk f,j.mulOk e,e.mulOk f,_,_,bg,#[CA (aW g h),(e.mul f).mono],q]
def Kq:ι kB (Hl pK) ["one","other"]:=by
 rintro k Q ⟨a,b,c,d,rfl,⟨g,h⟩,⟨i,e,j,f⟩,q⟩;rw[cM 0 rfl];unfold Hl;nofun;show#[i.mulOk f,j.mulOk e,e.mulOk f,_,_,bg,#[CA (aW g h),(e.mul f).mono],q]
def BY:FD:=λb Q=>∃a:Int,b=[.int a]/\Q (.bl ζ)
def XQ:ι BY JH ["_law_found"]:=by
 rintro b Q ⟨a,rfl,q⟩;rw[cM 0 rfl];unfold JH;nofun;show q
def gM{a b:Int}(h:0<b):0<=a.fmod b/\a.fmod b<b:=#[Int.fmod_nonneg_of_pos a h,Int.fmod_lt_of_pos a h]
def B4:∀ds Q,Pc 63 ds Q->ds.length=1:=by rintro ds Q ⟨a,rfl,_⟩;rfl
theorem mQ{t:RS}(J:θ D->En->Prop)
  (step:∀x xs a,J (x::xs) a->∀F:pd,F.rt=E.rt->F.bk=E.nx->(∀a',J xs a'->F.nx a')->(∀a',J xs a'->F.ct a')->g x a λa1=>t F a1) (b:∀a,J [] a->E.nx a):∀xs a,J xs a->WG g t xs E a
 | [],a,h=>b a h
 |x::xs,a,h=>step x xs a h _ rfl rfl (λa' c=>mQ J step b xs a' c) λa' c=>mQ J step b xs a' c
def oN{α:Type}{t:RS}(f:α->D)(src:θ α)(J:θ α->En->Prop)
  (step:∀dn a td b,src=dn++a::td->J dn b->∀F:pd,F.rt=E.rt->(∀b',J (dn++[a]) b'->F.nx b')->g (f a) b λb1=>t F b1) (c:∀b,J src b->E.nx b) {b:En} (h:J [] b):WG g t (src.map f) E b:=by
 show mQ (λi b=>∃dn td,src=dn++td/\i=td.map f/\J dn b) ?_ ?_ _ _ #[[],src,bg,bg,h]
 ·rintro x m b ⟨dn,td,e,d,h⟩ F j _ k _;cases td with
  |nil=>cases d
  |cons a td=>cases d;show step dn a td b e h F j λb' l=>k _ #[dn++[a],td,by rw[e];simp,bg,l]
 ·rintro b ⟨dn,td,e,d,h⟩;cases td with
  |nil=>rw[cQ] at e;show c b (e▸h)
  |cons _ _=>cases d
theorem Eo{α:Type}(R:En->Prop)(e f:α->D):∀(src:θ α){Q:θ D->Prop},(∀a∈src,∀c,R c->∀K:En->D->Prop,(∀c1,R c1->K c1 (f a))->g (e a) c λc1=>te c1 λd=>K c1 d) ->
  ∀(c:En)(acc:θ D),R c->Q (acc++src.map f)->yS g te (src.map e) c acc Q
 | [],Q,_,c,acc,_,q=>by
  show Q acc;simpa using q
 |a::src,Q,step,c,acc,h,q=>by
  show g (e a) c λi=>te i λd=>yS g te (src.map e) i (acc++[d]) Q;show step a dL c h (λc1 d=>yS g te (src.map e) c1 (acc++[d]) Q) λc1 j=>?_;show Eo R e f src (λb k=>step b (cR _ k)) c1 _ j (~~~q)
def nZ{α:Type}(R:En->Prop)(c f:α->D)(src:θ α)(step:∀a∈src,∀b,R b->∀K:En->D->Prop,(∀b1,R b1->K b1 (f a))->g (c a) b λb1=>te b1 λd=>K b1 d)
  (h:R b) (q:Q (src.map f)):yS g te (src.map c) b [] Q:=Eo R c f src step b [] h (~~~q)
abbrev il(ns:θ Int):D:=.lst (ns.map .int)
abbrev pt(p:Int×Int):D:=.tup [.int p.1,.int p.2]
abbrev pts(a:θ (Int×Int)):D:=.lst (a.map pt)
def Tp{ns:θ Int}{i:Int}(h0:0<=i)(a:i<ns.length)(q:∀n∈ns,Q (.int n)):f8 (il ns) (.int i) Q:=by
 show Cc h0 (~~~a) λx b=>?_;let⟨n,c,rfl⟩:=bD.mp b;show q n c
def iY(h:n<=100000):Sz n:=#[dY h μ]
def Q6{n:Nat}{i:Int}(h0:0<=i)(a:i<n):uj n i=ψ i.toNat:=by
 unfold uj;rw[υ h0,υ ν]
abbrev big:Int:=1000000000000000000000000000000000000000000000000000000000007
structure Drawn(m:Nat)(xs:List Int):Prop where
 len:xs.length=m
 lo:∀x∈xs,0<=x
 hi:∀x∈xs,x<big
def Drawn.bl(h:Drawn m xs)(a:x∈xs):BL 200 x:=by
 have b:=h.lo x a;have c:=h.hi x a;have e:big<((2 ^ 200:Nat):Int):=μ
 show BL.of_lt ν ν
def OP:FD:=λb Q=>∃(ns:θ Int)(m:Nat),b=[il ns,.int m]/\(ns.length<=100/\1<=m/\m<=100)/\∀a,Drawn m a->Q (il a)
def CQ:RS:=cS (dC 5 (r2 oW (aQ 3) (aQ 1)))
 (XT 2 (r2 oW (r2 kO (r2 kO (r2 fI (r2 f8 (aQ 2) (aQ 5)) (c6 48271)) (aQ 4)) (r2 fI (aQ 3) (aQ 3))) (r2 kO (r2 MY (c6 10) (c6 60)) (c6 7))) (bH 5))
def Kh:sG=cS (dC 4 (c6 0))
 (cS (gN (cU (r2 (mK λi j=>decide (j<i)) (r1 nE (aQ 0)) (c6 0))) (dC 4 (r2 oW (r2 f8 (aQ 0) (r2 oW (aQ 3) (rCB Aj (aE (r1 nE (aQ 0)) (aE (c6 63) aU))))) (r2 kO (r2 MY (c6 10) (c6 60)) (c6 7)))) fB) CQ):=rfl
def Cu{ns:θ Int}(J:1<=m/\m<=100)(q:∀xs a b c,Drawn m xs->E.nx [ap (il ns),ap (.int m),ψ (.own (xs.map .int)),a,b,c])(xs:θ D)(d:En)
  (f:∀x∈xs,∃j:Int,x = .int j/\0<=j/\j<=1000) (hρ:∃ys a b c,d=[ap (il ns),ap (.int m),ψ (.own (ys.map .int)),a,b,c]/\Drawn m ys):WG (cA 3) sG xs E d:=by
 show mQ (λxs d=>(∀x∈xs,∃j:Int,x = .int j/\0<=j/\j<=1000)/\∃ys a b c,d=[ap (il ns),ap (.int m),ψ (.own (ys.map .int)),a,b,c]/\Drawn m ys) ?_ ?_ xs d #[f,hρ]
 ·rintro x xs d ⟨f,ys,a,b,c,rfl,g⟩ F _ _ u _;let⟨j,rfl,K,L⟩:=f x dL;have v:∀x∈xs,∃j:Int,x = .int j/\0<=j/\j<=1000:=λx h=>f x (cR _ h);have done:∀e:Int,CQ F [ap (il ns),ap (.int m),ψ (.own (ys.map .int)),ap (.int j),ap (.int e),c]:=λe=>by
   unfold CQ;nofun;have o:(0:Int)<m:=ν;let⟨k,l⟩:=gM (a:=j) o;show#[#[ν],?_];show Tp k (by rw[g.len];show l) λy w=>?_;have A:=g.bl w;show#[A.mulOk (BL.const (n:=20)),(BL.of_lt (m:=20) ν ν).mulOk (BL.of_lt (m:=20) ν ν),?_];walk_at "sides";let⟨B,C⟩:=gM (a:=y*48271+e+j*j) (b:=big) μ;generalize (y*48271+e+j*j).fmod big=z at *;generalize j.fmod m=i at *;rw[Q6 k (by simpa [g.len] using l)];show u _ #[v,ys.set i.toNat z,_,_,_,by rw[<-List.map_set],#[~~~g.len,λx f=>?_,λx f=>?_]]
   ·rcases yL f with h |rfl
    ·show g.lo x h
    ·show B
   ·rcases yL f with h |rfl
    ·show g.hi x h
    ·show C
  rw[Kh];nofun;split
  ·rename_i G;have H:0<ns.length:=(~~~G);have s:(0:Int)<(if(63:Int)<((ns.map D.int).length:Int) then 63 else((ns.map D.int).length:Int)):=(by split <;> simp <;> lia);let⟨k,l⟩:=gM (a:=j) s;have I:(if(63:Int)<((ns.map D.int).length:Int) then 63 else((ns.map D.int).length:Int))<=ns.length:=(by split <;> simp at * <;> lia);show#[#[CA s],Tp k (JT l I) λy _=>#[QI,pH,done _]]
  ·show done 0
 ·rintro d ⟨_,ys,a,b,c,rfl,g⟩;show q ys a b c g
def WW{lo:Int}(h:x∈lQ lo n):∃j:Int,x = .int j/\lo<=j/\j<lo+n:=by
 unfold lQ at h;let⟨k,a,rfl⟩:=bD.mp h;have:=cT.mp a;show#[_,bg,ν,ν]
def uP{lo:Int}:(lQ lo n).length=n:=by simp[lQ]
def QK:ι OP DX ["_law_script","_law_many","_law_found","_law_k","_law_cell","_law_at"]:=by
 rintro u Q ⟨ns,m,rfl,⟨v,f⟩,q⟩;rw[cM 4 rfl];unfold DX;nofun;show#[#[ν,ν],iY (by rw[uP];lia),?_];unfold lQ;show nZ (λd=>∃a,d=[a]) (λk:Nat=>D.int (0+(k:Int))) (λ_=>D.int 0) _ ?_ #[_,bg] ?_
 ·rintro a _ d ⟨b,rfl⟩ K g;show g _ #[_,bg]
 ·have len:(ns.map D.int).length=ns.length:=η
  have h:∃M:Int,(if(m:Int)<(if(63:Int)<((ns.map D.int).length:Int) then 63 else((ns.map D.int).length:Int)) then(if(63:Int)<((ns.map D.int).length:Int) then 63 else((ns.map D.int).length:Int)) else(m:Int))=M/\0<=M/\M<=100:=#[_,bg,by rw[len];split <;> (try split) <;> lia,by rw[len];split <;> (try split) <;> lia];let⟨M,l,w,M1⟩:=h;rw[l];show#[#[ν,ν],?_];show Cu (ns:=ns) f (λn a b c o=>?_) _ _ (λx e=>?_) #[eQ m 0,ξ,ξ,ξ,?_,#[η,λx e=>?_,λx e=>?_]]
  ·nofun;show q n o
  ·let⟨j,rfl,s,y⟩:=WW e;show#[j,bg,s,ν]
  ·congr 5;apply AL
   ·simp
   ·intro i z A;simp
  ·rw[(JY.mp e).2];decide
  ·rw[(JY.mp e).2];decide
def Sn{α:Type}{xs:θ α}{x:α}(h:xs.getLast? = ψ x):qe xs (-1)=ψ x:=by
 have a:xs≠[]:=λe=>by rw[e] at h;cases h
 have b:0<xs.length:=lD.mpr a;unfold qe uj;rw[ω μ,υ ν];rw[List.getLast?_eq_getElem?] at h;show xs[((-1:Int)+(xs.length:Int)).toNat]?=ψ x;rw[<-h];congr 1;lia
def dN{t u:RS}(R:En)(b:∀K:En->Prop,K R->t {E with nx:=K} a)(c:u E R):cS t u E a:=b (u E) c
def cV{t u:RS}(I:En->Prop)(b:∀K:En->Prop,(∀a',I a'->K a')->t {E with nx:=K} a)(c:∀a',I a'->u E a'):cS t u E a:=b (u E) c
structure t5(share:Int)(cs:List (Int×Int))(m sh:Int)(ds:List (Int×Int))(j:Nat):Prop where
 mpos:0<m
 sh_eq:share=m*sh
 cs_eq:cs=ds.map λz=>(m*z.1,m*z.2)
 j_lt:j<ds.length
 least:∀z∈ds,∀w,ds[j]?=ψ w->HT.lexLt [z.1,z.2] [w.1,w.2]=χ
 cop:∀d:Nat,(d:Int)∣sh->(∀z∈ds,(d:Int)∣z.1/\(d:Int)∣z.2)->d=1
abbrev turned{α:Type}(j:Nat)(a:θ α):θ α:=a.drop j++a.take j
def Lu:FD:=λe Q=>∃(a:Int)(b:θ (Int×Int)),e=[.int a,pts b]/\(0<a/\BL 100 a)/\(b≠[]/\b.length<=100) /\
 ∀m c d j,t5 a b m c d j->Q (.tup [.int c,.tup ((turned j d).map pt)])
structure o0(share:Int)(zs:List (Int×Int))(g:Nat):Prop where
 pos:0<g
 sh:(g:Int)∣share
 all:∀z∈zs,(g:Int)∣z.1/\(g:Int)∣z.2
 most:∀d:Nat,(d:Int)∣share->(∀z∈zs,(d:Int)∣z.1/\(d:Int)∣z.2)->d∣g
def o0.bl{a:θ (Int×Int)}(h:o0 share a g)(c:0<share)(b:BL n share):BL n (g:Int):=by
 show b.le ?_;have:=pB c h.sh;lia
def o0.snoc{i:θ (Int×Int)}(h:o0 share i g)(z:Int×Int):o0 share (i++[z]) (cP (cP g z.1:Nat) z.2):=by
 have j:((cP (cP g z.1:Nat) z.2:Nat):Int)∣((cP g z.1:Nat):Int):=qM ..;have m:((cP g z.1:Nat):Int)∣(g:Int):=qM ..;have n:((cP g z.1:Nat):Int)∣z.1:=mX ..;have o:((cP (cP g z.1:Nat) z.2:Nat):Int)∣z.2:=mX ..;have c:=kK j m;show#[?_,kK c h.sh,λw e=>?_,λd q k=>?_]
 ·have:=h.pos;have l:0<cP g z.1:=lH _ ν;show lH _ ν
 ·rcases bQ.mp e with f |f
  ·let⟨a,b⟩:=h.all w f;show#[kK c a,kK c b]
  ·rw[bR.mp f];show#[kK j n,o]
 ·let⟨a,b⟩:=k z η;have:=h.most d q λw e=>k w (eY _ e);have l:(d:Int)∣((cP g z.1:Nat):Int):=SW (by exact_mod_cast this) a
  exact_mod_cast SW l b
def xC{xs:θ D}{j:Nat}(h:j<=xs.length):cutD xs (ψ (j:Int)) ξ=xs.drop j:=by
 unfold cutD;rw[HT.sIx_nat,HT.sIx_none,rP h,iS η]
def Ml{xs:θ D}{j:Nat}(h:j<=xs.length):cutD xs ξ (ψ (j:Int))=xs.take j:=by
 unfold cutD;rw[HT.sIx_nat,HT.sIx_none,rP h];simp
def Cj(z w:Int×Int):k5 6 (pt z) (pt w)=ψ (decide (z=w)):=by
 let⟨a,b⟩:=z;let⟨c,d⟩:=w;erw[k5,pi];congr 1;by_cases e:a=c <;> by_cases f:b=d <;> simp[e,f]
def Dl:ι Lu (SC IJ) ["_law_share_here","_law_ring_here","_law_most","_law_x","_law_y","_law_corners","_law_at"]:=by
 rintro ds Q ⟨f,m,rfl,⟨U,bs⟩,⟨V,N⟩,q⟩;rw[cM 5 rfl];unfold SC;erw[gE,Xr,aN,cD,bK,bS];show dN [ap (.int f),ap (pts m),ap (.int f),ξ,ξ,ξ,ξ] (λK s=>?_) ?_
 ·nofun;show s
 show cV (λc=>∃(g:Nat)(x y:Option S),o0 f m g/\c=[ap (.int f),ap (pts m),ap (.int g),x,y,ξ,ξ]) (λK s=>?_) ?_
 ·nofun;show oN pt m (λdone c=>∃(g:Nat)(x y:Option S),o0 f done g/\c=[ap (.int f),ap (pts m),ap (.int g),x,y,ξ,ξ]) ?_ ?_ #[f.toNat,ξ,ξ,#[ν,?_,η,λd D _=>?_],?_]
  ·rintro done z rest c e ⟨g,u,v,l,rfl⟩ F _ W;unfold GH;nofun;show#[_,_,bg,_,_,bg,?_];show W _ #[_,_,_,l.snoc z,bg]
  ·rintro c ⟨g,u,v,l,rfl⟩;show s _ #[g,u,v,l,bg]
  ·have:(f.toNat:Int)=f:=ν;rw[this];show sQ _
  ·have:(f.toNat:Int)=f:=ν
   exact_mod_cast (by rw[this];show D:(d:Int)∣(f.toNat:Int))
  ·have:(f.toNat:Int)=f:=ν;rw[this]
 rintro c ⟨g,x,y,l,rfl⟩;have X:(0:Int)<g:=by have:=l.pos;lia
 have E:BL 9000 (g:Int):=(l.bl U bs).mono;obtain⟨k,G⟩:∃k,k=m.map λz=>(z.1 / (g:Int),z.2 / (g:Int)):=#[_,bg];have O:m=k.map λz=>((g:Int)*z.1,(g:Int)*z.2):=by
  rw[G,cO];symm
  conv=>rhs;rw[<-vA m]
  show gW λz n=>?_;let⟨a,b⟩:=l.all z n;erw[YS,id,jB a,jB b]
 show cV (λc=>c=[ap (.int f),ap (pts m),ap (.int g),x,y,ψ (.own (k.map pt)),ξ]) (λK s=>?_) ?_
 ·nofun;show#[iY ε,?_];show nZ (λc=>∃a b,c=[a,b,ap (.int g)]) pt (λz=>pt (z.1 / (g:Int),z.2 / (g:Int))) m ?_ #[_,_,bg] ?_
  ·rintro z n c ⟨a,b,rfl⟩ K' Y;nofun;show#[E.divOk ν,E.divOk ν,?_];rw[dR _ ν,dR _ ν];show Y _ #[_,_,bg]
  ·show s _ ?_;rw[G,cO];rfl
 rintro c rfl;have P:k.length=m.length:=by rw[G];simp
 have n:k≠[]:=by intro e;rw[e] at P;show V (gC.mp P.symm)
 show cV (λc=>∃j:Nat,(j<k.length/\∀z∈k,∀w,k[j]?=ψ w->HT.lexLt [z.1,z.2] [w.1,w.2]=χ)/\c=[ap (.int f),ap (pts m),ap (.int g),x,y,ψ (.own (k.map pt)),ap (.int j)]) (λK s=>?_) ?_
 ·nofun;show#[#[_,bg],k.map λz=>[z.1,z.2],by rw[cO];rfl,~~~n,λM Z A=>?_];let⟨w,H,rfl⟩:=bD.mp Z;have C:k.findIdx (λz=>decide (z=w))<k.length:=List.findIdx_lt_length_of_exists #[w,H,η];have I:=List.findIdx_getElem (w:=C);have o:k[k.findIdx (λz=>decide (z=w))]=w:= ~~~I
  show#[k.findIdx (λz=>decide (z=w)),#[pt w,?_,?_],λi d hi B=>?_,λd hd=>?_,s _ #[_,#[C,λz n v R=>?_],bg]]
  ·rw[bC,aG C,o];rfl
  ·show k5 6 (pt w) (pt w)=_;rw[Cj];simp
  ·rw[bC] at B;cases e:k[i]? with
   |none=>rw[e] at B;cases B
   |some z=>
    rw[e] at B;cases B;show k5 6 (pt z) (pt w)=_;have J:i<k.length:=(bF.mp e).1;have:=List.not_of_lt_findIdx hi;rw[Cj];have L:k[i]=z:=(by rw[aG J] at e;show cW e);rw[L] at this;simpa using this
  ·let⟨z,_,rfl⟩:=bD.mp hd;show#[_,Cj z w]
  ·rw[aG C,o] at R;cases R;show A _ (bD.mpr #[z,n,bg])
 rintro c ⟨j,⟨hj,O'⟩,rfl⟩;nofun;have lm:(k.map pt).length=k.length:=η
 rw[xC ν,Ml ν];show#[E.divOk ν,iY ε,?_];rw[dR _ ν];have:=q g (f / g) k j #[X,(jB l.sh).symm,O,hj,O',λd D L=>?_]
 ·rw[aX,YT,uT] at this;show this
 ·have h1:((g*d:Nat):Int)∣f:=by
   rw[<-jB l.sh]
   push_cast
   show DJ (sQ _) D
  have T:=l.most (g*d) h1 λz n=>by
   rw[O] at n;let⟨w,H,rfl⟩:=bD.mp n;let⟨a,b⟩:=L w H
   push_cast
   show#[DJ (sQ _) a,DJ (sQ _) b]
  have h3:=zP l.pos T;have h4:d≠0:=λe=>by
   subst e;simp at T;have:=l.pos;lia
  have h5:=l.pos;rcases MK 1 d with h |h
  ·have:g*2<=g*d:=wD _ h;lia
  ·lia
def BP(z:Pt):Prop:=BL 20000 z.1/\BL 20000 z.2
def BX:FD:=λd Q=>∃a b c:Pt,d=[pt a,pt b,pt c]/\(BP a/\BP b/\BP c)/\Q (.int (eC a b c))
def Rj:ι BX Ol ["one","middle","other","along","across"]:=by
 rintro g Q ⟨a,b,c,rfl,⟨d,e,f⟩,q⟩;rw[cM 2 rfl];unfold Ol;nofun;show#[(e.1.sub d.1).mulOk (f.2.sub d.2),(e.2.sub d.2).mulOk (f.1.sub d.1),q]
def Iv:FD:=λb Q=>∃a:θ Pt,b=[pts a]/\(∀z∈a,BP z)/\a.length<=900/\Q (pts (wF a))
def Sl{α:Type}(xs:θ α)(x:α):qe (xs++[x]) (-1)=ψ x:=by
 unfold qe uj;rw[ω μ,υ ε];have:((-1:Int)+((xs++[x]).length:Nat)).toNat=xs.length:=ε
 erw[this,AR];simp
def Sm{α:Type}(xs:θ α)(x y:α):qe (xs++[x,y]) (-2)=ψ x:=by
 unfold qe uj;rw[ω μ,υ ε];have:((-2:Int)+((xs++[x,y]).length:Nat)).toNat=xs.length:=ε
 erw[this,AR];simp
theorem WI(E:pd)(u:Option S)(p:Pt)(f:BP p):∀s:θ Pt,(∀z∈s,BP z)->E.nx [u,ψ (.own ((oB p s).reverse.map pt)),ap (pt p)] ->
  LK (QM (cU (r2 (mK λi j=>decide (j<i)) (r1 nE (aQ 1)) (c6 1))) (cU (r2 (mK λi j=>decide (i<=j)) (cE BX (aE (r2 f8 (aQ 1) (r1 TN (c6 2))) (aE (r2 f8 (aQ 1) (r1 TN (c6 1))) (aE (bH 2) aU)))) (c6 0)))) qU E [u,ψ (.own (s.reverse.map pt)),ap (pt p)]
 | [],_,h=>by
  show#[1,?_];unfold tQ;nofun;simp;show h
 | [x],_,h=>by
  show#[1,?_];unfold tQ;nofun;simp;show h
 |b::a::r,c,h=>by
  have m:((b::a::r).reverse.map pt)=(r.reverse.map pt)++[pt a,pt b]:=η
  have eb:((b::a::r).reverse.map pt)=((a::r).reverse.map pt)++[pt b]:=η
  have g:=Sm (r.reverse.map pt) (pt a) (pt b);have k:=Sl ((a::r).reverse.map pt) (pt b);rw[<-m] at g;rw[<-eb] at k;by_cases d:eC a b p<=0
  ·have e:oB p (b::a::r)=oB p (a::r):=(by rw[oB,υ d]);rw[e] at h;let⟨n,l⟩:=WI E u p f (a::r) (λz o=>c z (cR _ o)) h;show#[n+1,?_];unfold tQ;generalize q:tQ (QM (cU (r2 (mK λi j=>decide (j<i)) (r1 nE (aQ 1)) (c6 1))) (cU (r2 (mK λi j=>decide (i<=j)) (cE BX (aE (r2 f8 (aQ 1) (r1 TN (c6 2))) (aE (r2 f8 (aQ 1) (r1 TN (c6 1))) (aE (bH 2) aU)))) (c6 0)))) qU n E=W at l;nofun;rw[υ ε];show rS g (rS k #[a,b,p,bg,#[c a η,c b η,f],?_]);show if eC a b p<=0 then _ else _;rw[υ d];unfold qU;nofun;show#[η,?_];rw[eb,List.dropLast_concat];show l
  ·have e:oB p (b::a::r)=b::a::r:=(by rw[oB,ω d]);rw[e] at h;show#[1,?_];unfold tQ;nofun;rw[υ ε];show rS g (rS k #[a,b,p,bg,#[c a η,c b η,f],?_]);show if eC a b p<=0 then _ else _;rw[ω d];show h
def Gy(p:Pt)(s:θ Pt):(oB p s).length<=s.length:=(XN p s).length_le
def UC:ι Iv (JI BX) ["points","chain","point"]:=by
 rintro D Q ⟨b,rfl,i,E,q⟩;rw[cM 2 rfl];unfold JI;erw[gE,QO,aN,cD,bK,bS];show dN [ap (pts b),ψ (.own []),ξ] (λK f=>?_) ?_
 ·nofun;show f
 show cV (λa=>∃x:Option S,a=[ap (pts b),ψ (.own ((mR b).reverse.map pt)),x]) (λK f=>?_) ?_
 ·nofun;show mQ (λc a=>∃(done rest:θ Pt)(x:Option S),b=done++rest/\c=rest.map pt/\a=[ap (pts b),ψ (.own ((mR done).reverse.map pt)),x]) ?_ ?_ _ _ #[[],b,ξ,bg,bg,bg]
  ·rintro x c a ⟨done,rest,u,e,d,rfl⟩ F _ _ j _;cases rest with
   |nil=>cases d
   |cons z rest=>
    cases d;have k:∀w∈done,BP w:=λw g=>i w (by rw[e];simp[g]);have l:BP z:=i z (by rw[e];simp);have ld:done.length<b.length:=(by rw[e];simp);have sub:∀(L s:θ Pt),(∀q∈L.foldl (λs p=>p::oB p s) s,q∈L\/q∈s)/\(L.foldl (λs p=>p::oB p s) s).length<=L.length+s.length:=by
     intro L
     induction L with
     |nil=>intro s;show#[λq h=>gI h,η]
     |cons y L m=>
      intro s;let⟨n,o⟩:=m (y::oB y s);show#[λq h=>?_,?_]
      ·rcases n q h with h |h
       ·show iH (by simp[h])
       ·rcases aV.mp h with h |h
        ·show iH (by simp[h])
        ·show gI ((XN y s).subset h)
      ·have:=Gy y s;erw[oU,aT] at o⊢;lia
    let⟨v,A⟩:=sub done [];unfold BS;erw[cA,aH,aI];show WI _ _ z l (mR done) (λw g=>?_) ?_
    ·rcases v w g with h |h
     ·show k w h
     ·cases h
    ·nofun;have G:=Gy z (mR done);have H:(mR done).length<=done.length:=(by simpa [mR] using A);show#[#[Nr ε],j _ #[done++[z],rest,ap (pt z),~~~e,bg,?_]];unfold mR;simp
  ·rintro a ⟨done,rest,u,e,d,rfl⟩;have:rest=[]:=(~~~d.symm);subst this;rw[cQ] at e;subst e;show f _ #[u,bg]
 rintro a ⟨x,rfl⟩;nofun;have e:cutD ((mR b).reverse.map pt) ξ (ψ (-1))=(wF b).map pt:=by
  unfold cutD wF;rw[List.map_dropLast];generalize (mR b).reverse.map pt=c;have B:HT.sIx c.length 0 ξ=0:=rfl;have C:HT.sIx c.length c.length (ψ (-1))=c.length-1:=by
   unfold HT.sIx;simp;lia
  rw[B,C,EU,wT,List.dropLast_eq_take]
 rw[e];show q
def B6(z w:Pt):oO [z.1,z.2] [w.1,w.2]=decide (j4 z w):=by
 unfold j4;erw[oO];by_cases h:z.1=w.1
 ·rw[υ h];by_cases a:z.2=w.2
  ·rw[υ a];simp[h,a]
  ·rw[ω a];simp[h]
 ·rw[ω h];simp[h]
def AI:FD:=λb Q=>∃a:θ Pt,b=[pts a]/\(∀z∈a,BP z)/\a.length<64/\∀D r:θ Pt,um D->(∀z,z∈D↔z∈a)->(2<=D.length->r=yV D)->(D.length<=1->r.length<3)->r.length<=200->Q (pts r)
def Dm:ι AI (XX Iv) ["points","rising"]:=by
 rintro J Q ⟨n,rfl,y,A,q⟩;rw[cM 1 rfl];unfold XX;nofun;unfold XV XS;nofun;show#[n.map λz=>[z.1,z.2],by rw[cO];rfl,~~~A,λns h=>?_,λc o j d=>?_]
 ·let⟨z,_,rfl⟩:=bD.mp h;simp
 obtain⟨L,B⟩:∃L:θ Pt,c=L.map λz=>[z.1,z.2]:=by
  have:∀g∈c,∃z:Pt,g=[z.1,z.2]:=λg h=>by
   let⟨z,_,e⟩:=bD.mp ((j g).mp h);show#[z,e.symm]
  clear o j d
  induction c with
  |nil=>show#[[],bg]
  |cons m c C=>
   let⟨L,e⟩:=C λg h=>this g (cR _ h);let⟨z,E⟩:=this m η;show#[z::L,by rw[e,E];rfl]
 subst B;have inj:∀z w:Pt,[z.1,z.2]=[w.1,w.2]->z=w:=λz w h=>by simp at h;show nX h.1 h.2
 have f:∀z,z∈L↔z∈n:=λz=>by
  have:=j [z.1,z.2];constructor
  ·intro h;let⟨w,k,e⟩:=bD.mp (this.mp (bD.mpr #[z,h,bg]));rw[<-inj _ _ e];show k
  ·intro h;let⟨w,k,e⟩:=bD.mp (this.mpr (bD.mpr #[z,h,bg]));rw[<-inj _ _ e];show k
 have s:Jc L:=by
  unfold Jc;show(gG.mp o).imp λ{a b} h=>?_;rw[B6] at h;simpa using h
 have F:D.lst (pY qJ (pY (λz:Pt=>[z.1,z.2]) L))=pts L:=by rw[cO];rfl
 have K:L.length<=63:=by simp at d;lia
 have u:∀z∈L,BP z:=λz l=>y z ((f z).mp l);let⟨D,i⟩:=Uy L s;let⟨G,H⟩:=Fm s i.inc i.mem;have v:∀M:θ Pt,(wF M).length<=M.length:=λM=>by
  unfold wF;have:=Vb M;simp;lia
 rw[F];show#[L,bg,u,ν,L.map pt,bg,L.reverse,by rw[<-AM],λz l=>u z (uJ.mp l),ε,?_];have N:=v L;have I:=v L.reverse;rw[lE] at I;show Sz (((wF L).map pt).length+((wF L.reverse).map pt).length)/\Q (.lst ((wF L).map pt++(wF L.reverse).map pt));show#[#[Nr ε],?_];rw[<-aX];show q D (yV L) i.inc (λz=>(i.mem z).trans (f z)) G H (by unfold yV;simp;lia)
structure j_(share:Int)(cs:List Pt)(m sh:Int)(zs:List Pt):Prop where
 mpos:0<m
 sh_eq:share=m*sh
 cs_eq:cs=zs.map λz=>(m*z.1,m*z.2)
 cop:∀d:Nat,(d:Int)∣sh->(∀z∈zs,(d:Int)∣z.1/\(d:Int)∣z.2)->d=1
def zX(q:0<a)(s:0<b)(e:a*x=b*y):a / (cP a b:Nat)∣y:=by
 have m:(0:Int)<(cP a b:Nat):=by
  have:=lH (a:=a) b ν;lia
 obtain⟨c,k⟩:((cP a b:Nat):Int)∣a:=qM ..;obtain⟨f,eb⟩:((cP a b:Nat):Int)∣b:=mX ..;have l:a / (cP a b:Nat)=c:=by
  have:a / ((cP a b:Nat):Int)=(((cP a b:Nat):Int)*c) / ((cP a b:Nat):Int):=Ψ (· / ((cP a b:Nat):Int)) k;rw[this,kL _ ν]
 have n:b / (cP a b:Nat)=f:=by
  have:b / ((cP a b:Nat):Int)=(((cP a b:Nat):Int)*f) / ((cP a b:Nat):Int):=Ψ (· / ((cP a b:Nat):Int)) eb;rw[this,kL _ ν]
 have g:cP c f=1:=by
  have:=yK (i:=a) (j:=b) (by have:=m;lia);rw[l,n] at this;show this
 rw[l];have h:c*x=f*y:=by
  have:((cP a b:Nat):Int)*(c*x)=((cP a b:Nat):Int)*(f*y):=by
   rw[<-lR,<-lR,<-k,<-eb];show e
  show fR ν this
 have d:c∣f*y:=#[x,h.symm];have o:c.natAbs∣f.natAbs*y.natAbs:=by rw[<-iK];show gY.mpr d
 show gY.mp (jZ (show EX c.natAbs f.natAbs from g) o)
def Aw{e f:θ Pt}(h:0<a)(j:0<b)(o:a*sh=b*eL)(m:e.map (λz=>(a*z.1,a*z.2))=f.map λz=>(b*z.1,b*z.2))
  (k:∀d:Nat,(d:Int)∣eL->(∀z∈f,(d:Int)∣z.1/\(d:Int)∣z.2)->d=1):a∣b:=by
 have len:e.length=f.length:=by have:=Ψ jE m;simpa using this
 have w:(0:Int)<(cP a b:Nat):=by
  have:=lH (a:=a) b ν;lia
 obtain⟨c,l⟩:((cP a b:Nat):Int)∣a:=qM ..;have n:a / (cP a b:Nat)=c:=by
  have:a / ((cP a b:Nat):Int)=(((cP a b:Nat):Int)*c) / ((cP a b:Nat):Int):=Ψ (· / ((cP a b:Nat):Int)) l;rw[this,kL _ ν]
 have y:0<c:=by
  apply sA.mp;intro q;have:((cP a b:Nat):Int)*c<=0:=dP ν q;lia
 have one:=k c.toNat (by
  rw[wC ν,<-n];show zX h j o) λz s=>by
  rw[wC ν,<-n];let⟨i,u,rfl⟩:=dS s;have v:i<e.length:=ν
  have g:(e.map λz=>(a*z.1,a*z.2))[i]?=(f.map λz=>(b*z.1,b*z.2))[i]?:=by rw[m]
  rw[bC,bC,aG u,aG v] at g;erw[rQ,sY,uV] at g;show#[zX h j g.1,zX h j g.2]
 have:c=1:=ν
 rw[this,QX] at l;rw[l];show mX ..
def Gn{c e:θ Pt}(h:0<a)(j:0<b)(k:a*sh=b*eL)(f:c.map (λz=>(a*z.1,a*z.2))=e.map λz=>(b*z.1,b*z.2))
  (l:∀d:Nat,(d:Int)∣sh->(∀z∈c,(d:Int)∣z.1/\(d:Int)∣z.2)->d=1) (m:∀d:Nat,(d:Int)∣eL->(∀z∈e,(d:Int)∣z.1/\(d:Int)∣z.2)->d=1):sh=eL/\c=e:=by
 have n:=Aw h j k f m;have o:=Aw j h k.symm f.symm l;have q:a=b:=DF (pB j n) (pB h o);subst q;show#[fR ν k,?_];have len:c.length=e.length:=by have:=Ψ jE f;simpa using this
 apply AL len;intro i s u;have g:(c.map λz=>(a*z.1,a*z.2))[i]?=(e.map λz=>(a*z.1,a*z.2))[i]?:=by rw[f]
 rw[bC,bC,aG s,aG u] at g;erw[rQ,sY,uV] at g;show nX (fR ν g.1) (fR ν g.2)
def j_.same{cs c f g:θ Pt}(h:j_ share cs m sh f)(h':j_ bw c m' eL g)(i:0<k)(d:0<k')(j:k*share=k'*bw)(e:cs.map (λz=>(k*z.1,k*z.2))=c.map λz=>(k'*z.1,k'*z.2)):sh=eL/\f=g:=by
 show Gn (a:=k*m) (b:=k'*m') (aW i h.mpos) (aW d h'.mpos) ?_ ?_ h.cop h'.cop
 ·rw[lR,lR,<-h.sh_eq,<-h'.sh_eq];show j
 ·rw[h.cs_eq,h'.cs_eq,cO,cO] at e;erw[LY,<-lR] at e;show e
structure E_(ps:List Pt)(z:Pt)(T:List Pt):Prop where
 cvx:ou (z::T)
 least:∀q∈T,¬j4 q z
 mem:∀q∈z::T,q∈ps
 left:∀a b,nI (z::T) a b->∀q∈ps,0<=eC a b q
def N6(a:θ Pt):Prop:=∀D,um D->(∀z,z∈D↔z∈a)->2<=D.length->(yV D).length<3
structure t9(ps:List Pt)(z:Pt)(T:List Pt):Prop where
 out:∀D,um D->(∀x,x∈D↔x∈ps)->2<=D.length/\yV D=z::T
 len:3<=(z::T).length
def JQ:FD:=λe Q=>∃(a:Int)(b:θ Pt),e=[.int a,pts b]/\(0<a/\BL 9000 a)/\(∀z∈b,BP z)/\b.length<64 /\
 ((∃z T,t9 b z T/\∀m c d,j_ a (z::T) m c d->Q (.tup [.int c,.tup (d.map pt)]))\/(N6 b/\Q .non))
def ZV:FD:=λe Q=>∃(a:Int)(b:θ Pt),e=[.int a,pts b]/\(0<a/\BL 9000 a)/\(∀z∈b,BP z)/\b.length<64 /\
 ((∃z T,E_ b z T/\∀m c d,j_ a (z::T) m c d->Q (.tup [.int c,.tup (d.map pt)]))\/(N6 b/\Q .non))
def ZK:ι JQ (XY AI IJ) ["share","points","corners","divisor","x","y"]:=by
 rintro ds Q ⟨i,n,rfl,⟨V,bs⟩,W,X,E⟩;rw[cM 4 rfl];unfold XY;erw[gE,Xq,aN,cD,bK,bS];show cV (λf=>∃r:θ Pt,r.length<=200/\((r.length<3/\Q .non)\/(3<=r.length/\∀m o k,j_ i r m o k->Q (.tup [.int o,.tup (k.map pt)])))/\f=[ap (.int i),ap (pts n),ap (pts r),ξ,ξ,ξ]) (λK l=>?_) ?_
 ·nofun;show#[n,bg,W,X,λD r L M B G N=>l _ #[r,N,?_,bg]];rcases E with⟨z,T,R,q⟩ | ⟨Y,q⟩
  ·let⟨Z,e⟩:=R.out D L M;have O:=B Z;rw[e] at O;subst O;show gI #[R.len,q]
  ·show iH #[?_,q];by_cases P:2<=D.length
   ·rw[B P];show Y D L M P
   ·show G ν
 rintro f ⟨r,N,E,rfl⟩;rcases E with⟨h3,q⟩ | ⟨h3,q⟩
 ·nofun;rw[υ ε];show q
 show dN [ap (.int i),ap (pts n),ap (pts r),ξ,ξ,ξ] (λK l=>?_) ?_
 ·nofun;rw[ω ε];show l
 show dN [ap (.int i),ap (pts n),ap (pts r),ap (.int i),ξ,ξ] (λK l=>?_) ?_
 ·nofun;show l
 show cV (λf=>∃(g:Nat)(x y:Option S),o0 i r g/\f=[ap (.int i),ap (pts n),ap (pts r),ap (.int g),x,y]) (λK l=>?_) ?_
 ·nofun;show oN pt r (λdone f=>∃(g:Nat)(x y:Option S),o0 i done g/\f=[ap (.int i),ap (pts n),ap (pts r),ap (.int g),x,y]) ?_ ?_ #[i.toNat,ξ,ξ,#[ν,?_,η,λd H _=>?_],?_]
  ·rintro done z rest f e ⟨g,u,v,j,rfl⟩ F _ hn;unfold JK;nofun;show#[_,_,bg,_,_,bg,?_];show hn _ #[_,_,_,j.snoc z,bg]
  ·rintro f ⟨g,u,v,j,rfl⟩;show l _ #[g,u,v,j,bg]
  ·have:(i.toNat:Int)=i:=ν;rw[this];show sQ _
  ·have:(i.toNat:Int)=i:=ν
   exact_mod_cast (by rw[this];show H:(d:Int)∣(i.toNat:Int))
  ·have:(i.toNat:Int)=i:=ν;rw[this]
 rintro f ⟨g,x,y,j,rfl⟩;have gp:(0:Int)<g:=by have:=j.pos;lia
 have I:BL 9000 (g:Int):=j.bl V bs;obtain⟨k,U⟩:∃k,k=r.map λz=>(z.1 / (g:Int),z.2 / (g:Int)):=#[_,bg];have C:r=k.map λz=>((g:Int)*z.1,(g:Int)*z.2):=by
  rw[U,cO];symm
  conv=>rhs;rw[<-vA r]
  show gW λz s=>?_;let⟨a,b⟩:=j.all z s;erw[YS,id,jB a,jB b]
 let⟨o,J⟩:=j.sh;have A:i.fdiv g=o:=by
  rw[dR _ ν,J,kL _ ν]
 nofun;show#[I.divOk ν,?_];show#[iY ε,?_];show nZ (λf=>∃a b,f=[a,b,ap (.int g)]) pt (λz=>pt (z.1 / (g:Int),z.2 / (g:Int))) r ?_ #[_,_,bg] ?_
 ·rintro z s f ⟨a,b,rfl⟩ K' qg;nofun;show#[I.divOk ν,I.divOk ν,?_];rw[dR _ ν,dR _ ν];show qg _ #[_,_,bg]
 ·have e:pY (λz:Pt=>pt (z.1 / (g:Int),z.2 / (g:Int))) r=k.map pt:=by rw[U,cO];rfl
  rw[A,e];show q g o k #[gp,J,C,λd G B=>?_];have:=j.most (d*g) (by
   rw[J];push_cast;let⟨c,C⟩:=G;show#[c,by rw[C];grind]) λz s=>by
   rw[C] at s;let⟨w,hw,rfl⟩:=bD.mp s;obtain⟨⟨c1,H⟩,c2,e2⟩:=B w hw
   push_cast
   show#[#[c1,by rw[H];grind],c2,by rw[e2];grind]
  have le:=zP j.pos this;have d0:d≠0:=by
   rintro rfl;rw[Nat.zero_mul] at this;have:=Nat.eq_zero_of_zero_dvd this;have:=j.pos;lia
  apply TF ?_ ν;apply VF.mp;intro h;have:2*g<=d*g:=Nat.mul_le_mul_right _ h;have:=j.pos;lia
def qr{α:Type}(A B:θ α):Prop:=∃X Y,A=X++Y/\B=Y++X
def qr.refl{α:Type}(A:θ α):qr A A:=#[A,[],η,η]
def qr.symm{α:Type}{A B:θ α}(h:qr A B):qr B A:=by let⟨X,Y,a,b⟩:=h;show#[Y,X,b,a]
def qr.trans{α:Type}{A B C:θ α}(h:qr A B)(k:qr B C):qr A C:=by
 let⟨X,Y,rfl,rfl⟩:=h;let⟨c,d,e,rfl⟩:=k;rcases List.append_eq_append_iff.mp e with⟨W,a,b⟩ | ⟨W,a,b⟩
 ·-- c=Y++W
  show#[W,d++Y,by rw[b];simp,by rw[a];simp]
 ·show#[X++c,W,by rw[a];simp,by rw[b];simp]
def qr.map{α β:Type}{A B:θ α}(f:α->β)(h:qr A B):qr (A.map f) (B.map f):=by
 let⟨X,Y,rfl,rfl⟩:=h;show#[X.map f,Y.map f,η,η]
def qr.mem{α:Type}{A B:θ α}(h:qr A B)(x:α):x∈A↔x∈B:=by
 let⟨X,Y,rfl,rfl⟩:=h;simp[or_comm]
def qr.nodup{α:Type}{A B:θ α}(h:qr A B)(n:A.Nodup):B.Nodup:=by
 let⟨X,Y,rfl,rfl⟩:=h;rw[pO] at n⊢;show#[n.2.1,n.1,λa c b d e=>n.2.2 b d a c e.symm]
def qr.head{α:Type}{z:α}{S T:θ α}(h:qr (z::S) (z::T))(n:(z::S).Nodup):S=T:=by
 let⟨X,Y,b,a⟩:=h;cases X with
 |nil=>simp at b a;rw[<-b] at a;show(zO a).2.symm
 |cons x X=>
  cases Y with
  |nil=>simp at b a;rw[b.2,a.2]
  |cons y Y=>
   simp at b a;have c:=(jY.mp n).1;rw[b.2] at c;show Ω (by rw[<-a.1];simp) c
def qr.least{S T:θ Pt}(h:qr (z::S) (w::T))(n:(z::S).Nodup)(c:∀q∈S,¬j4 q z)(d:∀q∈T,¬j4 q w):z::S=w::T:=by
 have a:z∈w::T:=(h.mem z).mp η;have b:w∈z::S:=(h.mem w).mpr η;have e:z=w:=by
  rcases aV.mp a with e |a
  ·show e
  ·rcases aV.mp b with e |b
   ·show e.symm
   ·rcases CP z w with h |h |h
    ·show Ω h (d z a)
    ·show h
    ·show Ω h (c w b)
 subst e;rw[h.head n]
def ou.rot(h:qr A B)(c:ou A):ou B:=by let⟨X,Y,rfl,rfl⟩:=h;show c.swap
abbrev i8(k:Int)(z:Pt):Pt:=(k*z.1,k*z.2)
def CY(d:0<k):j4 (i8 k a) (i8 k b)↔j4 a b:=by
 unfold j4 i8;fail;rw[HX d,HX d];constructor
 ·rintro (h | ⟨h,c⟩)
  ·show iH h
  ·show gI #[fR ν h,c]
 ·rintro (h | ⟨h,c⟩)
  ·show iH h
  ·show gI #[by rw[h],c]
def Du(c:0<k)(h:i8 k a=i8 k b):a=b:=by
 erw[i8,uV] at h;show nX (fR ν h.1) (fR ν h.2)
def Ye(k:Int)(a b c:Pt):eC (i8 k a) (i8 k b) (i8 k c)=k*k*eC a b c:=by unfold eC i8;fail;grind
def ou.unscl(d:0<k)(h:ou (cs.map (i8 k))):ou cs:=by
 show#[~~~h.len,?_,λa b f q g i j=>?_]
 ·show List.Pairwise.of_map (i8 k) (λa b m e=>m (by rw[e])) h.nodup
 ·have c:nI (cs.map (i8 k)) (i8 k a) (i8 k b):=by
   let⟨l,r,e⟩:=f;show#[l.map (i8 k),r.map (i8 k),?_];rw[<-uT,<-aX,e];simp
  have:=h.strict _ _ c (i8 k q) (eD g) (λe=>i (Du d e)) λe=>j (Du d e);rw[Ye] at this;show AK (by rw[jO];show this) (aW d d)
def Y3:FD:=λc Q=>∃a b:Int,c=[.int a,.int b]/\(0<a/\0<b)/\(BL 8000 a/\BL 8000 b)/\∀l,0<l->a∣l->b∣l->l<=a*b->Q (.int l)
abbrev mv(k r w:Int)(z:Pt):Pt:=(k*z.1+r,k*z.2+w)
def Kn{a b:Int}(d:0<a)(h:0<a*b):0<b:=by
 apply sA.mp;intro c;have:a*b<=0:=dP ν c;lia
def su(x y:Pt):Int:=x.1*y.2-x.2*y.1
theorem Oc{α β:Type}(f:β->β->Int)(g:α->β):∀(a:α)(l:θ α),qj f (g a) (l.map g)=qj (λx y=>f (g x) (g y)) a l
 |a,[]=>rfl
 |a,b::l=>by
  show f (g a) (g b)+qj f (g b) (l.map g)=f (g a) (g b)+_;rw[Oc f g b l]
def Tl{α β:Type}(f:β->β->Int)(g:α->β)(l:θ α):vE f (l.map g)=vE (λx y=>f (g x) (g y)) l:=by
 cases l with
 |nil=>rfl
 |cons z T=>
  show qj f (g z) (T.map g++[g z])=qj _ z (T++[z]);rw[<-Oc f g z (T++[z])];simp
theorem Od{α:Type}(k:Int)(f:α->α->Int):∀(a:α)(l:θ α),qj (λx y=>k*f x y) a l=k*qj f a l
 |a,[]=>by show(0:Int)=k*0;lia
 |a,b::l=>by
  show k*f a b+qj _ b l=k*(f a b+qj f b l);rw[Od k f b l,Int.mul_add]
def Tm{α:Type}(k:Int)(f:α->α->Int)(l:θ α):vE (λx y=>k*f x y) l=k*vE f l:=by
 cases l with
 |nil=>show(0:Int)=k*0;lia
 |cons z T=>show Od k f z (T++[z])
def Eu(k:Int)(l:θ Pt):vE su (l.map (i8 k))=k*k*vE su l:=by
 rw[Tl,<-Tm];congr 1;funext x y;unfold su i8;fail;grind
def Jk{f:Pt->Pt->Int}(h:qr A B):vE f A=vE f B:=by
 let⟨X,Y,rfl,rfl⟩:=h;show Tn f X Y
abbrev cr(a b:Int×Int):Int:=a.1*b.2-a.2*b.1
def chain(a:Int×Int):θ (Int×Int)->Int
 | []=>0
 |b::r=>cr a b+chain b r
def Lx(n:Nat)(a:θ (Int×Int)):Prop:=∀z∈a,BL n z.1/\BL n z.2
namespace K12
def UK(h:cP q p=1)(d:q∣p*r):q∣r:=by
 have a:q.natAbs∣p.natAbs*r.natAbs:=by rw[<-iK];show gY.mpr d
 show gY.mp (jZ h a)
def low_eq(g:0<b)(h:j3 a b p q)(h':j3 a b p' q'):p=p'/\q=q':=by
 have e:p*q'=p'*q:=by
  have i:=h.worth;have j:=h'.worth;have:(p*q')*b=(p'*q)*b:=δ
  show fH ν this
 have c:q∣q':=by
  have:q∣p*q':=by rw[e];show AJ ..
  show UK (by rw[Int.gcd_comm];show h.cop) this
 have d:q'∣q:=by
  have:q'∣p'*q:=by rw[<-e];show AJ ..
  show UK (by rw[Int.gcd_comm];show h'.cop) this
 have k:=pB h'.pos c;have l:=pB h.pos d;have f:q=q':=ν
 subst f;show#[fH (by have:=h.pos;lia) e,bg]
end K12
structure eR where
 a:Int
 b:Int
 c:Int
abbrev ln(l:eR):D:=.tup [.int l.a,.int l.b,.int l.c]
abbrev exc(l:eR)(p:Int×Int)(s:Int):Int:=l.a*p.1+l.b*p.2-l.c*s
abbrev h3(t:H3):D:=.tup [.int t.1,.int t.2.1,.int t.2.2]
abbrev si(L:wo)(z:Pt):D:=.tup [pt z,.int (n_ L z)]
abbrev pc(sh:Int)(a:θ Pt):D:=.tup [.int sh,.tup (a.map pt)]
abbrev spots(L:wo)(cs:θ Pt):θ H3:=Pl L (cs++cs.take 1)
def rg(cs:θ Pt)(i:Nat):Pt:=cs.getD (i % cs.length) (0,0)
def QP(h:0<cs.length)(i:Nat):cs[i % cs.length]?=ψ (rg cs i):=by
 unfold rg;rw[cC,aG (mH _ h)];rfl
def CV(h:0<cs.length)(i:Nat):rg cs i∈cs:=bJ (QP h i)
def JL(h:i<cs.length):cs[i]?=ψ (rg cs i):=by
 have:=QP (cs:=cs) ν i
 rwa [gT h] at this
def Ki(c:l[i]?=ψ a)(d:l[i+1]?=ψ b):rf l a b:=by
 let⟨e,f⟩:=bF.mp c;let⟨g,h⟩:=bF.mp d;show#[l.take i,l.drop (i+2),?_]
 conv=>lhs;rw[<-mO i l]
 rw[gJ e,gJ g,f,h]
def Jt(h:rf l a b):∃i,l[i]?=ψ a/\l[i+1]?=ψ b:=by
 let⟨x,y,e⟩:=h;show#[x.length,?_,?_]
 ·rw[e,dJ ν];simp
 ·rw[e,dJ ν];simp
def Jl(h:0<cs.length)(i:Nat):nI cs (rg cs i) (rg cs (i+1)):=by
 have c:=mH i h;show Ki (i:=i % cs.length) ?_ ?_
 ·rw[dB c];show QP h i
 ·have g:=QP h (i+1);by_cases a:i % cs.length+1<cs.length
  ·rw[dB a,<-g];congr 1;rw[QZ];by_cases b:cs.length=1
   ·lia
   ·rw[show 1 % cs.length=1 from gT ν,gT a]
  ·rw[dJ ν,show i % cs.length+1-cs.length=0 by lia,JW,υ ν,<-g];congr 1;rw[QZ];by_cases b:cs.length=1
   ·rw[b];lia
   ·rw[show 1 % cs.length=1 from gT ν,show i % cs.length+1=cs.length by lia,Nat.mod_self]
def LM(i:Nat):rg cs (i+cs.length)=rg cs i:=by unfold rg;rw[MH]
def Zf(h:nI cs a b):∃k,k<cs.length/\a=rg cs (k+(cs.length-1))/\b=rg cs k:=by
 let⟨i,c,d⟩:=Jt h;have j:i+1<(cs++cs.take 1).length:=(bF.mp d).1;rw[bI,jF] at j;have f:i<cs.length:=ν
 have g:0<cs.length:=ν
 rw[dB f,JL f] at c;have c:rg cs i=a:=cW c;by_cases e:i+1<cs.length
 ·rw[dB e,JL e] at d;show#[i+1,e,?_,(cW d).symm];rw[show i+1+(cs.length-1)=i+cs.length by lia,LM,c]
 ·rw[dJ ν,show i+1-cs.length=0 by lia,JW,υ ν,JL g] at d;show#[0,g,?_,(cW d).symm];rw[show 0+(cs.length-1)=i by lia,c]
def Ex(h:0<cs.length)(k:Nat):nI cs (rg cs (k+(cs.length-1))) (rg cs k):=by
 have:=Jl h (k+(cs.length-1))
 rwa [show k+(cs.length-1)+1=k+cs.length by lia,LM] at this
def Dt(n:cs.Nodup)(h:0<cs.length)(e:rg cs i=rg cs j):i % cs.length=j % cs.length:=by
 show(List.getElem?_inj (mH i h) n).mp ?_;rw[QP h i,QP h j,e]
def Kd(h:0<d)(b:d<n):(i+d) % n≠i % n:=by
 have c:=mH i (show 0<n by lia);rw[QZ,gT b];rcases MK (i % n+d) n with a |a
 ·rw[gT a];lia
 ·rw[Nat.mod_eq_sub_mod a,gT ν];lia
def ou.bend_rg(c:ou cs)(i:Nat):0<eC (rg cs i) (rg cs (i+1)) (rg cs (i+2)):=by
 have h3:=c.len;show c.strict _ _ (Jl ν i) _ (CV ν _) (λe=>?_) λe=>?_
 ·show Kd (i:=i) (d:=2) ν ν (Dt c.nodup ν e)
 ·show Kd (i:=i+1) (d:=1) ν ν (Dt c.nodup ν e)
theorem Oz:∀(l:θ Pt),∃M:Int,0<M/\∀p∈l,-M<p.2/\p.2<M
 | []=>#[1,μ,η]
 |p::l=>by
  let⟨M,h,b⟩:=Oz l;show#[M+p.2.natAbs+1,ν,λq a=>?_];rcases aV.mp a with rfl |a
  ·lia
  ·have:=b q a;lia
def Ge(c:ou cs){t u v:Pt}(a:nI cs t u)(f:nI cs u v)(j:t≠v)(k:j4 u t)(l:j4 u v):∀w∈cs,¬j4 w u:=by
 let⟨M,s,g⟩:=Oz cs;have mono:∀p∈cs,∀q∈cs,j4 p q->n_ ⟨2*M,1,0⟩ p<n_ ⟨2*M,1,0⟩ q:=by
  intro p m q n b;have y:=g p m;have z:=g q n;unfold n_;fail;rcases b with h | ⟨h,A⟩
  ·have:2*M*(q.1-p.1-1) ≥ 0:=iJ ν ν;have e:2*M*(q.1-p.1-1)=2*M*q.1-2*M*p.1-2*M:=δ;lia
  ·rw[h];lia
 have d:=(nI.mem a).2;have mt:=(nI.mem a).1;have mv:=(nI.mem f).2;have o:=Qk (L:=#[2*M,1,0]) c a f j (dO (mono u d t mt k)) (dO (mono u d v mv l));intro w i b;have:=mono w i u d b;have:=o w i;lia
def Qa{T:θ Pt}(c:ou (z::T))(least:∀q∈T,¬j4 q z)(B:k<(z::T).length):(j4 (rg (z::T) (k+((z::T).length-1))) (rg (z::T) (k+((z::T).length-2)))/\j4 (rg (z::T) (k+((z::T).length-1))) (rg (z::T) k))↔k=1:=by
 have h3:=c.len;have f:rg (z::T) 0=z:=by have:=JL (cs:=z::T) (i:=0) ν;simp at this;show this.symm
 have d:∀i,i % (z::T).length≠0->j4 z (rg (z::T) i):=by
  intro i l;have m:=CV (cs:=z::T) ν i;have ne:rg (z::T) i≠z:=λe=>l (by
   have:=Dt c.nodup ν (i:=i) (j:=0) (by rw[e,f])
   rwa [Nat.zero_mod] at this)
  rcases CP z (rg (z::T) i) with h |h |h
  ·show h
  ·show Ω h.symm ne
  ·rcases aV.mp m with e |m
   ·show Ω e ne
   ·show Ω h (least _ m)
 generalize g:(z::T).length=n at *;constructor
 ·rintro⟨a,b⟩;have o:nI (z::T) (rg (z::T) (k+(n-2))) (rg (z::T) (k+(n-1))):=by
   have:=Jl (cs:=z::T) ν (k+(n-2))
   rwa [show k+(n-2)+1=k+(n-1) by lia] at this
  have s:nI (z::T) (rg (z::T) (k+(n-1))) (rg (z::T) k):=by
   have:=Ex (cs:=z::T) ν k
   rwa [g] at this
  have u:rg (z::T) (k+(n-2))≠rg (z::T) k:=λe=>by
   have:=Dt c.nodup ν e;rw[g] at this;show Kd ν ν this
  have v:=Ge c o s u a b z η;apply mT;intro w;show v (d _ ?_);intro e;by_cases y:k=0
  ·subst y;rw[gT ν] at e;lia
  ·rw[show k+(n-1)=(k-1)+n by lia,MH,gT ν] at e;lia
 ·rintro rfl;have A:rg (z::T) (1+(n-1))=z:=by rw[show 1+(n-1)=0+(z::T).length by lia,LM,f]
  rw[A];show#[d _ (by rw[gT ν];lia),d _ (by rw[gT ν];lia)]
section
variable{cs zs:θ Pt}
def Mn(h:qr A B)(k:nI B a b):nI A a b:=by
 let⟨X,Y,rfl,rfl⟩:=h;show Ey k
def Mm{f:Pt->Pt}(h:nI l a b):nI (l.map f) (f a) (f b):=by
 let⟨x,y,e⟩:=h;show#[x.map f,y.map f,?_];rw[<-uT,<-aX,e];simp
end
abbrev lo(x:Int):Pt:=(x,x*x)
abbrev hi(a x:Int):Pt:=(x,a-x*x)
def NM(z w:Pt):HT.lexLt [z.1,z.2] [w.1,w.2]=decide (j4 z w):=by
 unfold j4;erw[HT.lexLt];by_cases h:z.1=w.1
 ·rw[υ h];by_cases a:z.2=w.2
  ·rw[υ a];simp[h,a]
  ·rw[ω a];simp[h]
 ·rw[ω h];simp[h]
def LP{α:Type}(j:Nat)(xs:θ α):qr xs (turned j xs):=#[xs.take j,xs.drop j,by rw[mO],bg]
def YH{α β:Type}(j:Nat)(f:α->β)(xs:θ α):turned j (xs.map f)=(turned j xs).map f:=by unfold turned;simp
def t5.norm{cs:θ Pt}{a:θ Pt}(h:t5 share cs m sh a j):j_ share (turned j cs) m sh (turned j a):=by
 show#[h.mpos,h.sh_eq,?_,λd b c=>h.cop d b λz e=>c z (((LP j a).mem z).mp e)]
 conv=>lhs;rw[h.cs_eq]
 show YH j _ a
def t5.first{cs:θ Pt}{a:θ Pt}(h:t5 share cs m sh a j):∃w T,turned j cs=w::T/\∀x∈T,¬j4 x w:=by
 obtain⟨z,T,e⟩:∃z T,turned j a=z::T:=by
  have b:=h.j_lt;show#[a[j],a.drop (j+1)++a.take j,?_];show a.drop j++a.take j=_;rw[gJ b];rfl
 have c:a[j]?=ψ z:=by
  have:(turned j a)[0]?=ψ z:=by rw[e];rfl
  have b:=h.j_lt;unfold turned at this;rw[dB ε,xQ] at this;simpa using this
 show#[i8 m z,T.map (i8 m),?_,λx d=>?_]
 ·conv=>lhs;rw[h.cs_eq]
  rw[YH,e];rfl
 ·let⟨y,f,rfl⟩:=bD.mp d;rw[CY h.mpos];have:=h.least y (((LP j a).mem y).mpr (by rw[e];simp[f])) z c;rw[NM] at this;simpa using this
theorem xV{f:D->D->Option Bool}:∀(xs:θ D),(∀x∈xs,f x x=ψ ζ)->pi f xs xs=ψ ζ
 | [],_=>rfl
 |x::xs,h=>by
  erw[pi,h x η,xV xs λy a=>h y (by simp[a])];rfl
def Nf(n:Nat)(i:Int):k5 (n+1) (.int i) (.int i)=ψ ζ:=by simp[k5]
def Ng(n:Nat)(z:Pt):k5 (n+2) (pt z) (pt z)=ψ ζ:=by
 show pi (k5 (n+1)) _ _=_;show xV _ λx a=>?_;erw[aV,dM,or_false] at a;rcases a with rfl |rfl <;> show Nf n _
def P4(n:Nat)(sh:Int)(a:θ Pt):pi (k5 (n+3)) [.int sh,.tup (a.map pt)] [.int sh,.tup (a.map pt)]=ψ ζ:=by
 show xV _ λx b=>?_;erw[aV,dM,or_false] at b;rcases b with rfl |rfl
 ·show Nf _ _
 ·show pi (k5 (n+2)) _ _=_;show xV _ λy c=>?_;let⟨z,_,rfl⟩:=bD.mp c;show Ng _ _
def WH{t:RS}(xs:θ D)(J:Nat->En->Prop)(step:∀i x a,xs[i]?=ψ x->J i a->∀F:pd,F.rt=E.rt->F.bk=E.nx->(∀a',J (i+1) a'->F.nx a')->(∀a',J (i+1) a'->F.ct a')->g x a λa1=>t F a1)
  (b:∀a,J xs.length a->E.nx a) (a:En) (h:J 0 a):WG g t xs E a:=by
 show mQ (λd a=>∃i,i<=xs.length/\d=xs.drop i/\J i a) ?_ ?_ xs a #[0,dZ _,bg,h]
 ·rintro x d a ⟨i,hi,e,c⟩ F j k l m;have f:i<xs.length:=by
   apply Nat.not_le.mp;intro n;rw[List.drop_of_length_le n] at e;cases e
  rw[gJ f] at e;cases e;show step i _ a (aG f) c F j k (λa' h=>l a' #[i+1,ν,bg,h]) λa' h=>m a' #[i+1,ν,bg,h]
 ·rintro a ⟨i,hi,e,c⟩;have:i=xs.length:=by
   have:=Ψ jE e;simp at this;lia
  subst this;show b a c
def Lc{lo:Int}(h:(lQ lo n)[i]?=ψ x):x = .int (lo+i)/\i<n:=by
 unfold lQ at h;rw[bC] at h;by_cases hi:i<n
 ·rw[qZ hi] at h;cases h;show#[bg,hi]
 ·rw[gZ (~~~hi)] at h;cases h
def uW{t:RS}(lo:Int)(n:Nat)(J:Nat->En->Prop)(step:∀i a,i<n->J i a->∀F:pd,F.rt=E.rt->F.bk=E.nx->(∀a',J (i+1) a'->F.nx a')->(∀a',J (i+1) a'->F.ct a')->g (.int (lo+i)) a λa1=>t F a1)
  (b:∀a,J n a->E.nx a) (a:En) (h:J 0 a):WG g t (lQ lo n) E a:=by
 show WH _ J (λi x a e c=>?_) (λa h=>b a (by rwa [uP] at h)) a h;let⟨rfl,hi⟩:=Lc e;show step i a hi c
def P9{ns:θ Int}(a:ns≠[])(q:∀v l,ns=l++[v]->Q (.int v)):f8 (.lst (ns.map D.int)) (.int (-1)) Q:=by
 rcases pE ns with h | ⟨l,v,h⟩
 ·show Ω h a
 ·have e:ns=l++[v]:= ~~~h
  have:ns.map D.int=l.map D.int++[D.int v]:=by rw[e];simp
  rw[this];show rS ?_ (q v l e);unfold qe uj;rw[ω μ,υ ε];have:((-1:Int)+((l.map D.int++[D.int v]).length:Nat)).toNat=l.length:=ε
  erw[this,AR];simp
structure yk(ts:List Int):Prop where
 len:2<=ts.length/\ts.length<=5
 bl:∀x∈ts,BL 200 x
 step:∀(i:Nat) a b,ts[i]?=ψ a->ts[i+1]?=ψ b->1<=b-a/\b-a<=40
 wide:∀x∈ts,∀y∈ts,y-x<=60
structure f6(ts:List Int)(hss:List (List Int))(n:Nat):Prop where
 thr:yk ts
 len:hss.length=ts.length
 n1:1<=n/\n<=3
 each:∀hs∈hss,hs.length=2*n
 bl:∀hs∈hss,∀x∈hs,BL 210 x
 up:∀hs∈hss,hs.Pairwise (·<=·)
abbrev vz(hss:θ (θ Int)):D:=.lst (hss.map il)
theorem Ep{R:En->Prop}{P:D->Prop}:∀(src:θ D){Q:θ D->Prop}(c:En)(acc:θ D),R c->(∀a∈src,∀c,R c->∀K:En->D->Prop,(∀c1 d,R c1->P d->K c1 d)->g a c λc1=>te c1 λd=>K c1 d) ->
  (∀out:θ D,out.length=src.length->(∀d∈out,P d)->Q (acc++out))->yS g te src c acc Q
 | [],Q,c,acc,_,_,q=>by
  show Q acc;simpa using q [] rfl η
 |a::src,Q,c,acc,h,step,q=>by
  show g a c λf=>te f λd=>yS g te src f (acc++[d]) Q;show step a dL c h (λc1 d=>yS g te src c1 (acc++[d]) Q) λc1 d i j=>?_;show Ep src c1 _ i (λb k=>step b (cR _ k)) λout l m=>?_;have:=q (d::out) (by simp[l]) λx e=>by
   rcases aV.mp e with rfl |e
   ·show j
   ·show m x e
  simpa using this
abbrev sk(w k a b:Int):Int:=a*(w-k)+b*k
def Nj{ns:θ Int}{i:Nat}{v:Int}{Q:D->Prop}(e:ns[i]?=ψ v)(q:Q (.int v)):f8 (il ns) (.int (i:Int)) Q:=rS (qQ (by rw[bC,e];rfl)) q
def Q0{hss:θ (θ Int)}{i:Nat}{a:θ Int}{Q:D->Prop}(e:hss[i]?=ψ a)(q:Q (il a)):f8 (vz hss) (.int (i:Int)) Q:=rS (qQ (by rw[bC,e];rfl)) q
def Bn:FD:=λa Q=>∃n b p:Int,a=[.int n,.int b,.int p]/\(0<b/\BL 9000 b)/\(0<=p/\p<=1000)/\∀x,0<=x->x<b->Q (.int x)
def XO:ι Bn JC ["_law_number","_law_base","_law_place","_law_k"]:=by
 rintro j Q ⟨n,b,p,rfl,⟨d,e⟩,⟨k,l⟩,q⟩;rw[cM 1 rfl];unfold JC;erw[gE,Ld,aN,cD,bK,bS];show cV (λc=>∃(m:Int)(o:Option S),c=[ap (.int m),ap (.int b),ap (.int p),o]) (λK f=>?_) ?_
 ·nofun;show#[#[ν,ν],?_];show mQ (λ_ c=>∃(m:Int)(o:Option S),c=[ap (.int m),ap (.int b),ap (.int p),o]) ?_ ?_ _ _ #[n,ξ,bg]
  ·rintro x s c ⟨m,o,rfl⟩ F _ _ g _;unfold BJ;nofun;show#[e.divOk ν,g _ #[m.fdiv b,ap x,bg]]
  ·rintro c ⟨m,o,rfl⟩;show f _ #[m,o,bg]
 rintro c ⟨m,o,rfl⟩;nofun;let⟨h,i⟩:=gM (a:=m) d;show#[#[ν],q _ h i]
abbrev pb(x y w:Int):D:=.tup [.int x,.int y,.int w]
def Bu{cs:θ Pt}{k j:Nat}(a:k<cs.length)(b:j<=cs.length):qe (cs.map pt) (0+(k:Int)-(j:Int))=ψ (pt (rg cs (k+(cs.length-j)))):=by
 unfold qe uj;rw[aJ];by_cases h:j<=k
 ·rw[υ ν,υ ν];have e:(0+(k:Int)-(j:Int)).toNat=k-j:=ν
  rw[e];show(cs.map pt)[k-j]?=_;rw[bC,JL ν,show k+(cs.length-j)=(k-j)+cs.length by lia,LM];rfl
 ·rw[ω ν,υ ν];have e:(0+(k:Int)-(j:Int)+(cs.length:Int)).toNat=k+(cs.length-j):=ν
  rw[e];show(cs.map pt)[k+(cs.length-j)]?=_;rw[bC,JL ν];rfl
def FJ{cs:θ Pt}{k:Nat}(a:k<cs.length){Q:D->Prop}:f8 (.tup (cs.map pt)) (.int (0+(k:Int))) Q=Q (pt (rg cs k)):=by
 have:=Bu a (j:=0) ν;erw[Int.natCast_zero,Int.sub_zero,wT,LM] at this;erw[f8,this]
def NL{cs:θ Pt}{k:Nat}(a:k<cs.length){Q:D->Prop}:f8 (.tup (cs.map pt)) (.int (0+(k:Int)-1)) Q=Q (pt (rg cs (k+(cs.length-1)))):=by
 have:=Bu a (j:=1) ν;erw[Int.natCast_one] at this;erw[f8,this]
def Fz{cs:θ Pt}{k:Nat}(a:k<cs.length)(b:2<=cs.length){Q:D->Prop}:f8 (.tup (cs.map pt)) (.int (0+(k:Int)-2)) Q=Q (pt (rg cs (k+(cs.length-2)))):=by
 have:=Bu a (j:=2) ν;have e:((2:Nat):Int)=2:=rfl;rw[e] at this;erw[f8,this]
theorem Gb{a:θ Pt}:∀{i:Nat},i<=a.length->FN (rg a (a.length-1)) (a.take i)=rg a (i+(a.length-1))
 | 0,_=>by rw[wV];rfl
 |j+1,h=>by
  rw[gD,JL ν];show FN _ (a.take j++[rg a j])=_;rw[yU,show j+1+(a.length-1)=j+a.length by lia,LM]
def Wy(f:Pt->Pt->Int){a:θ Pt}(h:i<a.length):qj f (rg a (a.length-1)) (a.take (i+1))=qj f (rg a (a.length-1)) (a.take i)+f (rg a (i+(a.length-1))) (rg a i):=by
 rw[gD,JL h,yA,Gb ν];show _+(f _ _+0)=_;rw[wP]
def E9(f:Pt->Pt->Int){a:θ Pt}(h:0<a.length):qj f (rg a (a.length-1)) a=vE f a:=by
 show Pq f (X:=a.take (a.length-1)) ?_
 conv=>lhs;rw[<-jH (l:=a),show a.length=(a.length-1)+1 by lia]
 rw[gD,JL ν];rfl
def Bo:FD:=λd Q=>∃a b c:Pt,d=[pt a,pt b,pt c]/\(BP a/\BP b/\BP c)/\Q (.int (eC a b c))
def ZJ:ι Bo OB ["_law_one","_law_two","_law_three","_law_ahead"]:=by
 rintro h Q ⟨a,b,c,rfl,⟨f,d,g⟩,q⟩;rw[cM 1 rfl];unfold OB;nofun;have e:(b.1-a.1)*(c.2-b.2)-(b.2-a.2)*(c.1-b.1)=eC a b c:=by unfold eC;grind
 show#[(d.1.sub f.1).mulOk (g.2.sub d.2),(d.2.sub f.2).mulOk (g.1.sub d.1),?_];rw[e];show q
abbrev kf(m:Int):Int:=(if 0<m then 1 else 0)-(if m<0 then 1 else 0)
abbrev m8(sh X Y W:Int)(a b:Pt):Int:=KP (qt a) (qt b) (sh*X,sh*Y,W)
def UV:FD:=λe Q=>∃(d:Int)(c:θ Pt)(X Y W:Int),e=[pc d c,pb X Y W]/\(BL 9000 d/\Lx 9000 c/\1<=c.length/\c.length<=100)/\(BL 9000 X/\BL 9000 Y/\BL 9000 W) /\
 ∀M,(∃a b,nI c a b/\M=m8 d X Y W a b)->(∀a b,nI c a b->M<=m8 d X Y W a b)->Q (.int (kf M))
def X1(sh X Y W:Int)(a b:Pt):(b.1-a.1)*(Y*sh-a.2*W)-(b.2-a.2)*(X*sh-a.1*W)=m8 sh X Y W a b:=by unfold m8 KP qt;fail;grind
def UD:ι UV GK ["_law_piece","_law_spot","_law_share_here","_law_corners","_law_least","_law_k","_law_one","_law_x","_law_y","_law_side"]:=by
 rintro ds Q ⟨j,f,X,Y,W,rfl,⟨bs,P,l1,l2⟩,⟨R,T,z⟩,q⟩;rw[cM 8 rfl];unfold GK;erw[gE,Xs,aN,cD,bK,bS];generalize Z:pc j f=m;generalize hT:pb X Y W=A;have n:0<f.length:=ν
 show cV (λg=>g=[ap m,ap A,ap (.int j),ap (.tup (f.map pt)),ξ,ξ,ξ,ξ,ξ,ξ]) (λK v=>?_) ?_
 ·rw[<-Z] at v⊢;nofun;show v _ rfl
 rintro g rfl;show dN [ap m,ap A,ap (.int j),ap (.tup (f.map pt)),ap .non,ξ,ξ,ξ,ξ,ξ] (λK v=>?_) ?_
 ·nofun;show v
 show cV (λg=>∃(M:Int)(a b c d e:Option S),((∃a b,nI f a b/\M=m8 j X Y W a b)/\∀a b,nI f a b->M<=m8 j X Y W a b)/\g=[ap m,ap A,ap (.int j),ap (.tup (f.map pt)),ap (.int M),a,b,c,d,e]) (λK v=>?_) ?_
 ·erw[iA,AB,aE,aU,r1,nE,aQ,aA,aB,S.val,aJ];show#[by constructor <;> lia,?_];have nn:(((f.length:Nat):Int)).toNat=f.length:=ν
  erw[nn];show uW 0 f.length (λi g=>∃(lo:D)(a b c d e:Option S),((i=0/\lo = .non)\/(∃M l:Int×Nat,l.2<i/\M.1=m8 j X Y W (rg f (l.2+(f.length-1))) (rg f l.2)/\(∀k,k<i->M.1<=m8 j X Y W (rg f (k+(f.length-1))) (rg f k))/\lo = .int M.1))/\g=[ap m,ap A,ap (.int j),ap (.tup (f.map pt)),ap lo,a,b,c,d,e]) ?_ ?_ _ #[.non,ξ,ξ,ξ,ξ,ξ,iH #[bg,bg],bg]
  ·rintro i g hi ⟨lo,a,b,c,d,e,H,rfl⟩ F _ _ hn _;let⟨B,C⟩:=P _ (CV n (i+(f.length-1)));let⟨q1,q2⟩:=P _ (CV n i);unfold zC;subst hT;obtain⟨u,I⟩:∃u,u=rg f (i+(f.length-1)):=#[_,bg];have U:=(R.mul bs).sub (B.mul z);have V:=(T.mul bs).sub (C.mul z);have e1:∀{Q:D->Prop},f8 (.tup (f.map pt)) (.int (0+(i:Int)-1)) Q=Q (pt u):=λ{Q}=>(by rw[I];show NL hi);rw[<-I] at B C U V;erw[cA,aI,aH];show cV (λg=>g=[ap m,ap (pb X Y W),ap (.int j),ap (.tup (f.map pt)),ap lo,ap (.int (0+(i:Int))),ap (pt u),c,d,e]) (λJ o=>?_) ?_
   ·erw[dC,r2,aQ,rC,S.val,iR,aB,aA,e1,aI,aH];show o _ rfl
   rintro g rfl;show cV (λg=>g=[ap m,ap (pb X Y W),ap (.int j),ap (.tup (f.map pt)),ap lo,ap (.int (0+(i:Int))),ap (pt u),ap (.int (X*j-u.1*W)),d,e]) (λJ o=>?_) ?_
   ·erw[dC,r2,aQ,rC,S.val,iR,fI,iT,rH,aB,aA,aI,aH];show#[R.mulOk bs,B.mulOk z,o _ rfl]
   rintro g rfl;show cV (λg=>g=[ap m,ap (pb X Y W),ap (.int j),ap (.tup (f.map pt)),ap lo,ap (.int (0+(i:Int))),ap (pt u),ap (.int (X*j-u.1*W)),ap (.int (Y*j-u.2*W)),e]) (λJ o=>?_) ?_
   ·erw[dC,r2,aQ,rC,S.val,iR,fI,jS,rH,aB,aA,aI,aH];show#[T.mulOk bs,C.mulOk z,o _ rfl]
   rintro g rfl;show cV (λg=>g=[ap m,ap (pb X Y W),ap (.int j),ap (.tup (f.map pt)),ap lo,ap (.int (0+(i:Int))),ap (pt u),ap (.int (X*j-u.1*W)),ap (.int (Y*j-u.2*W)),ap (.int (m8 j X Y W u (rg f i)))]) (λJ o=>?_) ?_
   ·erw[dC,r2,aQ,rC,S.val,iR,fI,FJ hi,iT,jS,aB,aA,aI,aH];show#[(q1.sub B).mulOk V,(q2.sub C).mulOk U,?_];rw[X1];show o _ rfl
   rintro g rfl;subst I;nofun;have mk:∀(M:Int)(l:Nat)(a b c d e:Option S),l<i+1->M=m8 j X Y W (rg f (l+(f.length-1))) (rg f l)->(∀k,k<i+1->M<=m8 j X Y W (rg f (k+(f.length-1))) (rg f k))->F.nx [ap m,ap (pb X Y W),ap (.int j),ap (.tup (f.map pt)),ap (.int M),a,b,c,d,e]:=
    λM l a b c d e E w h3=>hn _ #[_,a,b,c,d,e,gI #[(M,0),(0,l),E,w,h3,bg],bg]
   have le:∀{M:Int},M<=m8 j X Y W (rg f (i+(f.length-1))) (rg f i)->(∀k,k<i->M<=m8 j X Y W (rg f (k+(f.length-1))) (rg f k))->∀k,k<i+1->M<=m8 j X Y W (rg f (k+(f.length-1))) (rg f k):=λh h' k s=>by
    rcases KD (mZ s) with G |rfl
    ·show h' k G
    ·show h
   rcases H with⟨G,rfl⟩ | ⟨M,l,E,w,h3,rfl⟩
   ·subst G;erw[if_true];show mk _ 0 _ _ _ _ _ (Nat.zero_lt_succ _) rfl (le (pX _) λk s=>Ω s (oV k))
   ·erw[aO,if_false];split
    ·rename_i L;show mk _ i _ _ _ _ _ (qO i) rfl (le (pX _) λk s=>BZ (dO L) (h3 k s))
    ·rename_i L;show mk _ l.2 _ _ _ _ _ (iX E) w (le (CB.mp L) h3)
  ·rintro g ⟨lo,a,b,c,d,e,H,rfl⟩;rcases H with⟨G,rfl⟩ | ⟨M,l,E,w,h3,rfl⟩
   ·lia
   ·show v _ #[M.1,a,b,c,d,e,#[#[_,_,Ex n l.2,w],λx y N=>?_],bg];let⟨k,s,rfl,rfl⟩:=Zf N;show h3 k s
 rintro g ⟨M,a,b,c,d,e,⟨m1,m2⟩,rfl⟩;have O:=q M m1 m2;nofun;show O
def UW:FD:=λc Q=>∃(a:Int)(b:θ Pt),c=[pc a b]/\1<=a/\3<=b.length/\Q (.bl ζ)
def CT:ι UW (uA BY) ["_law_piece","_law_corner"]:=by
 rintro h Q ⟨c,d,rfl,i,h3,q⟩;rw[cM 1 rfl];unfold uA;erw[gE,Ld,aN,cD,bK,bS];show dN [ap (pc c d),ξ] (λK b=>?_) ?_
 ·nofun;show#[c,bg,?_];nofun;rw[ω ν];show b
 show dN [ap (pc c d),ξ] (λK b=>?_) ?_
 ·nofun;rw[ω ε];show b
 show cV (λa=>True) (λK b=>?_) ?_
 ·nofun;show mQ (λe a=>∃(rest:θ Pt)(x:Option S),e=rest.map pt/\a=[ap (pc c d),x]) ?_ ?_ _ _ #[d,ξ,bg,bg]
  ·rintro x e a ⟨rest,u,f,rfl⟩ F _ _ g _;cases rest with
   |nil=>cases f
   |cons z rest=>
    cases f;unfold rL;nofun;show#[_,bg,_,bg,g _ #[rest,ap (pt z),bg,bg]]
  ·rintro a _;show b _ trivial
 rintro a _;nofun;show q
structure yg(sh:Int)(zs:List Pt):Prop where
 pos:0<sh
 cvx:ou zs
 first:∃z T,zs=z::T/\∀q∈T,¬j4 q z
 cop:∀d:Nat,(d:Int)∣sh->(∀z∈zs,(d:Int)∣z.1/\(d:Int)∣z.2)->d=1
def Sg:FD:=λc Q=>∃(b:Int)(a:θ Pt),c=[pc b a]/\yg b a/\(∀z∈a,BP z)/\a.length<=100/\Q (.bl ζ)
def NW:ι Sg (BM IJ UW Bo) ["_law_piece","_law_share_here","_law_corners","_law_most","_law_falls","_law_k"]:=by
 rintro ds Q ⟨j,f,rfl,m,hB,hl,q⟩;have h3:=m.cvx.len;have s:0<f.length:=ν
 rw[cM 5 rfl];unfold BM;erw[gE,Xr,aN,cD,bK,bS];generalize G:pc j f=n;show dN [ap n,ξ,ξ,ξ,ξ,ξ] (λK l=>?_) ?_
 ·nofun;show#[j,f,by rw[G],by have:=m.pos;lia,h3,?_];nofun;show l
 show cV (λc=>c=[ap n,ap (.int j),ap (.tup (f.map pt)),ξ,ξ,ξ]) (λK l=>?_) ?_
 ·rw[<-G] at l⊢;nofun;show l _ rfl
 rintro c rfl;show dN [ap n,ap (.int j),ap (.tup (f.map pt)),ap (.int j),ξ,ξ] (λK l=>?_) ?_
 ·nofun;show l
 show dN [ap n,ap (.int j),ap (.tup (f.map pt)),ap (.int j),ap (.int 0),ξ] (λK l=>?_) ?_
 ·nofun;show l
 show cV (λc=>∃(a:Option S),c=[ap n,ap (.int j),ap (.tup (f.map pt)),ap (.int 1),ap (.int 1),a]) (λK l=>?_) ?_
 ·erw[iA,AB,aE,aU,r1,nE,aQ,aA,aB,S.val,aJ];show#[by constructor <;> lia,?_];have J:(((f.length:Nat):Int)).toNat=f.length:=ν
  have B:(j.toNat:Int)=j:=by have:=m.pos;lia
  erw[J];show uW 0 f.length (λi c=>∃(g:Nat)(a:Option S),o0 j (f.take i) g/\c=[ap n,ap (.int j),ap (.tup (f.map pt)),ap (.int g),ap (.int (if 2<=i then 1 else 0)),a]) ?_ ?_ _ #[j.toNat,ξ,#[by have:=m.pos;lia,?_,η,λd L _=>?_],by rw[B];rfl]
  ·rintro i c hi ⟨g,a,y,rfl⟩ F N _ O _;have P:=hB _ (CV s i);have R:=hB _ (CV s (i+(f.length-1)));have U:=hB _ (CV s (i+(f.length-2)));have tp:0<eC (rg f (i+(f.length-2))) (rg f (i+(f.length-1))) (rg f i):=by
    have:=m.cvx.bend_rg (i+(f.length-2))
    rwa [show i+(f.length-2)+1=i+(f.length-1) by lia,show i+(f.length-2)+2=i+f.length by lia,LM] at this
   have C:(j4 (rg f (i+(f.length-1))) (rg f (i+(f.length-2)))/\j4 (rg f (i+(f.length-1))) (rg f i))↔i=1:=by
    let⟨z,T,e,least⟩:=m.first;have V:=m.cvx;subst e;show Qa V least hi
   have D:o0 j (f.take (i+1)) (cP (cP g (rg f i).1:Nat) (rg f i).2):=by
    rw[gD,JL hi];show y.snoc _
   have u:∀v:Int,v=(if 2<=i+1 then 1 else 0)->F.nx [ap n,ap (.int j),ap (.tup (f.map pt)),ap (.int (cP (cP g (rg f i).1:Nat) (rg f i).2:Nat)),ap (.int v),ap (.int (0+(i:Int)))]:=λv W=>O _ #[_,ap (.int (0+(i:Int))),D,by rw[W]];unfold wM;erw[cA,aI,aH];show cV (λc=>c=[ap n,ap (.int j),ap (.tup (f.map pt)),ap (.int (cP (cP g (rg f i).1:Nat) (rg f i).2:Nat)),ap (.int (if 2<=i then 1 else 0)),ap (.int (0+(i:Int)))]) (λX E=>?_) ?_
   ·erw[dC,cE,aE,aU,r2,bH,aQ,rC,S.val,FJ hi,iT,jS,aB,aA,aI,aH];show#[_,_,bg,_,_,bg,E _ rfl]
   rintro c rfl;show cV (λc=>c=[ap n,ap (.int j),ap (.tup (f.map pt)),ap (.int (cP (cP g (rg f i).1:Nat) (rg f i).2:Nat)),ap (.int (if 2<=i then 1 else 0)),ap (.int (0+(i:Int)))]) (λX E=>?_) ?_
   ·erw[gN,cU,cE,aE,aU,r2,aQ,rC,fB,S.val,iR,mK,FJ hi,NL hi,Fz hi (show 2<=f.length by lia),aB,aA];show#[_,_,_,bg,#[U,R,P],?_];fail;rw[ω (by erw[decide_eq_true_eq];lia)];show E _ rfl
   rintro c rfl;erw[gN,QM,cU,dC,fB,r2,aQ,rC,S.val,iR,kO,Zh,FJ hi,NL hi,Fz hi (show 2<=f.length by lia),aB,aA,aI,aH];show#[[_,_],[_,_],bg,bg,?_];rw[NM];by_cases w:j4 (rg f (i+(f.length-1))) (rg f (i+(f.length-2)))
   ·erw[w,decide_true,if_true];show#[[_,_],[_,_],bg,bg,?_];rw[NM];by_cases o:j4 (rg f (i+(f.length-1))) (rg f i)
    ·erw[o,decide_true,if_true];have:=C.mp #[w,o];subst this;show u _ η
    ·erw[o,decide_false,if_false,aO];have:i≠1:=λe=>o (C.mpr e).2;show u _ ?_;by_cases A:2<=i
     ·rw[υ A,υ ν]
     ·rw[ω A,ω ν]
   ·erw[w,decide_false,if_false,aO];have:i≠1:=λe=>w (C.mpr e).1;show u _ ?_;by_cases A:2<=i
    ·rw[υ A,υ ν]
    ·rw[ω A,ω ν]
  ·rintro c ⟨g,a,y,rfl⟩;rw[jH] at y;have:=m.cop g y.sh y.all;subst this;show l _ #[a,?_];rw[υ ν];rfl
  ·rw[B];show sQ _
  ·exact_mod_cast (by rw[B];show L:(d:Int)∣(j.toNat:Int))
 rintro c ⟨a,rfl⟩;let⟨z,T,e,least⟩:=m.first;subst e;nofun;show#[(z::T).map λp=>[p.1,p.2],by rw[cO];rfl,η,λM Y Z=>?_];let⟨p,hp,rfl⟩:=bD.mp Y;have ep:z=p:=by
  rcases aV.mp hp with h |h
  ·show h.symm
  ·have w:=least p h;have o:=Z [z.1,z.2] η;rw[NM] at o;erw[decide_eq_false_iff_not] at o;rcases CP z p with k |k |k
   ·show Ω k o
   ·show k
   ·show Ω k w
 subst ep;have H:k5 6 (pt z) (pt z)=ψ ζ:=by rw[Cj];simp
 rw[show qJ [z.1,z.2]=pt z from rfl]
 first
  | (rw[H];show q)
  | (show(match k5 6 (pt z) (pt z) with |I b=>Q (.bl b) |none=>False);rw[H];show q)
def Me:BL (n+1) 0:=(BL.const (n:=1) (i:=0) μ).mono ν
theorem Ss:∀(l:θ Pt)(a:Pt),(BL n a.1/\BL n a.2)->Lx n l->BL (2*n+1+l.length) (qj su a l)
 | [],a,_,_=>Me
 |b::l,a,d,e=>by
  let⟨f,g⟩:=e b η;have h:=Ss l b #[f,g] λz i=>e z (by simp[i]);have c:BL (2*n+1) (su a b):=((d.1.mul g).sub (d.2.mul f)).mono ν;show(c.add h).mono ?_;rw[aT];lia
def O1{a:θ Pt}(h:Lx n a):BL (2*n+1+a.length) (vE su a):=by
 cases a with
 |nil=>show Me
 |cons z T=>
  have:=Ss (T++[z]) z (h z η) λw b=>h w (by simp at b⊢;rcases b with k |k <;> simp[k]);rw[bI] at this;show this
namespace K33
abbrev P2:=Int×Int
abbrev Mv:=Int×P2×P2
def yb(m:Mv):D:=.tup [.int m.1,pt m.2.1,pt m.2.2]
def Z8{f:D->D->Option Bool}(c:f a b=ψ p)(d:pi f xs ys=ψ q):pi f (a::xs) (b::ys)=ψ (p && q):=by rw[pi,c,d]
def jp(n:Nat)(i j:Int):k5 (n+1) (.int i) (.int j)=ψ (decide (i=j)):=by rw[k5]
def eqT(n:Nat)(xs a:θ D):k5 (n+1) (.tup xs) (.tup a)=pi (k5 n) xs a:=by rw[k5]
def ri(n:Nat)(z w:P2):k5 (n+2) (pt z) (pt w)=ψ (decide (z=w)):=by
 let⟨a,b⟩:=z;let⟨c,d⟩:=w;rw[eqT,Z8 (jp n a c) (Z8 (jp n b d) rfl)];erw[uV,Bool.decide_and,IH]
end K33
abbrev ut(s:lF):D:=.tup [pt s.1,pt s.2]
abbrev OG(S:θ lF):D:=.lst (S.map ut)
abbrev sN(R:θ (θ Pt)):D:=.lst (R.map pts)
def WZ:Pt->θ Pt->θ (Pt×Pt)
 |_,[]=>[]
 |a,b::r=>(a,b)::WZ b r
theorem Bm:∀(a:Pt)(l:θ Pt),jU a l=((WZ a l).map λp=>sd p.1 p.2).flatten
 |_,[]=>rfl
 |a,b::r=>by rw[jU,WZ,aN,iW,Bm b r]
theorem Im:∀(a z:Pt)(r:θ Pt),iF (λu v=>D.tup [u,v]) ((a::r).map pt) ((r++[z]).map pt)=(WZ a (r++[z])).map λp=>D.tup [pt p.1,pt p.2]
 |a,z,[]=>rfl
 |a,z,b::r=>by
  have c:=Im b z r;show D.tup [pt a,pt b]::iF (λu v=>D.tup [u,v]) ((b::r).map pt) ((r++[z]).map pt)=_;rw[c];rfl
theorem Gj:∀(a:Pt)(l:θ Pt),(WZ a l).length=l.length
 |_,[]=>rfl
 |a,b::r=>by rw[WZ,aT,Gj b r,aT]
def Yf(a b:Pt):(sd a b).length<=1:=by unfold sd;split <;> (try split) <;> simp
theorem Ig:∀(l:θ Pt)(a:Pt),(jU a l).length<=l.length
 | [],_=>aY _
 |b::r,a=>by
  have c:=Yf a b;have d:=Ig r b;rw[jU,bI,aT];lia
theorem Rr:∀g:θ Pt,(oD g).length<=g.length
 | []=>aY _
 |a::r=>by have:=Ig (r++[a]) a;rw[oD];simpa using this
def OQ:FD:=λa Q=>∃g:θ Pt,a=[pts g]/\g.length<=100/\Q (OG (oD g))
def ZL:ι OQ SM ["ring","sides","one","other"]:=by
 rintro J Q ⟨g,rfl,y,q⟩;rw[cM 3 rfl];unfold SM;show dN [ap (pts g),ψ (.own []),ξ,ξ] (λK k=>?_) ?_
 ·nofun;show k
 show cV (λb=>∃u v,b=[ap (pts g),ψ (.own ((oD g).map ut)),u,v]) (λK k=>?_) ?_
 ·have A:∃h:θ (Pt×Pt),iF (λu v=>D.tup [u,v]) (g.map pt) (cutD (g.map pt) (ψ 1) ξ++cutD (g.map pt) ξ (ψ 1))=h.map (λp=>D.tup [pt p.1,pt p.2])/\(h.map λp=>sd p.1 p.2).flatten=oD g/\h.length<=100:=by
   cases g with
   |nil=>show#[[],bg,bg,dZ _]
   |cons a r=>
    show#[WZ a (r++[a]),?_,(Bm a (r++[a])).symm,by rw[Gj];simpa using y];have B:cutD ((a::r).map pt) (ψ 1) ξ=r.map pt:=xC (j:=1) η;have C:cutD ((a::r).map pt) ξ (ψ 1)=[pt a]:=Ml (j:=1) η;rw[B,C,<-Im a a r];simp
  let⟨h,E,G,n⟩:=A;erw[iA,SO,bH,aQ,r2,LJ,tL,lP,rC,qD,aA];have o:∀l u:Option Int,(cutD (g.map pt) l u).length<=100:=λl u=>by unfold cutD;rw[jF,gR,aJ];lia
  show#[iY (by have:=o (ψ 1) ξ;have:=o ξ (ψ 1);lia),?_];rw[E];show mQ (λs b=>∃done c:θ (Pt×Pt),h=done++c/\s=c.map (λp=>D.tup [pt p.1,pt p.2])/\∃u v,b=[ap (pts g),ψ (.own (((done.map λp=>sd p.1 p.2).flatten).map ut)),u,v]) ?_ ?_ _ _ #[[],h,bg,bg,_,_,bg]
  ·rintro x s b ⟨done,c,d,f,u,v,rfl⟩ F L M H N;cases c with
   |nil=>cases f
   |cons p c=>
    rw[aN] at f;injection f with ex f;subst ex f;have dl:((done.map λp=>sd p.1 p.2).flatten).length+1<=101:=by
     have e:done.length<=100:=(by rw[d] at n;simp at n;lia);have:((done.map λp=>sd p.1 p.2).flatten).length<=done.length:=by
      clear d e
      induction done with
      |nil=>show aY _
      |cons z done O=>have:=Yf z.1 z.2;rw[aN,iW,bI,aT];lia
     lia
    have m:∀w,w=sd p.1 p.2->F.nx [ap (pts g),ψ (.own (((done.map λp=>sd p.1 p.2).flatten).map ut++w.map ut)),ap (pt p.1),ap (pt p.2)]:=λw I=>by
     show H _ #[done++[p],c,by rw[d];simp,bg,ap (pt p.1),ap (pt p.2),?_];rw[I,<-aX];congr 4;simp
    unfold GV;nofun;by_cases e:p.1.1<p.2.1
    ·have i:¬p.2.1<p.1.1:=ν;erw[e,i,decide_true,decide_false,if_true,if_false,aO];show#[iY (by rw[aJ];lia),?_];show m [p] (by unfold sd;rw[υ e])
    ·by_cases i:p.2.1<p.1.1
     ·erw[e,i,decide_true,decide_false,if_true,if_false,aO];show#[iY (by rw[aJ];lia),?_];show m [(p.2,p.1)] (by unfold sd;rw[ω e,υ i])
     ·erw[e,i,decide_false,if_false,aO];have:=m [] (by unfold sd;rw[ω e,ω i]);simpa using this
  ·rintro b ⟨done,c,d,f,u,v,rfl⟩;have:c=[]:=(by cases c with |nil=>rfl |cons _ _=>cases f);subst this;rw[cQ] at d;show k _ #[u,v,?_];rw[<-d,G]
 rintro b ⟨u,v,rfl⟩;nofun;show q
def FR:θ (Int×θ D)->Int->θ D
 | [],_=>[]
 | (a,b)::r,k=>if a=k then b else FR r k
theorem Gf:∀(kvs:θ (Int×θ D))(k:Int)(d:D)(c:Int),FR (putL kvs k d) c=if k=c then FR kvs c++[d] else FR kvs c
 | [],k,d,c=>by erw[putL,FR];split <;> rfl
 | (b,g)::r,k,d,c=>by
  have f:=Gf r k d c;unfold putL;by_cases h:b=k
  ·rw[υ h];subst h;erw[FR];by_cases a:b=c
   ·rw[υ a,υ a,υ a]
   ·rw[ω a,ω a,ω a]
  ·rw[ω h];erw[FR];by_cases a:k=c
   ·have:¬b=c:=λe=>h (e.trans a.symm);rw[ω this,υ a,f,υ a,ω this]
   ·rw[ω a,f,ω a]
theorem WS:∀(kvs:θ (Int×θ D))(k:Int)(d:D),(putL kvs k d).map (·.1)=if k∈kvs.map (·.1) then kvs.map (·.1) else kvs.map (·.1)++[k]
 | [],k,d=>by simp[putL]
 | (b,g)::r,k,d=>by
  have c:=WS r k d;unfold putL;by_cases h:b=k
  ·rw[υ h];subst h;simp
  ·rw[ω h,aN,c];have f:¬k=b:=λe=>h e.symm;by_cases a:k∈r.map (·.1)
   ·rw[υ a,υ (by rw[aN];show .tail _ a)];rfl
   ·rw[ω a,ω (by rw[aN,aV];show λz=>z.elim f a)];rfl
theorem Fc:∀(kvs:θ (Int×θ D))(c:Int),c∈kvs.map (·.1)->MZ (kvs.map (·.1)) (kvs.map λp=>.lst p.2) c=ψ (.lst (FR kvs c))
 | [],_,h=>by cases h
 | (b,d)::r,c,h=>by
  erw[aN,MZ,FR];by_cases a:b=c
  ·rw[υ a,υ a]
  ·rw[ω a,ω a];rw[aN,aV] at h;show Fc r c (h.resolve_left λe=>a e.symm)
theorem Oe:∀(kvs:θ (Int×θ D))(k:Int)(d:D)(n:Nat),kvs.length<=n->(∀p∈kvs,p.2.length<=n)->(putL kvs k d).length<=n+1/\∀p∈putL kvs k d,p.2.length<=n+1
 | [],k,d,n,_,_=>#[by simp[putL],λp b=>by simp[putL] at b;subst b;simp]
 | (f,i)::r,k,d,n,c,b=>by
  unfold putL;have e:=b (f,i) (.head _);by_cases h:f=k
  ·rw[υ h];show#[~~~sX c,λp a=>?_];rcases aV.mp a with rfl |a
   ·simp;show e
   ·show sX (b p (.tail _ a))
  ·rw[ω h];rw[aT] at c;have l:n=(n-1)+1:=ν;let⟨j,g⟩:=Oe r k d n ν λp a=>b p (.tail _ a);have m:(putL r k d).length<=r.length+1:=by
    clear j g b e c
    induction r with
    |nil=>simp[putL]
    |cons z r o=>unfold putL;split <;> simp <;> lia
   show#[by rw[aT];lia,λp a=>?_];rcases aV.mp a with rfl |a
   ·show sX e
   ·show g p a
abbrev Ev:=Int×lF
def qf(s:lF):θ Ev:=(cF (o8 s).toNat).map λk:Nat=>(s.1.1+(k:Int),s)
def kvsOf(E:θ Ev):θ (Int×θ D):=E.foldl (λm e=>putL m e.1 (ut e.2)) []
def Ga(E:θ Ev)(e:Ev):kvsOf (E++[e])=putL (kvsOf E) e.1 (ut e.2):=by unfold kvsOf;rw[yP];rfl
def Vh(E:θ Ev):((kvsOf E).length<=E.length/\∀p∈kvsOf E,p.2.length<=E.length)/\((kvsOf E).map (·.1)).Nodup/\(∀c,c∈(kvsOf E).map (·.1)↔∃e∈E,e.1=c)/\∀c,FR (kvsOf E) c=(E.filter λe=>decide (e.1=c)).map λe=>ut e.2:=by
 show snoc_ind (P:=λE=>((kvsOf E).length<=E.length/\∀p∈kvsOf E,p.2.length<=E.length)/\((kvsOf E).map (·.1)).Nodup/\(∀c,c∈(kvsOf E).map (·.1)↔∃e∈E,e.1=c)/\∀c,FR (kvsOf E) c=(E.filter λe=>decide (e.1=c)).map λe=>ut e.2) ?_ ?_ E
 ·show#[#[aY _,λp h=>by cases h],VE,λc=>#[λh=>(by cases h),λ⟨e,h,_⟩=>(by cases h)],λc=>rfl]
 ·rintro E e ⟨⟨j,k⟩,h3,g,l⟩;rw[Ga];show#[by rw[bI];show Oe _ _ _ _ j k,?_,λc=>?_,λc=>?_]
  ·rw[WS];split
   ·show h3
   ·rename_i n;show pO.mpr #[h3,AN _ _,λa o b q i=>n (by rw[bR.mp q] at i;show i▸o)]
  ·rw[WS];split
   ·rename_i m;rw[g c];constructor
    ·rintro⟨x,d,rfl⟩;show#[x,eY _ d,bg]
    ·rintro⟨x,d,rfl⟩;rcases bQ.mp d with d |d
     ·show#[x,d,bg]
     ·rw[bR.mp d];show(g _).mp m
   ·rw[bQ,g c,bR];constructor
    ·rintro (⟨x,d,rfl⟩ |rfl)
     ·show#[x,eY _ d,bg]
     ·show#[e,cN _ (.head _),bg]
    ·rintro⟨x,d,rfl⟩;rcases bQ.mp d with d |d
     ·show .inl #[x,d,bg]
     ·rw[bR.mp d];show .inr rfl
  ·rw[Gf,l c,fZ,aX];by_cases f:e.1=c
   ·rw[υ f];simp[f]
   ·rw[ω f];simp[f]
where
 snoc_ind {α:Type} {P:θ α->Prop} (h0:P []) (hs:∀E e,P E->P (E++[e])) (E:θ α):P E:=by
  have:∀(n:Nat)(E:θ α),E.length=n->P E:=by
   intro n
   induction n with
   |zero=>intro E h;rw[gC.mp h];show h0
   |succ n ih=>
    intro E h;rcases pE E with rfl | ⟨E',e,rfl⟩
    ·cases h
    ·rw[List.concat_eq_append] at h⊢;show hs E' e (ih E' (~~~h))
  show this _ E rfl
def Zv(c:Int)(s:lF)(g:0<o8 s):((qf s).filter λe=>decide (e.1=c)).map (·.2)=if cov c s=ζ then[s] else[]:=by
 have a:∀n:Nat,(((cF n).map λk:Nat=>((s.1.1+(k:Int),s):Ev)).filter λe=>decide (e.1=c)).map (·.2)=if s.1.1<=c/\c<s.1.1+n then[s] else[]:=by
  intro n
  induction n with
  |zero=>rw[ω ν];rfl
  |succ n f=>
   rw[fP,aX,fZ,aX,f];by_cases b:s.1.1<=c/\c<s.1.1+n
   ·rw[υ b,υ ν];have:¬s.1.1+(n:Int)=c:=ν;simp[this]
   ·by_cases d:s.1.1+(n:Int)=c
    ·rw[ω b,υ ν];simp[d]
    ·rw[ω b,ω ν];simp[d]
 unfold qf;rw[a];by_cases h:cov c s=ζ
 ·have:=HG.mp h;rw[υ h,υ (by unfold o8 at *;lia)]
 ·rw[ω h,ω λk=>h (HG.mpr (by unfold o8 at *;lia))]
theorem Ck(c:Int):∀(S:θ lF),(∀s∈S,0<o8 s)->(((S.map qf).flatten).filter λe=>decide (e.1=c)).map (·.2)=S.filter (cov c)
 | [],_=>rfl
 |s::S,h=>by
  rw[aN,iW,fZ,aX,Ck c S λx a=>h x (.tail _ a),Zv c s (h s (.head _)),nS];split <;> rfl
structure wq(S:List lF)(ks:List Int)(xs:List D):Prop where
 len:ks.length=xs.length
 nodup:ks.Nodup
 mem:∀c,c∈ks↔∃s∈S,cov c s=ζ
 here:∀c∈ks,MZ ks xs c=ψ (OG (S.filter (cov c)))
def Z3(S:θ lF)(h:∀s∈S,0<o8 s):wq S ((kvsOf (S.map qf).flatten).map (·.1)) ((kvsOf (S.map qf).flatten).map λp=>.lst p.2):=by
 let⟨_,h3,b,d⟩:=Vh (S.map qf).flatten;show#[η,h3,λc=>?_,λc g=>?_]
 ·rw[b c];have e:=Ck c S h;constructor
  ·rintro⟨x,a,rfl⟩;have:x.2∈(((S.map qf).flatten).filter λe=>decide (e.1=x.1)).map (·.2):=eD (f:=(·.2)) (fX.mpr #[a,decide_eq_true rfl]);rw[e] at this;show#[x.2,(fX.mp this).1,(fX.mp this).2]
  ·rintro⟨s,i,k⟩;have:s∈S.filter (cov c):=fX.mpr #[i,k];rw[<-e] at this;let⟨x,a,_⟩:=bD.mp this;show#[x,(fX.mp a).1,by simpa using(fX.mp a).2]
 ·rw[Fc _ c g,d c];congr 2;rw[<-Ck c S h,cO];rfl
namespace K33
end K33
abbrev sp(a b g h:Int):D:=.tup [fr a b,fr g h]
namespace K34
open K33
structure Told(e:Int)(A:List Pt)(sh:Int)(zs:List Pt):Prop where
 ex:∃(w:Pt)(T:θ Pt)(m:Int),qr A (w::T)/\(∀x∈T,¬j4 x w)/\j_ e (w::T) m sh zs
def Told.same(a:Told e1 A A3 J2)(b:Told e2 B B0 J3)(i:0<e1)(d:0<e2)(e:A.map (i8 e2)=B.map (i8 e1))(n:A.Nodup):A3=B0/\J2=J3:=by
 let⟨j,k,D,l,o,q⟩:=a;let⟨s,u,E,v,w,z⟩:=b;have m:qr ((j::k).map (i8 e2)) ((s::u).map (i8 e1)):=((l.symm.map (i8 e2)).trans (by rw[e];show qr.refl _)).trans (v.map (i8 e1));have c:((j::k).map (i8 e2)).Nodup:=sT (i8 e2) (λa b C h=>C (Du d h)) (l.nodup n);rw[aN,aN] at m;rw[aN] at c;have e:=m.least c (λx f=>by let⟨y,g,rfl⟩:=bD.mp f;rw[CY d];show o y g) λx f=>by let⟨y,g,rfl⟩:=bD.mp f;rw[CY i];show w y g
 show q.same z d i (jO ..) (~~~e)
def Told.ring{A b:θ Pt}(a:Told e A sh b):∃A',qr A A'/\b.map (i8 e)=A'.map (i8 sh):=by
 let⟨w,T,m,c,l,N⟩:=a;show#[w::T,c,?_];have d:=N.cs_eq;have f:=N.sh_eq;rw[d,cO];show gW λz _=>?_;show i8 e z=(sh*(m*z.1),sh*(m*z.2));rw[f];show nX (by dsimp only[i8];grind) (by dsimp only[i8];grind)
def Ux{cs:θ Pt}{a:θ Pt}(h:t5 share cs m sh a j):Told share cs sh (turned j a):=by
 let⟨w,T,e,l⟩:=h.first;have N:=h.norm;rw[e] at N;show#[w,T,m,by rw[<-e];show LP j cs,l,N]
def ga{a b c:Pt}(h:0<eC a b c):ou [a,b,c]:=by
 have i:eC b c a=eC a b c:=by unfold eC;grind
 have j:eC c a b=eC a b c:=by unfold eC;grind
 have n:a≠b:=λe=>by subst e;unfold eC at h;grind
 have o:a≠c:=λe=>by subst e;unfold eC at h;grind
 have s:b≠c:=λe=>by subst e;unfold eC at h;grind
 show#[η,by simp[n,o,s],λx y k q d f g=>?_];have m:(x=a/\y=b)\/(x=b/\y=c)\/(x=c/\y=a):=by
  let⟨l,r,e⟩:=k
  match l,e with
  | [],e=>simp at e;show .inl #[e.1.symm,e.2.1.symm]
  | [_],e=>simp at e;show .inr (.inl #[e.2.1.symm,e.2.2.1.symm])
  | [_,_],e=>simp at e;show .inr (.inr #[e.2.2.1.symm,e.2.2.2.1.symm])
  | [_,_,_],e=>simp at e
  |_::_::_::_::l,e=>simp at e
 erw[aV,dM,or_false] at d;rcases m with⟨rfl,rfl⟩ | ⟨rfl,rfl⟩ | ⟨rfl,rfl⟩
 ·rcases d with rfl |rfl |rfl
  ·show(f rfl).elim
  ·show(g rfl).elim
  ·show h
 ·rcases d with rfl |rfl |rfl
  ·rw[i];show h
  ·show(f rfl).elim
  ·show(g rfl).elim
 ·rcases d with rfl |rfl |rfl
  ·show(g rfl).elim
  ·rw[j];show h
  ·show(f rfl).elim
def pU(s t:P2)(b:Bool):θ Pt:=match b with
 |true=>[(0,0),(s.2*t.2,s.1*t.2),(s.2*t.2,t.1*s.2)]
 |false=>[(0,0),(s.2*t.2,t.1*s.2),(0,t.1*s.2-s.1*t.2)]
structure uw(s t:P2):Prop where
 sp:0<s.2
 tp:0<t.2
 lt:s.1*t.2<t.1*s.2
def Bk{s t:P2}(h:uw s t)(b:Bool):ou (pU s t b):=by
 have sp:0<s.2*t.2:=aW h.sp h.tp;have d:0<t.1*s.2-s.1*t.2:=by have:=h.lt;lia
 have k:=aW sp d;cases b <;> (show ga ?_;unfold eC;fail;grind)
end K34
namespace K36
open K34 K33
def aff(S lo hi:Int)(z:Pt):Pt:=(z.1*S,z.1*lo+z.2*hi)
def Sk(S lo hi:Int)(a b c:Pt):eC (aff S lo hi a) (aff S lo hi b) (aff S lo hi c)=S*hi*eC a b c:=by unfold eC aff;fail;grind
def Yw{S lo hi:Int}(e:0<S)(f:0<hi)(h:aff S lo hi a=aff S lo hi b):a=b:=by
 unfold aff at h;erw[uV] at h;have c:a.1=b.1:=fH ν h.1;have d:a.2=b.2:=fH (a:=hi) ν (by have:=h.2;rw[c] at this;lia);show nX c d
def aff_cvx{S lo hi:Int}(d:0<S)(e:0<hi)(c:ou P):ou (P.map (aff S lo hi)):=c.map (aW d e) (Sk S lo hi) λa b h=>Yw d e h
def S5:θ Pt->θ (Pt×Pt)
 | []=>[]
 | [_]=>[]
 |a::b::r=>(a,b)::S5 (b::r)
theorem XB:∀{l:θ Pt}{a b:Pt},rf l a b->(a,b)∈S5 l
 |l,a,b,⟨[],r,e⟩=>by subst e;show dL
 |l,a,b,⟨[x],r,e⟩=>by subst e;show cR _ (XB #[[],r,bg])
 |l,a,b,⟨x::y::t,r,e⟩=>by subst e;show cR _ (XB #[y::t,r,bg])
def Z4(P:θ Pt):Bool:=decide (3<=P.length) && decide P.Nodup && (S5 (P++P.take 1)).all λp=>P.all λq=>decide (q=p.1) ||decide (q=p.2) ||decide (0<eC p.1 p.2 q)
def cvxB_ok(h:Z4 P=ζ):ou P:=by
 unfold Z4 at h;erw[kG,decide_eq_true_eq] at h;show#[h.1.1,h.1.2,λa b c q d e f=>?_];have:=uI.mp (uI.mp h.2 _ (XB c)) q d;erw[DD,decide_eq_true_eq] at this;rcases this with(z |z) |z
 ·show Ω z e
 ·show Ω z f
 ·show z
section
variable{s h:Pt}
def GZ{A b:θ Pt}(a:0<e)(T:Told e A sh b):0<sh:=by
 let⟨w,c,m,_,_,N⟩:=T;have:=N.sh_eq;rw[this] at a;show Kn N.mpos a
def G9{A b:θ Pt}(d:0<e)(T:Told e A sh b)(c:ou A):yg sh b:=by
 have f:=GZ d T;let⟨w,g,m,r,l,N⟩:=T;have a:w::g=b.map (i8 m):=N.cs_eq;show#[f,ou.unscl N.mpos (by rw[<-a];show c.rot r),?_,N.cop];cases b with
 |nil=>simp at a
 |cons i j=>
  erw[aN,SZ] at a;show#[i,j,bg,λq k n=>?_];show l (i8 m q) (by rw[a.2];show eD k) ?_;rw[a.1];show(CY N.mpos).mpr n
end
structure dr(m:Mv):Prop where
 sg:m.1=1\/m.1 = -1
 q0:0<m.2.1.2
 v0:0<m.2.2.2
 cx:cP m.2.1.1 m.2.1.2=1
 cy:cP m.2.2.1 m.2.2.2=1
 bp:BL 400 m.2.1.1
 bq:BL 400 m.2.1.2
 bu:BL 400 m.2.2.1
 bv:BL 400 m.2.2.2
abbrev Bt:=θ Pt×Int×θ Pt×Mv
def F_area3:FD:=λc Q=>∃(b:Int)(a:θ Pt),c=[pc b a]/\(BL 9000 b/\Lx 9000 a/\1<=a.length/\a.length<=100)/\Q (.tup [.int (vE su a),.int (b*b)])
def pure_area3:ι F_area3 GE ["_law_piece","_law_total","_law_k","_law_one","_law_two"]:=by
 rintro u Q ⟨g,e,rfl,⟨bs,j,v,w⟩,q⟩;rw[cM 4 rfl];unfold GE;erw[gE,Xq,aN,cD,bK,bS];have f:0<e.length:=ν
 show dN [ap (pc g e),ap (.int 0),ξ,ξ,ξ] (λK h=>?_) ?_
 ·nofun;show h
 show cV (λd=>∃a b c:Option L2.R2.S,d=[ap (pc g e),ap (.int (vE su e)),a,b,c]) (λK h=>?_) ?_
 ·erw[iA,AB,aE,aU,r1,r2,rC,jS,nE,aQ,aA,aB,S.val,aJ];show#[by constructor <;> lia,?_];have k:(((e.length:Nat):Int)).toNat=e.length:=ν
  erw[k];show uW 0 e.length (λi d=>∃a b c:Option L2.R2.S,d=[ap (pc g e),ap (.int (qj su (rg e (e.length-1)) (e.take i))),a,b,c]) ?_ ?_ _ #[ξ,ξ,ξ,bg]
  ·rintro i d hi ⟨a,b,c,rfl⟩ F _ _ l _;let⟨m,n⟩:=j _ (CV f (i+(e.length-1)));let⟨o,s⟩:=j _ (CV f i);unfold yX;nofun;rw[NL hi];nofun;erw[FJ hi];nofun;show#[m.mulOk s,n.mulOk o,l _ #[ap (.int (0+(i:Int))),ap (pt (rg e (i+(e.length-1)))),ap (pt (rg e i)),?_]];rw[Wy su hi];unfold su;rw[LZ]
  ·rintro d ⟨a,b,c,rfl⟩;rw[jH,E9 su f];show h _ #[a,b,c,bg]
 rintro d ⟨a,b,c,rfl⟩;nofun;show#[bs.mulOk bs,q]
def F_isfr:FD:=λa Q=>∃p:Pt,a=[pt p]/\(0<p.2/\cP p.1 p.2=1)/\Q (.bl ζ)
def pure_isfr:ι F_isfr (wK IJ BY) ["_law_found"]:=by
 rintro c Q ⟨p,rfl,⟨a,b⟩,q⟩;rw[cM 0 rfl];unfold wK;nofun;show#[p.1,bg,?_];nofun;show#[p.2,bg,?_];nofun;erw[a,decide_true,if_true];show#[p.1,p.2,bg,?_];nofun;rw[b];show q
def Ew{f:Pt->Pt}(h:nI (R.map f) a b):∃x y,nI R x y/\f x=a/\f y=b:=by
 let⟨l,r,e⟩:=h;rw[<-uT,<-aX] at e;let⟨c,n,d,rfl,g⟩:=CC.mp e;let⟨x,r2,rfl,i,j⟩:=pZ.mp g;let⟨y,k,rfl,m,o⟩:=pZ.mp j;show#[x,y,#[c,k,d],i,m]
def nG{a b x y:Int}(c:0<a)(d:0<b)(e:a*x=b*y):(0<x↔0<y)/\(x<0↔y<0):=by
 rcases pL x 0 with k |rfl |k
 ·have:=mU c k;have f:y<0:=by
   apply sA.mp;intro z;have:=iJ (dO d) z;lia
  lia
 ·rw[MA] at e;rcases SX.mp e.symm with z |z <;> lia
 ·have:=aW c k;have f:0<y:=by
   apply sA.mp;intro z;have:=dP (dO d) z;lia
  lia
end K36
def L7(h:-x<=0):0<=x:=ν
def L5(h:0<=-x):x<=0:=ν
def L8(h:-x<0)(k:x<=0):False:=ν
def L6(h:0 < -x)(k:0<=x):False:=ν
def vn(sh:Int)(cs:θ Pt)(X Y W:Int):Prop:=∀a b,nI cs a b->0<=m8 sh X Y W a b
def ul(sh:Int)(cs:θ Pt)(X Y W:Int):Prop:=∀a b,nI cs a b->0<m8 sh X Y W a b
namespace K37
open K36 K34 K33
section
variable{cs zs:θ Pt}
def T4(d:yg sh zs)(f:q∈zs):vn sh zs q.1 q.2 sh:=λa b c=>by
 have e:m8 sh q.1 q.2 sh a b=sh*eC a b q:=by unfold m8 KP qt eC;fail;grind
 rw[e];show iJ (dO d.pos) (d.cvx.side c f)
end
def F_(sh:Int)(c:Int):Rat:=(c:Rat) / ((sh:Rat)*(sh:Rat))
def qH{s:Int}(h:0<s):(s:Rat)≠0:=by
 intro k;have:(s:Rat)=((0:Int):Rat):=by rw[k];rfl
 have:=TK.mp this;lia
abbrev Lb:=Int×θ Pt×Mv
def nr(b:Lb):D:=.tup [pc b.1 b.2.1,yb b.2.2]
def uy(b:Lb):Rat:=F_ b.1 (vE su b.2.1)
def sy:θ Lb->Rat
 | []=>0
 |b::l=>uy b+sy l
theorem Ed:∀(l:θ Lb)(b:Lb),sy (l++[b])=sy l+uy b
 | [],b=>by show uy b+0=0+uy b;grind
 |a::l,b=>by show uy a+sy (l++[b])=uy a+sy l+uy b;rw[Ed l b];grind
structure xw(b:Lb):Prop where
 ip:yg b.1 b.2.1
 bs:BL 1500 b.1
 bz:∀z∈b.2.1,BL 4800 z.1/\BL 4800 z.2
 len:b.2.1.length<=14
 mf:dr b.2.2
def F_isbit7:FD:=λa Q=>∃b:Lb,a=[nr b]/\xw b/\Q (.bl ζ)
def pure_isbit7:ι F_isbit7 (GJ F_isfr Sg BY) ["_law_bit","_law_move_here"]:=by
 rintro k Q ⟨⟨e,f,a,x,y⟩,rfl,⟨i,bs,g,len,b⟩,q⟩;rw[cM 1 rfl];unfold GJ nr yb;erw[gE,Ld,aN,cD,bK,bS];generalize j:pc e f=d;show dN [ap (.tup [d,.tup [.int a,pt x,pt y]]),ξ] (λK c=>?_) ?_
 ·nofun;show#[e,f,by rw[j],i,λz h=>#[(g z h).1.mono,(g z h).2.mono],by dsimp only at len;lia,?_];nofun;show c
 show dN [ap (.tup [d,.tup [.int a,pt x,pt y]]),ap (.tup [.int a,pt x,pt y])] (λK c=>?_) ?_
 ·nofun;show c
 show dN [ap (.tup [d,.tup [.int a,pt x,pt y]]),ap (.tup [.int a,pt x,pt y])] (λK c=>?_) ?_
 ·nofun;show#[a,bg,?_];nofun;have:(if a<0 then -a else a)=1:=by have:=b.sg;dsimp only at this;split <;> lia
  erw[this,decide_true,dX,aO,if_false];show c
 nofun;show#[x,bg,#[b.q0,b.cx],?_];nofun;show#[y,bg,#[b.v0,b.cy],q]
def F_bits7:FD:=λa Q=>∃L:θ Lb,a=[.lst (L.map nr)]/\(∀b∈L,xw b)/\Q (.bl ζ)
def pure_bits7:ι F_bits7 (NZ F_isbit7) ["_law_bits_here","_law_bit"]:=by
 rintro i Q ⟨L,rfl,d,q⟩;rw[cM 1 rfl];unfold NZ;erw[gE,Ld,aN,cD,bK,bS];have e:Cq "list" (.lst (L.map nr))=ψ ζ:=rfl;show dN [ap (.lst (L.map nr)),ξ] (λK c=>?_) ?_
 ·nofun;erw[e];nofun;show c
 show cV (λa=>∃u,a=[ap (.lst (L.map nr)),u]) (λK c=>?_) ?_
 ·erw[iA,riL,bH,aA];show oN nr L (λf a=>∃(u:Option L2.R2.S),a=[ap (.lst (L.map nr)),u]) ?_ ?_ #[ξ,bg]
  ·rintro f b j a g ⟨u,rfl⟩ F k h;unfold DR;nofun;show#[b,bg,d b (by rw[g];simp),?_];nofun;show h _ #[ap (nr b),bg]
  ·rintro a ⟨u,rfl⟩;show c _ #[u,bg]
 rintro a ⟨u,rfl⟩;nofun;show q
def F_inbox7:FD:=λd Q=>∃(b:Int)(c:θ Pt)(s a:Pt),d=[pc b c,pt s,pt a]/\(BL 4000 b/\(∀z∈c,BL 5000 z.1/\BL 5000 z.2)/\BL 300 s.1/\BL 300 s.2/\BL 300 a.1/\BL 300 a.2)/\c.length<=100 /\
 (∀z∈c,(0<=z.1/\z.1<=b)/\0<=z.2*s.2-z.1*s.1/\(z.2*s.2-z.1*s.1)*a.2<=a.1*s.2*b)/\Q (.bl ζ)
def pure_inbox7:ι F_inbox7 GI ["_law_piece","_law_s","_law_h","_law_x","_law_y","_law_above"]:=by
 rintro E Q ⟨b,a,s,d,rfl,⟨bs,l,g,e,h,m⟩,G,n,q⟩;rw[cM 3 rfl];unfold GI;erw[gE,Ds,aN,cD,bK,bS];show cV (λc=>∃u v w,c=[ap (pc b a),ap (pt s),ap (pt d),u,v,w]) (λK o=>?_) ?_
 ·erw[iA,riT,r2,aQ,rC,jS,aA];show oN pt a (λy c=>∃(u v w:Option L2.R2.S),c=[ap (pc b a),ap (pt s),ap (pt d),u,v,w]) ?_ ?_ #[ξ,ξ,ξ,bg]
  ·rintro y z H c B ⟨u,v,w,rfl⟩ F I C;have i:z∈a:=(by rw[B];simp);let⟨j,k⟩:=l z i;obtain⟨⟨J,L⟩,M,N⟩:=n z i;unfold zB;erw[kW,eG,kU,cA,aT,cK,true_and,aH,aI];show dN [ap (pc b a),ap (pt s),ap (pt d),ap (.int z.1),ap (.int z.2),w] (λK f=>?_) ?_
   ·nofun;rw[ω ν,ω ν];show f
   show dN [ap (pc b a),ap (pt s),ap (pt d),ap (.int z.1),ap (.int z.2),ap (.int (z.2*s.2-z.1*s.1))] (λK f=>?_) ?_
   ·nofun;show#[k.mulOk e,j.mulOk g,f]
   have D:BL 5400 (z.2*s.2-z.1*s.1):=((k.mul e).sub (j.mul g)).mono;generalize O:z.2*s.2-z.1*s.1=A at *;nofun;rw[ω ν];show#[D.mulOk m,h.mulOk e,(h.mul e).mulOk bs,?_];rw[ω ν];show C _ #[ap (.int z.1),ap (.int z.2),ap (.int A),bg]
  ·rintro c ⟨u,v,w,rfl⟩;show o _ #[u,v,w,bg]
 rintro c ⟨u,v,w,rfl⟩;nofun;show q
def F_added7:FD:=λe Q=>∃a b c d:Int,e=[.tup [.int a,.int b],.tup [.int c,.int d]]/\(BL 7000000 a/\BL 7000000 b/\BL 7000000 c/\BL 7000000 d)/\Q (.tup [.int (a*d+c*b),.int (b*d)])
def pure_added7:ι F_added7 JA ["_law_one","_law_other"]:=by
 rintro i Q ⟨a,b,c,d,rfl,⟨g,e,h,f⟩,q⟩;rw[cM 0 rfl];unfold JA;nofun;show#[g.mulOk f,h.mulOk e,e.mulOk f,q]
def F_areas7:FD:=λa Q=>∃L:θ Lb,a=[.lst (L.map nr)]/\(L.length<=640/\∀b∈L,xw b)/\∀N M,(BL 6500000 N/\BL 6500000 M)->(0<M/\(N:Rat) / (M:Rat)=sy L)->Q (.tup [.int N,.int M])
def pure_areas7:ι F_areas7 (JB F_added7 F_area3) ["_law_bits_here","_law_total","_law_bit"]:=by
 rintro B Q ⟨L,rfl,⟨C,v⟩,q⟩;rw[cM 2 rfl];unfold JB;erw[gE,QO,aN,cD,bK,bS];show dN [ap (.lst (L.map nr)),ap (.tup [.int 0,.int 1]),ξ] (λK k=>?_) ?_
 ·nofun;show k
 show cV (λa=>∃N M u,((BL 6500000 N/\BL 6500000 M)/\0<M/\(N:Rat) / (M:Rat)=sy L)/\a=[ap (.lst (L.map nr)),ap (.tup [.int N,.int M]),u]) (λK k=>?_) ?_
 ·erw[iA,riL,bH,aA];show oN nr L (λe a=>∃(N M:Int)(u:Option L2.R2.S),((BL (10000*(e.length+1)) N/\BL (10000*(e.length+1)) M)/\0<M/\(N:Rat) / (M:Rat)=sy e)/\a=[ap (.lst (L.map nr)),ap (.tup [.int N,.int M]),u]) ?_ ?_ #[0,1,ξ,#[#[(BL.const (n:=2) (i:=0) μ).mono,(BL.const (n:=2) (i:=1) μ).mono],μ,by show((0:Int):Rat) / ((1:Int):Rat)=0;rw[show((0:Int):Rat)=0 from rfl];grind],bg]
  ·rintro e b D a m ⟨N,M,u,⟨⟨h,f⟩,d,g⟩,rfl⟩ F E w;have y:b∈L:=(by rw[m];simp);let⟨j,bs,l,G,H⟩:=v b y;have I:=j.cvx.len;have le:e.length+1<=640:=(by have:=Ψ jE m;simp at this;lia);have o:BL 9700 (vE su b.2.1):=(O1 (n:=4800) l).mono ν;have c:BL 3000 (b.1*b.1):=(bs.mul bs).mono;unfold BI nr;erw[cA,dC,cE,aE,aU,r2,aQ,bH,rC,iT,aA,aB,aH,aI];show#[b.1,b.2.1,bg,#[bs.mono,λz s=>#[(l z s).1.mono,(l z s).2.mono],ν,ν],?_];show#[N,M,vE su b.2.1,b.1*b.1,bg,#[h.mono ν,f.mono ν,o.mono,c.mono],?_];show w _ #[_,_,ap (.tup [pc b.1 b.2.1,yb b.2.2]),#[#[?_,?_],aW d (aW j.pos j.pos),?_],bg]
   ·show((h.mul c).add (o.mul f)).mono (by rw[bI];simp;lia)
   ·show(f.mul c).mono (by rw[bI];simp;lia)
   ·rw[Ed,<-g];unfold uy F_;have J:=qH d;have O:=qH j.pos;erw[kZ,TJ];grind
  ·rintro a ⟨N,M,u,⟨⟨h,f⟩,d,g⟩,rfl⟩;show k _ #[N,M,u,#[#[h.mono ν,f.mono ν],d,g],bg]
 rintro a ⟨N,M,u,⟨A,d,g⟩,rfl⟩;nofun;show q N M A #[d,g]
open Classical in
noncomputable def uk (sh:Int) (cs:θ Pt) (X Y W:Int):Int:=if ul sh cs X Y W then 1 else if vn sh cs X Y W then 0 else -1
section
variable{sh X Y W:Int}
def Qn:(uk sh cs X Y W=1/\ul sh cs X Y W)\/(uk sh cs X Y W=0/\vn sh cs X Y W/\¬ul sh cs X Y W)\/(uk sh cs X Y W = -1/\¬vn sh cs X Y W/\¬ul sh cs X Y W):=by
 unfold uk;by_cases h:ul sh cs X Y W
 ·show .inl #[by rw[υ h],h]
 ·by_cases k:vn sh cs X Y W
  ·show .inr (.inl #[by rw[ω h,υ k],k,h])
  ·show .inr (.inr #[by rw[ω h,ω k],k,h])
def UQ(h:ul sh cs X Y W):uk sh cs X Y W=1:=by unfold uk;rw[υ h]
def WV(h:vn sh cs X Y W)(k:¬ul sh cs X Y W):uk sh cs X Y W=0:=by unfold uk;rw[ω k,υ h]
def ul.c(h:ul sh cs X Y W):vn sh cs X Y W:=λa b c=>dO (h a b c)
def HM(h:¬vn sh cs X Y W):uk sh cs X Y W = -1:=by unfold uk;rw[ω (λk=>h (ul.c k)),ω h]
def Vm(f:∃a b,nI cs a b/\M=m8 sh X Y W a b)(d:∀a b,nI cs a b->M<=m8 sh X Y W a b):kf M=uk sh cs X Y W:=by
 let⟨a,b,c,e⟩:=f;unfold kf;rcases pL M 0 with k |k |k
 ·rw[HM (λz=>by have:=z a b c;lia),ω ν,υ k];decide
 ·rw[WV (λx y c=>by have:=d x y c;lia) (λz=>by have:=z a b c;lia),ω ν,ω ν];decide
 ·rw[UQ (λx y c=>by have:=d x y c;lia),υ k,ω ν];decide
end
abbrev bX(m:Mv)(X W:Int):Int:=m.1*(X*m.2.1.2-m.2.1.1*W)*m.2.2.2
abbrev bY(m:Mv)(Y W:Int):Int:=m.1*(Y*m.2.2.2-m.2.2.1*W)*m.2.1.2
abbrev bW(m:Mv)(W:Int):Int:=W*m.2.1.2*m.2.2.2
def Yx{X Y W:Int}(a:dr m)(c:BL 4000 X)(d:BL 4000 Y)(b:BL 4000 W):BL 5000 (bX m X W)/\BL 5000 (bY m Y W)/\BL 5000 (bW m W):=by
 have bs:BL 2 m.1:=by have:=a.sg;show BL.of_lt (m:=2) ν ν
 show#[((bs.mul ((c.mul a.bq).sub (a.bp.mul b))).mul a.bv).mono,((bs.mul ((d.mul a.bv).sub (a.bu.mul b))).mul a.bq).mono,((b.mul a.bq).mul a.bv).mono]
def F_back:FD:=λa Q=>∃(m:Mv)(X Y W:Int),a=[pb X Y W,yb m]/\(dr m/\BL 4000 X/\BL 4000 Y/\BL 4000 W)/\Q (pb (bX m X W) (bY m Y W) (bW m W))
def pure_back:ι F_back NY ["_law_spot","_law_move_here","_law_sign","_law_dx","_law_dy","_law_x","_law_y"]:=by
 rintro k Q ⟨⟨i,⟨p,j⟩,u,v⟩,X,Y,W,rfl,⟨c,e,f,a⟩,q⟩;have bs:BL 2 i:=by have:=c.sg;show BL.of_lt (m:=2) (by dsimp only at this;lia) (by dsimp only at this;lia)
 have g:BL 400 p:=c.bp;have b:BL 400 j:=c.bq;have h:BL 400 u:=c.bu;have d:BL 400 v:=c.bv;rw[cM 5 rfl];unfold NY yb;erw[gE,Xr,aN,cD,bK,bS];nofun;show#[e.mulOk b,g.mulOk a,bs.mulOk ((e.mul b).sub (g.mul a)),(bs.mul ((e.mul b).sub (g.mul a))).mulOk d,f.mulOk d,h.mulOk a,bs.mulOk ((f.mul d).sub (h.mul a)),(bs.mul ((f.mul d).sub (h.mul a))).mulOk b,a.mulOk b,(a.mul b).mulOk d,q]
noncomputable abbrev oz (a:Bool) (X Y W:Int) (b:Lb):Int:=if a=ζ then uk b.1 b.2.1 (bX b.2.2 X W) (bY b.2.2 Y W) (bW b.2.2 W) else uk b.1 b.2.1 X Y W
noncomputable def cnt (f:Lb->Int):θ Lb->Int
 | []=>0
 |b::l=>(if f b=1 then 1 else 0)+cnt f l
theorem Ei(f:Lb->Int):∀(l:θ Lb)(b:Lb),cnt f (l++[b])=cnt f l+if f b=1 then 1 else 0
 | [],b=>by show _+(0:Int)=0+_;lia
 |a::l,b=>by show _+cnt f (l++[b])=_+cnt f l+_;rw[Ei f l b];lia
theorem cnt_append(f:Lb->Int):∀(l k:θ Lb),cnt f (l++k)=cnt f l+cnt f k
 | [],k=>by show _=(0:Int)+_;rw[bS];lia
 |a::l,k=>by show _+cnt f (l++k)=_+cnt f l+_;rw[cnt_append f l k];lia
theorem cnt_none{f:Lb->Int}:∀{l:θ Lb},(∀b∈l,f b≠1)->cnt f l=0
 | [],_=>rfl
 |a::l,h=>by
  show(if f a=1 then(1:Int) else 0)+cnt f l=0;rw[ω (h a η),cnt_none λb c=>h b (by simp[c])];rfl
def F_many7:FD:=λc Q=>∃(L:θ Lb)(X Y W:Int)(a:Bool),c=[.lst (L.map nr),pb X Y W,.bl a]/\(L.length<=640/\∀b∈L,xw b)/\(BL 4000 X/\BL 4000 Y/\BL 4000 W) /\
 ((∃b∈L,oz a X Y W b=0)->Q .non)/\((∀b∈L,oz a X Y W b≠0)->Q (.int (cnt (oz a X Y W) L)))
def pure_many7:ι F_many7 (OA F_back UV) ["_law_bits_here","_law_spot","_law_home","_law_found","_law_piece","_law_move_here","_law_place","_law_where"]:=by
 rintro ds Q ⟨L,X,Y,W,d,rfl,⟨lL,R⟩,⟨s,y,A⟩,T,U⟩;rw[cM 5 rfl];unfold OA;erw[gE,Xr,aN,cD,bK,bS];show dN [ap (.lst (L.map nr)),ap (pb X Y W),ap (.bl d),ap (.int 0),ξ,ξ,ξ,ξ] (λK B=>?_) ?_
 ·nofun;show B
 show cV (λa=>∃u v w x,(∀b∈L,oz d X Y W b≠0)/\a=[ap (.lst (L.map nr)),ap (pb X Y W),ap (.bl d),ap (.int (cnt (oz d X Y W) L)),u,v,w,x]) (λK B=>?_) ?_
 ·erw[iA,riL,bH,aA];show oN nr L (λe a=>∃(u v w x:Option L2.R2.S),(∀b∈e,oz d X Y W b≠0)/\a=[ap (.lst (L.map nr)),ap (pb X Y W),ap (.bl d),ap (.int (cnt (oz d X Y W) e)),u,v,w,x]) ?_ ?_ #[ξ,ξ,ξ,ξ,η,bg]
  ·rintro e b td a Z ⟨u,v,w,x,l,rfl⟩ F hr I;have J:b∈L:=(by rw[Z];simp);let⟨ip,bs,N,lz,O⟩:=R b J;have l3:=ip.cvx.len;let⟨c1,c2,c3⟩:=Yx O s y A;generalize C:D.lst (L.map nr)=n;unfold DV nr;erw[kW,eG,kU,cA,aT,cK,true_and,aH,aI];show dN [ap n,ap (pb X Y W),ap (.bl d),ap (.int (cnt (oz d X Y W) e)),ap (pc b.1 b.2.1),ap (yb b.2.2),ap (pb X Y W),x] (λK f=>?_) ?_
   ·erw[dC,bH,aA,aB,aH,aI];show f
   show cV (λa=>∃g h i,((BL 9000 g/\BL 9000 h/\BL 9000 i)/\uk b.1 b.2.1 g h i=oz d X Y W b)/\a=[ap n,ap (pb X Y W),ap (.bl d),ap (.int (cnt (oz d X Y W) e)),ap (pc b.1 b.2.1),ap (yb b.2.2),ap (pb g h i),x]) (λK f=>?_) ?_
   ·cases d with
    |true=>
     erw[gN,cU,dC,cE,aE,aU,bH,aA,aB,aH,aI,if_true];show#[b.2.2,X,Y,W,bg,#[O,s,y,A],f _ #[_,_,_,#[#[c1.mono,c2.mono,c3.mono],by unfold oz;rw[υ rfl]],bg]]
    |false=>
     erw[gN,cU,bH,fB,aA,aB,aO,if_false];show f _ #[X,Y,W,#[#[s.mono,y.mono,A.mono],by unfold oz;rw[ω μ]],bg]
   rintro a ⟨g,h,i,⟨⟨d1,d2,d3⟩,ev⟩,rfl⟩;show dN [ap n,ap (pb X Y W),ap (.bl d),ap (.int (cnt (oz d X Y W) e)),ap (pc b.1 b.2.1),ap (yb b.2.2),ap (pb g h i),ap (.int (oz d X Y W b))] (λK f=>?_) ?_
   ·erw[dC,cE,aE,aU,bH,aA,aB,aH,aI];show#[b.1,b.2.1,g,h,i,bg,#[bs.mono,λz P=>#[(N z P).1.mono,(N z P).2.mono],ν,ν],#[d1,d2,d3],λM h1 h2=>?_];rw[Vm h1 h2,ev];show f
   have m:oz d X Y W b≠0->∀c∈e++[b],oz d X Y W c≠0:=λk c hc=>by
    rcases bQ.mp hc with z |z
    ·show l c z
    ·rw[bR.mp z];show k
   have q:=Ei (oz d X Y W) e b;have E:oz d X Y W b=0->Q .non:=λz=>T #[b,J,z];generalize oz d X Y W b=V at *;generalize hP:pc b.1 b.2.1=G;generalize hM:yb b.2.2=H;generalize ua:pb g h i=j;generalize hS:pb X Y W=SP;show cV (λa=>V≠0/\a=[ap n,ap SP,ap (.bl d),ap (.int (cnt (oz d X Y W) e)),ap G,ap H,ap j,ap (.int V)]) (λK f=>?_) ?_
   ·by_cases z:V=0
    ·subst z;nofun;show hr▸E rfl
    ·nofun;erw[z,decide_false,aO,if_false];show f _ #[z,bg]
   rintro a ⟨z,rfl⟩;nofun;subst C hS;by_cases o:V=1
   ·rw[υ o] at q;erw[o,decide_true,if_true];show I _ #[ap G,ap H,ap j,ap (.int 1),m z,?_];rw[q]
   ·rw[ω o] at q;erw[o,decide_false,aO,if_false];show I _ #[ap G,ap H,ap j,ap (.int V),m z,?_];rw[q]
  ·rintro a ⟨u,v,w,x,l,rfl⟩;show B _ #[u,v,w,x,l,bg]
 rintro a ⟨u,v,w,x,l,rfl⟩;nofun;show U l
end K37
def UU:FD:=λc Q=>∃a b:Int,c=[.int a,.int b]/\(0<a/\0<b)/\(BL 8000 a/\BL 8000 b)/\∀l,0<l->a∣l->b∣l->(∀m,a∣m->b∣m->l∣m)->Q (.int l)
def CU:ι UU (yF IJ) ["one","other"]:=by
 rintro o Q ⟨a,b,rfl,⟨g,h⟩,⟨i,f⟩,q⟩;rw[cM 0 rfl];unfold yF;nofun;show#[a,b,bg,?_];have s:=Cn (a:=a) (b:=b) ν;have j:=BL.gcd (a:=a) (b:=b) ν f;nofun;have k:BL 8000 (b.fdiv (cP a b:Nat)):=f.fdiv;show#[(j.mono).divOk ν,i.mulOk k,?_];have l:b.fdiv (cP a b:Nat)=b / (cP a b:Nat):=dR _ ν;have e:a*b.fdiv (cP a b:Nat)=(Bq a b:Nat):=by
  have c:((cP a b:Nat):Int)*(Bq a b:Nat)=a*b:=by
   have:=Int.gcd_mul_lcm a b;have z:((a*b).natAbs:Int)=a*b:=Int.natAbs_of_nonneg (dO (aW g h));rw[<-z,iK,<-this];push_cast;rfl
  have d:((cP a b:Nat):Int)*(b / (cP a b:Nat))=b:=jB (mX ..);rw[l];show fR (a:=((cP a b:Nat):Int)) ν ?_;rw[c,Int.mul_left_comm,d]
 rw[e];have n:(0:Int)<(Bq a b:Nat):=by
  have:Bq a b≠0:=Int.lcm_ne_zero ν ν;lia
 show q _ n (Int.dvd_lcm_left ..) (Int.dvd_lcm_right ..) λm c d=>Int.coe_lcm_dvd c d
abbrev Sp:=Int×Int×Int×Int
abbrev bA(s:Sp):D:=.tup [fr s.1 s.2.1,fr s.2.2.1 s.2.2.2]
structure n8(N:Int)(s:Sp)(z:Pt):Prop where
 qx:0<s.2.1
 qy:0<s.2.2.2
 dx:s.2.1∣N
 dy:s.2.2.2∣N
 ex:s.1*N=z.1*s.2.1
 ey:s.2.2.1*N=z.2*s.2.2.2
def Hq{N c M p q z:Int}(f:0<q)(b:q∣M)(e:p*N=z*q)(d:N=c*M):z=c*(p*(M / q)):=by
 let⟨u,rfl⟩:=b;rw[kL _ ν];show fH (a:=q) ν ?_;rw[<-e,d];grind
namespace K34
open K33
end K34
namespace K33
end K33
namespace K34
open K33
theorem PL{α:Type}(R:En->Prop)(si f:α->D)(t:α->Bool):∀(src:θ α),(∀a∈src,∀c,R c->∀K:En->Bool->Prop,(∀c1,R c1->(∀K2:D->Prop,K2 (f a)->te c1 K2)->K c1 (t a))->g (si a) c λc1=>tt c1 λb=>K c1 b)->∀{Q:θ D->Prop}
  (c:En) (acc:θ D),R c->Q (acc++(src.filter t).map f)->lK g tt te (src.map si) c acc Q
 | [],_,Q,c,acc,_,q=>by simpa [lK] using q
 |a::src,step,Q,c,acc,h,q=>by
  show g (si a) c λi=>tt i λb=>if b=ζ then te i λd=>lK g tt te (src.map si) i (acc++[d]) Q else lK g tt te (src.map si) i acc Q;show step a dL c h (λi b=>if b=ζ then te i λd=>lK g tt te (src.map si) i (acc++[d]) Q else lK g tt te (src.map si) i acc Q) λc1 j k=>?_;have rest:=λ(acc:θ D) (q:Q (acc++(src.filter t).map f))=>PL R si f t src (λa l=>step a (cR _ l)) c1 acc j q;cases e:t a with
  |true=>
   rw[υ rfl];show k _ (rest _ ?_);rw[nS,e] at q;simpa using q
  |false=>
   rw[ω cL];show rest _ ?_;rw[nS,e] at q;simpa using q
end K34
namespace K33
end K33
namespace K34
open K33
end K34
namespace K39
open K34 K33
def F_pieceS:FD:=λe Q=>∃(a:θ (Sp×Pt))(N:Int),e=[.lst (a.map λw=>bA w.1)]/\(0<N/\BL 500 N)/\a.length<64/\(∀w∈a,n8 N w.1 w.2/\BL 1000 w.1.1/\BL 1000 w.1.2.2.1) /\
 ∀(c M:Int)(f:Sp×Pt->Pt),0<c->0<M->N=c*M->(∀w∈a,w.2=i8 c (f w)) ->
  ((∃z T,t9 (a.map f) z T/\∀m b d,j_ M (z::T) m b d->Q (.tup [.int b,.tup (d.map pt)]))\/(N6 (a.map f)/\Q .non))
def pure_pieceS:ι F_pieceS (SJ JQ UU) ["spots","share","x","y"]:=by
 rintro ds Q ⟨j,N,rfl,⟨hN,T⟩,U,B,q⟩;rw[cM 3 rfl];unfold SJ;erw[gE,Ds,aN,cD,bK,bS];have f:∀{d:Int},d∣N->BL 500 d:=λ{d} V=>T.le (zP ν (gY.mpr V));show cV (λg=>g=[ap (.lst (j.map λw=>bA w.1)),ap (.int 1),ξ,ξ]) (λK D=>?_) ?_
 ·nofun;show D _ rfl
 rintro g rfl;show cV (λg=>∃(M:Int)(x y:Option L2.R2.S),(0<M/\M∣N/\∀w∈j,w.1.2.1∣M/\w.1.2.2.2∣M)/\g=[ap (.lst (j.map λw=>bA w.1)),ap (.int M),x,y]) (λK D=>?_) ?_
 ·nofun;show oN (λw=>bA w.1) j (λdone g=>∃(M:Int)(x y:Option L2.R2.S),(0<M/\M∣N/\∀w∈done,w.1.2.1∣M/\w.1.2.2.2∣M)/\g=[ap (.lst (j.map λw=>bA w.1)),ap (.int M),x,y]) ?_ ?_ #[1,ξ,ξ,#[μ,jC _,η],bg]
  ·rintro done w rest g e ⟨M,u,v,⟨s,C,m⟩,rfl⟩ F _ W;let⟨I,_,_⟩:=B w (by rw[e];simp);unfold GU;nofun;show#[M,_,bg,#[s,I.qx],#[(f C).mono,(f I.dx).mono],λl X Y Z l3=>?_];have O:=l3 N C I.dx;show#[l,_,bg,#[X,I.qy],#[(f O).mono,(f I.dy).mono],λk k0 P k2 k3=>?_];have Mk:=kK Y P;show W _ #[k,_,_,#[k0,k3 N O I.dy,λy o=>?_],bg];rcases bQ.mp o with o |o
   ·show#[kK (m y o).1 Mk,kK (m y o).2 Mk]
   ·rw[bR.mp o];show#[kK Z P,k2]
  ·rintro g ⟨M,u,v,hm,rfl⟩;show D _ #[M,u,v,hm,bg]
 rintro g ⟨M,x,y,⟨s,C,m⟩,rfl⟩;let⟨c,R⟩:=C;have c0:0<c:=by
  apply sA.mp;intro h;have:=dP (dO s) h;lia
 have A:BL 500 M:=f #[c,R];have E:N=c*M:=by rw[R,jO]
 nofun;show#[iY ε,?_];show nZ (λg=>∃a b,g=[a,b,ap (.int M)]) (λw:Sp×Pt=>bA w.1) (λw=>pt (w.1.1*(M / w.1.2.1),w.1.2.2.1*(M / w.1.2.2.2))) j ?_ #[_,_,bg] ?_
 ·rintro w i g ⟨a,b,rfl⟩ K' qg;let⟨I,G,H⟩:=B w i;have d1:=m w i;have p1:=I.qx;have p2:=I.qy;nofun;have J:BL 500 (M.fdiv w.1.2.1):=A.fdiv;have L:BL 500 (M.fdiv w.1.2.2.2):=A.fdiv;show#[((f I.dx).mono (n:=9000) μ).divOk ν,G.mulOk J,((f I.dy).mono (n:=9000) μ).divOk ν,H.mulOk L,?_];rw[dR _ ν,dR _ ν];show qg _ #[_,_,bg]
 ·have r:=q c M (λw=>(w.1.1*(M / w.1.2.1),w.1.2.2.1*(M / w.1.2.2.2))) c0 s E λw i=>by
   let⟨I,_,_⟩:=B w i;show nX (Hq I.qx (m w i).1 I.ex E) (Hq I.qy (m w i).2 I.ey E)
  show#[M,j.map λw=>(w.1.1*(M / w.1.2.1),w.1.2.2.1*(M / w.1.2.2.2)),by rw[pts,cO];rfl,#[s,A.mono],λz hz=>?_,~~~U,r];let⟨w,i,rfl⟩:=bD.mp hz;let⟨I,G,H⟩:=B w i;have J:BL 500 (M / w.1.2.1):=by rw[<-dR _ (dO I.qx)];show A.fdiv
  have L:BL 500 (M / w.1.2.2.2):=by rw[<-dR _ (dO I.qy)];show A.fdiv
  show#[(G.mul J).mono,(H.mul L).mono]
def UK(h:b∣a*d)(c:cP a b=1):b∣d:=by
 have e:=gY.mpr h;rw[iK] at e;show gY.mp (jZ (show EX b.natAbs a.natAbs by rw[Nat.coprime_comm];show c) e)
def low_dvd(l:j3 a b p q):q∣b:=UK (a:=p) #[a,by rw[l.worth,jO]] l.cop
def low_top(d:0<b)(l:j3 a b p q):p.natAbs<=a.natAbs:=by
 let⟨k,c⟩:=low_dvd l;have f:k≠0:=λz=>by rw[z,MA] at c;lia
 have e:a=p*k:=fH (a:=q) (by have:=l.pos;lia) (by rw[<-l.worth,c];grind);rw[e,iK];show sH _ ν
abbrev H7(s t:P2)(b:Bool)(d:P2):θ Sp:=match b with
 |true=>[(0,1,0,1),(1,1,s.1,s.2),(1,1,t.1,t.2)]
 |false=>[(0,1,0,1),(1,1,t.1,t.2),(0,1,d.1,d.2)]
structure vo(p:P2):Prop where
 pos:0<p.2
 top:p.2<=40
 bl:BL 250 p.1
def vo.bot(h:vo p):BL 6 p.2:=BL.of_lt (m:=6) (by have:=h.pos;lia) (by have:=h.top;lia)
def sq_cvx:ou [((0:Int),(0:Int)),(1,0),(1,1),(0,1)]:=K36.cvxB_ok γ
end K39
abbrev jM(R:θ (θ Pt)):θ lF:=(R.map oD).flatten
theorem flat_len{α β:Type}(f:α->θ β)(n:Nat):∀(l:θ α),(∀x∈l,(f x).length<=n)->((l.map f).flatten).length<=n*l.length
 | [],_=>dZ _
 |x::l,h=>by
  have b:=h x (.head _);have c:=flat_len f n l λy a=>h y (.tail _ a);rw[aN,iW,bI,aT,Nat.mul_succ];lia
def Dz:FD:=λa Q=>∃s:lF,a=[ut s]/\Q (.int (o8 s))
def ZM:ι Dz SN ["side"]:=by
 rintro a Q ⟨s,rfl,q⟩;rw[cM 0 rfl];unfold SN;nofun;show q
structure dV(s:lF):Prop where
 x1:BL 200 s.1.1
 y1:BL 200 s.1.2
 x2:BL 200 s.2.1
 y2:BL 200 s.2.2
def B5(z w:Pt):oO [z.1,z.2] [w.1,w.2]=decide (j4 z w):=by
 unfold j4;erw[oO];by_cases h:z.1=w.1
 ·rw[υ h];by_cases a:z.2=w.2
  ·rw[υ a];simp[h,a]
  ·rw[ω a];simp[h]
 ·rw[ω h];simp[h]
def Yn{L:θ IP}{a:θ (θ Int)}(p:a.Perm (L.map λz=>[z.1,z.2]))(h:a.Pairwise λx y=>oO y x=χ):∃M:θ IP,M.Perm L/\a.map qJ=M.map pt/\M.Pairwise λx y=>¬j4 y x:=by
 have c:∀b∈a,[b.getD 0 0,b.getD 1 0]=b:=λb d=>by
  let⟨z,_,rfl⟩:=bD.mp (p.mem_iff.mp d);rfl
 show#[a.map λl=>(l.getD 0 0,l.getD 1 0),?_,?_,?_]
 ·have:=p.map λl:θ Int=>(l.getD 0 0,l.getD 1 0);rw[cO] at this;have e:((λl:θ Int=>((l.getD 0 0,l.getD 1 0):IP)) ∘ λz:IP=>[z.1,z.2])=id:=by funext z;rfl
  rw[e,vA] at this;show this
 ·rw[cO];show gW λb d=>?_;show D.tup (b.map .int)=D.tup [.int (b.getD 0 0),.int (b.getD 1 0)]
  conv=>lhs;rw[<-c b d]
  rfl
 ·rw[gG];show h.imp_of_mem λ{x y} f g k=>?_;rw[<-c x f,<-c y g] at k;have:=B5 (y.getD 0 0,y.getD 1 0) (x.getD 0 0,x.getD 1 0);rw[k] at this;show of_decide_eq_false this.symm
theorem Pa:∀(M:θ IP),iF (λa b=>D.tup [a,b]) (alt ((M.map pt).drop 0)) (alt ((M.map pt).drop 1))=(vK M).map λz=>D.tup [pt z.1,pt z.2]
 | []=>by simp[alt,vK]
 | [x]=>by simp[alt,vK]
 |x::y::r=>by
  have c:=Pa r;erw[EU] at c⊢;have e:alt (((x::y::r).map pt).drop 1)=pt y::alt ((r.map pt).drop 1):=by
   cases r with
   |nil=>simp[alt]
   |cons w r=>simp[alt]
  have d:alt ((x::y::r).map pt)=pt x::alt (r.map pt):=by simp[alt]
  rw[e,d,lI,c];rfl
def P3(n:Nat)(z w:IP):pi (k5 (n+1)) [.int z.1,.int z.2] [.int w.1,.int w.2]=ψ (decide (z=w)):=by
 let⟨a,b⟩:=z;let⟨c,d⟩:=w;erw[k5,pi];congr 1;by_cases e:a=c <;> by_cases f:b=d <;> simp[e,f]
def Sj(B c:Int)(z:IP×IP)(d:D):Prop:=∃a b e f g h i j,(j3 z.1.1 B a b/\j3 z.1.2 B e f/\j3 z.2.1 B g h/\j3 z.2.2 B i j)/\d = .tup [.int c,fr a b,fr e f,fr g h,fr i j]
inductive jk(B c:Int):List (IP×IP)->List D->Prop
 |nil:jk B c [] []
 |cons {z:IP×IP} {d:D} {zs:List (IP×IP)} {ds:List D} (h:Sj B c z d) (t:jk B c zs ds):jk B c (z::zs) (d::ds)
def jk.snoc{B c:Int}{a:θ (IP×IP)}(t:jk B c a ds)(h:Sj B c z d):jk B c (a++[z]) (ds++[d]):=by
 induction t with
 |nil=>show .cons h .nil
 |cons b _ e=>show .cons b e
def jk.length{B c:Int}{a:θ (IP×IP)}(t:jk B c a ds):a.length=ds.length:=by
 induction t with
 |nil=>rfl
 |cons _ _ b=>rw[aT,aT,b]
abbrev kept(M:θ IP):θ (IP×IP):=(vK M).filter λz=>decide (z.1≠z.2)
theorem YI{α:Type}:∀L:θ α,(vK L).length<=L.length
 | []=>aY _
 | [x]=>dZ _
 |x::y::r=>by have:=YI r;rw[vK,aT,aT,aT];lia
structure vj(S:List lF)(c:Int)(B:Int)(M:List IP)(rows:List D):Prop where
 pos:0<B
 dv:∀s∈S,o8 s∣B
 bB:BL 50 B
 perm:M.Perm (S.map (tz B c))
 up:tD M
 rows:jk B c (kept M) rows
structure se(R:List (List Pt))(o:Int):Prop where
 len:R.length<=3
 each:∀g∈R,g.length<=5
 near:∀s∈jM R,o<=s.1.1/\s.2.1<=o+5
 bd:∀s∈jM R,dV s
 unc:∀c,Ea (jM R) c
inductive AllB(Sd:List lF):List Int->List D->Prop
 |nil:AllB Sd [] []
 |cons {c B:Int} {M:List IP} {r rows:List D} {cs:List Int} (h:vj (Sd.filter (cov c)) c B M r) (t:AllB Sd cs rows):AllB Sd (c::cs) (r++rows)
def F_bands:FD:=λd Q=>∃(R:θ (θ Pt))(o:Int),d=[sN R]/\se R o/\∀b a,b.Pairwise (· < ·)->(∀c,c∈b↔∃s∈jM R,cov c s=ζ)->AllB (jM R) b a->b.length<=5->Q (.lst a)
def Cv(f:0<M)(g:0<q)(a:cP p q=1)(w:p*M=v*q):j3 v M p q:=by
 have h:q∣M:=by
  have d:q.natAbs∣p.natAbs*M.natAbs:=by
   rw[<-iK,w,iK];show Nat.dvd_mul_left ..
  show gY.mp (jZ (show EX q.natAbs p.natAbs from by
   have:Nat.gcd p.natAbs q.natAbs=1:=a;rw[EX,wR];show this) d)
 have j:q<=M:=pB f h;show#[g,a,w,?_,ν];have e:p.natAbs*M.natAbs=v.natAbs*q.natAbs:=by rw[<-iK,w,iK]
 have b:q.natAbs<=M.natAbs:=ν
 have i:0<M.natAbs:=ν
 apply Nat.le_of_mul_le_mul_right (c:=M.natAbs) ?_ i;rw[e];show wD _ b
def j3.scale(h:j3 a b p q)(c:0<k)(d:0<b):j3 (a*k) (b*k) p q:=
 Cv (aW d c) h.pos h.cop (by rw[<-lR,h.worth];grind)
def j3.minus{M v w a b c d p q:Int}(g:0<M)(e:j3 v M a b)(f:j3 w M c d)(h:j3 (a*d-c*b) (b*d) p q):j3 (v-w) M p q:=by
 show Cv g h.pos h.cop ?_;have i:0<b*d:=aW e.pos f.pos;show fH (a:=b*d) ν ?_;have j:=e.worth;have k:=f.worth;have l:=h.worth;grind
def j3.bl(h:j3 v M p q)(a:BL n v)(b:BL n M):BL n p/\BL n q:=#[a.le h.lea,b.le h.leb]
structure Row where
 x:Int
 l0:Int×Int
 l1:Int×Int
 u0:Int×Int
 u1:Int×Int
abbrev vJ(r:Row):D:=.tup [.int r.x,fr r.l0.1 r.l0.2,fr r.l1.1 r.l1.2,fr r.u0.1 r.u0.2,fr r.u1.1 r.u1.2]
structure RowV(M:Int)(r:Row)(a b c d:Int):Prop where
 l0:j3 a M r.l0.1 r.l0.2
 l1:j3 b M r.l1.1 r.l1.2
 u0:j3 c M r.u0.1 r.u0.2
 u1:j3 d M r.u1.1 r.u1.2
 ba:BL 400 a
 bb:BL 400 b
 bc:BL 400 c
 bd:BL 400 d
def N0:FD:=λe Q=>∃(M:Int)(r:Row)(a b c d:Int),e=[vJ r]/\(0<M/\BL 400 M)/\RowV M r a b c d/\∀p q,j3 (c-a) M p q->Q (fr p q)
def N5:FD:=λe Q=>∃(M:Int)(r:Row)(a b c d:Int),e=[vJ r]/\(0<M/\BL 400 M)/\RowV M r a b c d/\∀p q,j3 (d-b) M p q->Q (fr p q)
def QL:ι N0 (GR kB) ["row"]:=by
 rintro k Q ⟨M,r,a,b,c,d,rfl,⟨h,e⟩,V,q⟩;rw[cM 0 rfl];unfold GR;nofun;show UI (qQ (j:=3) rfl) ?_;have f:=V.u0.bl V.bc e;have g:=V.l0.bl V.ba e;show#[_,_,_,_,bg,#[V.u0.pos,V.l0.pos],#[f.1.mono,f.2.mono,g.1.mono,g.2.mono],λp i L=>q p i (V.u0.minus h V.l0 L)]
def NX:ι N5 (DZ kB) ["row"]:=by
 rintro k Q ⟨M,r,a,b,c,d,rfl,⟨h,e⟩,V,q⟩;rw[cM 0 rfl];unfold DZ;nofun;show UI (qQ (j:=4) rfl) ?_;have f:=V.u1.bl V.bd e;have g:=V.l1.bl V.bb e;show#[_,_,_,_,bg,#[V.u1.pos,V.l1.pos],#[f.1.mono,f.2.mono,g.1.mono,g.2.mono],λp i L=>q p i (V.u1.minus h V.l1 L)]
namespace K23
structure t8(R:List (List Pt)):Prop where
 len:R.length<=5
 each:∀g∈R,g.length<=10
 wide:∀s∈jM R,o8 s<=40
def t8.pos:∀s∈jM R,0<o8 s:=λs a=>by
 let⟨l,b,a⟩:=lV.mp a;let⟨g,c,rfl⟩:=bD.mp b;show(Rt a).2
def t8.slen(o:t8 R):(jM R).length<=50:=by
 have:=flat_len oD 10 R λg a=>dY (Rr g) (o.each g a);have:=o.len;show((R.map oD).flatten).length<=50;lia
def Zw{s:lF}(h:o8 s<=40):(qf s).length<=40:=by unfold qf;rw[aJ,iE];lia
def F_byCol:FD:=λc Q=>∃R:θ (θ Pt),c=[sN R]/\t8 R/\∀a b,wq (jM R) a b->Q (.dct a b)
def pure_sides_by_column:ι F_byCol (yG OQ) ["rings","columns","ring","side","column"]:=by
 rintro V Q ⟨R,rfl,ok,q⟩;rw[cM 4 rfl];unfold yG;have fits:∀E:θ Ev,(∃o,(((jM R).map qf).flatten)=E++o)->E.length<=2000:=λE ⟨o,e⟩=>by
  have y:=flat_len qf 40 (jM R) λs z=>Zw (ok.wide s z);have A:=ok.slen;have h3:=wD 40 A;rw[e,bI] at y;lia
 show cV (λa=>a=[ap (sN R),ψ (.dcl (kvsOf [])),ξ,ξ,ξ]) (λK l=>?_) ?_
 ·nofun;show l _ rfl
 rintro a rfl;show cV (λa=>∃u v w,a=[ap (sN R),ψ (.dcl (kvsOf (((jM R).map qf).flatten))),u,v,w]) (λK l=>?_) ?_
 ·erw[iA,riL,bH,aA];show mQ (λj a=>∃done b:θ (θ Pt),R=done++b/\j=b.map pts/\∃u v w,a=[ap (sN R),ψ (.dcl (kvsOf (((jM done).map qf).flatten))),u,v,w]) ?_ ?_ _ _ #[[],R,bg,bg,_,_,_,bg]
  ·rintro x j a ⟨done,b,h,c,u,v,w,rfl⟩ F W X B Y;cases b with
   |nil=>cases c
   |cons g b=>
    rw[aN] at c;injection c with ex c;subst ex c;have C:g∈R:=(by rw[h];show cN _ (.head _));unfold uG;erw[cA,iA,riL,cE,aE,aU,bH,aA,aB,aH,aI];show#[g,bg,dY (ok.each g C) μ,?_];fail;have D:jM R=(jM done++oD g)++jM b:=(by rw[h];simp[jM]);show mQ (λj a=>∃f d:θ lF,oD g=f++d/\j=d.map ut/\∃v w,a=[ap (sN R),ψ (.dcl (kvsOf (((jM done++f).map qf).flatten))),ap (pts g),v,w]) ?_ ?_ _ _ #[[],oD g,bg,bg,v,w,by rw[cQ]]
    ·rintro x j a ⟨f,d,k,c,v,w,rfl⟩ Z G H m wg;cases d with
     |nil=>cases c
     |cons s d=>
      rw[aN] at c;injection c with ex c;subst ex c;unfold uF;erw[cA,iA,Xu,aE,aU,r2,aQ,rC,iT,jS,aA,aB,aH,aI];have I:(s.2.1-s.1.1).toNat=(o8 s).toNat:=rfl;rw[I];show uW s.1.1 (o8 s).toNat (λi a=>∃w,a=[ap (sN R),ψ (.dcl (kvsOf (((jM done++f).map qf).flatten++(qf s).take i))),ap (pts g),ap (ut s),w]) ?_ ?_ _ #[w,by rw[mG,cQ]]
      ·rintro i a hi ⟨w,rfl⟩ F3 J L n M;have N:(qf s)[i]?=ψ (s.1.1+(i:Int),s):=(by unfold qf;rw[bC,qZ hi];rfl);have O:(qf s).take (i+1)=(qf s).take i++[(s.1.1+(i:Int),s)]:=(by rw[gD,N];rfl);obtain⟨⟨k1,P⟩,_⟩:=Vh (((jM done++f).map qf).flatten++(qf s).take i);have T:=fits (((jM done++f).map qf).flatten++(qf s).take i) #[(qf s).drop i++(d.map qf).flatten++((jM b).map qf).flatten,by
        rw[D,k];erw[aX,aN,jW,iW,fK];rw[<-fK ((qf s).take i),mO]]
       unfold uE;erw[cA,Og,bH,aA,aB,aH,aI];show#[iY ν,λp U=>iY (by have:=P p U;lia),?_];show n _ #[ap (.int (s.1.1+(i:Int))),?_];rw[O,<-fK,Ga]
      ·rintro a ⟨w,rfl⟩;show m _ #[f++[s],d,by rw[k];simp,bg,ap (ut s),w,?_];have:(qf s).take (o8 s).toNat=qf s:=iS (by unfold qf;simp);rw[this,<-fK,aX,jW];simp
    ·rintro a ⟨f,d,k,c,v,w,rfl⟩;have:d=[]:=(by cases d with |nil=>rfl |cons _ _=>cases c);subst this;rw[cQ] at k;show B _ #[done++[g],b,by rw[h];simp,bg,ap (pts g),v,w,?_];rw[<-k];simp[jM]
  ·rintro a ⟨done,b,h,c,u,v,w,rfl⟩;have:b=[]:=(by cases b with |nil=>rfl |cons _ _=>cases c);subst this;rw[cQ] at h;rw[<-h];show l _ #[u,v,w,bg]
 rintro a ⟨u,v,w,rfl⟩;erw[sC,S.fz,eP,bH,aA,aB,aH,aI];show q _ _ (Z3 (jM R) t8.pos)
def Iw:FD:=λb Q=>∃a:θ Int,b=[il a]/\a.length<=10/\(∀w∈a,0<w/\w<=40)/\∀B,0<B->(∀w∈a,w∣B)->BL 60 B->Q (.int B)
structure dV(s:lF):Prop where
 x1:BL 210 s.1.1
 y1:BL 210 s.1.2
 x2:BL 210 s.2.1
 y2:BL 210 s.2.2
def F_hgt:FD:=λa Q=>∃(s:lF)(t B:Int),a=[ut s,.int t,.int B]/\(dV s/\o8 s≠0/\BL 212 t/\BL 60 B)/\Q (.int (hB B s t))
def pure_height_at:ι F_hgt (OE Dz) ["side","thread","bottom","left","width","climb"]:=by
 rintro h Q ⟨s,t,B,rfl,⟨b,f,e,g⟩,q⟩;rw[cM 3 rfl];unfold OE;have c:BL 211 (o8 s):=b.x2.sub b.x1;show cV (λa=>a=[ap (ut s),ap (.int t),ap (.int B),ap (pt s.1),ξ,ξ]) (λK d=>?_) ?_
 ·nofun;show d _ rfl
 rintro a rfl;show cV (λa=>a=[ap (ut s),ap (.int t),ap (.int B),ap (pt s.1),ap (.int (o8 s)),ξ]) (λK d=>?_) ?_
 ·erw[dC,cE,aE,aU,bH,aA,aB,aH,aI];show#[s,bg,d _ rfl]
 rintro a rfl;nofun;show#[(b.y2.sub b.y1).mulOk (e.sub b.x1),b.y1.mulOk c,(c.mono).divOk f,?_,q];show((b.y1.mul c).add ((b.y2.sub b.y1).mul (e.sub b.x1))).mulOk (g.fdiv)
structure eW(S:List lF)(c B:Int):Prop where
 len:S.length<=10
 bd:∀s∈S,dV s
 ok:∀s∈S,0<o8 s
 cb:BL 210 c
 pos:0<B
 dv:∀s∈S,o8 s∣B
 bB:BL 60 B
def F_ordH:FD:=λa Q=>∃(S:θ lF)(c B:Int),a=[OG S,.int c,.int B]/\eW S c B/\(∀x∈S.map (tz B c),∀y∈S.map (tz B c),x.1<y.1->x.2<=y.2)/\∀M:θ IP,M.Perm (S.map (tz B c))->tD M->Q (pts M)
def pure_ordered_heights:ι F_ordH (yE F_hgt) ["sides","column","bottom","heights","lower","upper"]:=by
 rintro ds Q ⟨k,c,B,rfl,ok,C,q⟩;rw[cM 3 rfl];unfold yE;show cV (λd=>d=[ap (OG k),ap (.int c),ap (.int B),ψ (.own ((k.map (tz B c)).map pt)),ξ,ξ]) (λK m=>?_) ?_
 ·nofun;show#[iY (by rw[aJ];have:=ok.len;lia),?_];show nZ (λd=>∃a,d=[a,ap (.int c),ap (.int B)]) ut (λs=>pt (tz B c s)) k ?_ #[_,bg] ?_
  ·rintro s E d ⟨a,rfl⟩ K' O;nofun;have w0:=ok.ok s E;show#[s,c,B,bg,#[ok.bd s E,ν,ok.cb.mono,ok.bB],s,c+1,B,bg,#[ok.bd s E,ν,((ok.cb.add (BL.const (n:=1) (i:=1))).mono),ok.bB],?_];nofun;show O _ #[_,bg]
  ·have e:k.map (λs=>pt (tz B c s))=(k.map (tz B c)).map pt:=(by rw[cO];rfl);rw[e];show m _ rfl
 rintro d rfl;show cV (λd=>∃M:θ IP,(M.Perm (k.map (tz B c))/\tD M)/\d=[ap (OG k),ap (.int c),ap (.int B),ψ (.own (M.map pt)),ξ,ξ]) (λK m=>?_) ?_
 ·erw[oY,La,aQ,aA,aB,aH,aI];show#[(k.map (tz B c)).map λz=>[z.1,z.2],by rw[cO (g:=qJ)];rfl,by rw[aJ,aJ];have:=ok.len;lia,λns h=>?_,λP A l=>?_]
  ·let⟨z,_,rfl⟩:=bD.mp h;show λe=>by cases e
  ·let⟨M,w,G,h3⟩:=Yn A l;rw[G];show m _ #[M,#[w,Xw h3 λx R y T=>C x (w.mem_iff.mp R) y (w.mem_iff.mp T)],bg]
 rintro d ⟨M,⟨A,H⟩,rfl⟩;show cV (λd=>∃u v,d=[ap (OG k),ap (.int c),ap (.int B),ap (pts M),u,v]) (λK m=>?_) ?_
 ·erw[sC,L2.R2.S.fz,iA,SO,bH,aQ,LJ,tL,lP,rC,aA,aB,aH,aI];have U:∃l:θ (IP×IP),iF (λa b=>D.tup [a,b]) (M.map pt) (cutD (M.map pt) (ψ 1) ξ)=l.map (λp=>D.tup [pt p.1,pt p.2])/\∀p∈l,p.1.2<=p.2.2:=by
   have L:cutD (M.map pt) (ψ 1) ξ=(M.drop 1).map pt:=by
    cases M with
    |nil=>rfl
    |cons a r=>show xC (j:=1) η
   rw[L];clear L A m
   induction M with
   |nil=>show#[[],bg,λp h=>(by cases h)]
   |cons a r V=>
    cases r with
    |nil=>show#[[],bg,λp h=>(by cases h)]
    |cons b r=>
     let⟨l,w,G⟩:=V (iO.mp H).2;show#[(a,b)::l,?_,λp I=>?_]
     ·show D.tup [pt a,pt b]::iF (λa b=>D.tup [a,b]) ((b::r).map pt) (((b::r).drop 1).map pt)=_;rw[w];rfl
     ·rcases aV.mp I with rfl |I
      ·show((iO.mp H).1 b (.head _)).2
      ·show G p I
  let⟨l,W,X⟩:=U;rw[W];show mQ (λN d=>∃f:θ (IP×IP),(∀p∈f,p.1.2<=p.2.2)/\N=f.map (λp=>D.tup [pt p.1,pt p.2])/\∃u v,d=[ap (OG k),ap (.int c),ap (.int B),ap (pts M),u,v]) ?_ ?_ _ _ #[l,X,bg,_,_,bg]
  ·rintro x N d ⟨f,J,o,u,v,rfl⟩ F hr hb Y hc;cases f with
   |nil=>cases o
   |cons p f=>
    rw[aN] at o;injection o with ex o;subst ex o;have le:=J p (.head _);unfold uD;nofun;have:¬p.2.2<p.1.2:=ν;erw[this,decide_false,if_false,aO];show Y _ #[f,λz Z=>J z (.tail _ Z),bg,_,_,bg]
  ·rintro d ⟨f,J,o,u,v,rfl⟩;show m _ #[u,v,bg]
 rintro d ⟨u,v,rfl⟩;erw[sC,L2.R2.S.fz,eP,bH,aA,aB,aH,aI];show q M A H
structure zb(S:List lF)(c:Int):Prop where
 len:S.length<=10
 bd:∀s∈S,dV s
 ok:∀s∈S,0<o8 s
 wide:∀s∈S,o8 s<=40
 cb:BL 210 c
 unc:∀B,0<B->(∀s∈S,o8 s∣B)->∀x∈S.map (tz B c),∀y∈S.map (tz B c),x.1<y.1->x.2<=y.2
structure vj(S:List lF)(c:Int)(B:Int)(M:List IP)(rows:List D):Prop where
 pos:0<B
 dv:∀s∈S,o8 s∣B
 bB:BL 60 B
 perm:M.Perm (S.map (tz B c))
 up:tD M
 rows:jk B c (kept M) rows
inductive AllB(Sd:List lF):List Int->List D->Prop
 |nil:AllB Sd [] []
 |cons {c B:Int} {M:List IP} {r rows:List D} {cs:List Int} (h:vj (Sd.filter (cov c)) c B M r) (t:AllB Sd cs rows):AllB Sd (c::cs) (r++rows)
def AllB.snoc(t:AllB Sd cs rows){c B:Int}(h:vj (Sd.filter (cov c)) c B M r):AllB Sd (cs++[c]) (rows++r):=by
 induction t with
 |nil=>have:=AllB.cons h .nil;simpa using this
 |cons a _ b=>rw[fK];show .cons a b
def vj.rlen{c B:Int}(h:vj Sd c B M r):r.length<=Sd.length:=by
 rw[<-h.rows.length];have a:=pF (λz:IP×IP=>decide (z.1≠z.2)) (vK M);have b:=YI M;have h3:=h.perm.length_eq;rw[aJ] at h3;show((vK M).filter λz=>decide (z.1≠z.2)).length<=_;lia
def AllB.rlen(t:AllB Sd cs rows):rows.length<=cs.length*Sd.length:=by
 induction t with
 |nil=>show dZ _
 | @cons c B M r rows cs h t a=>
  have b:=h.rlen;have d:=pF (cov c) Sd;rw[bI,aT,Nat.succ_mul];lia
def F_colB:FD:=λb Q=>∃(S:θ lF)(c:Int),b=[OG S,.int c]/\zb S c/\∀B M a,vj S c B M a->Q (.lst a)
def pure_column_bands_G(hG:∀ds Q,Iw ds Q->G ds Q):ι F_colB (vY G F_ordH pK Dz) ["sides","column","bottom","heights","rows","low","up","edges"]:=by
 rintro ds Q ⟨g,c,rfl,ok,q⟩;rw[cM 6 rfl];unfold vY;show cV (λb=>∃B,(0<B/\(∀s∈g,o8 s∣B)/\BL 60 B)/\b=[ap (OG g),ap (.int c),ap (.int B),ξ,ξ,ξ,ξ,ξ]) (λK y=>?_) ?_
 ·nofun;show#[iY (by rw[aJ];have:=ok.len;lia),?_];show nZ (λb=>∃a,b=[a]) ut (λs=>.int (o8 s)) g ?_ #[_,bg] ?_
  ·rintro s J b ⟨a,rfl⟩ K' P;erw[cA,cE,aE,aU,bH,aA,aH];show#[s,bg,P _ #[_,bg]]
  ·show hG _ _ #[g.map o8,by show _=[D.lst ((g.map o8).map .int)];rw[cO];rfl,by rw[aJ];show ok.len,λw hw=>?_,λB h1 h2 h3=>?_]
   ·let⟨s,J,rfl⟩:=bD.mp hw;show#[ok.ok s J,ok.wide s J]
   ·show y _ #[B,#[h1,λs J=>h2 _ (eD J),h3],bg]
 rintro b ⟨B,⟨A,C,R⟩,rfl⟩;show cV (λb=>∃M:θ IP,(M.Perm (g.map (tz B c))/\tD M)/\b=[ap (OG g),ap (.int c),ap (.int B),ap (pts M),ξ,ξ,ξ,ξ]) (λK y=>?_) ?_
 ·erw[dC,cE,aE,aU,bH,aA,aB,aH,aI];show#[g,c,B,bg,#[ok.len,ok.bd,ok.ok,ok.cb,A,C,R],ok.unc B A C,λM L U=>y _ #[M,#[L,U],bg]]
 rintro b ⟨M,⟨L,U⟩,rfl⟩;have ml:M.length<=10:=by rw[L.length_eq,aJ];show ok.len
 show cV (λb=>b=[ap (OG g),ap (.int c),ap (.int B),ap (pts M),ψ (.own []),ξ,ξ,ξ]) (λK y=>?_) ?_
 ·nofun;show y _ rfl
 rintro b rfl;show cV (λb=>∃d u v w,jk B c (kept M) d/\b=[ap (OG g),ap (.int c),ap (.int B),ap (pts M),ψ (.own d),u,v,w]) (λK y=>?_) ?_
 ·erw[iA,SO,Rl,aQ,aA,aB];rw[Pa M];have V:(vK M).length<=10:=dY (YI M) ml;generalize hT:vK M=T at V;show mQ (λxs b=>∃done f:θ (IP×IP),T=done++f/\xs=f.map (λz=>D.tup [pt z.1,pt z.2])/\∃d u v w,jk B c (done.filter λz=>decide (z.1≠z.2)) d/\b=[ap (OG g),ap (.int c),ap (.int B),ap (pts M),ψ (.own d),u,v,w]) ?_ ?_ _ _ #[[],T,bg,bg,[],ξ,ξ,ξ,.nil,bg]
  ·rintro x xs b ⟨done,f,I,E,d,u,v,w,H,rfl⟩ F hr hb hn hc;cases f with
   |nil=>cases E
   |cons z f=>
    rw[aN] at E;injection E with ex E;subst ex E;have rl:d.length<=10:=by
     rw[<-H.length];have h1:=pF (λz:IP×IP=>decide (z.1≠z.2)) done;rw[I] at V;simp at V;lia
    unfold yC;erw[kW,eG,cA,kU,Hr,aH,aI,aT,cK,true_and];erw[gN,cU,r2,aQ,dNe,aA,aB,P3,true_and];by_cases N:z.1=z.2
    ·erw[N,decide_true,dX,aO,if_false,fB];show hn _ #[done++[z],f,by rw[I];simp,bg,d,ap (pt z.2),ap (pt z.2),w,?_,bg];rw[fZ];simpa [N] using H
    ·erw[N,decide_false,lZ,if_true];show cV (λb=>∃h i j k l m n o,(j3 z.1.1 B h i/\j3 z.1.2 B j k/\j3 z.2.1 B l m/\j3 z.2.2 B n o)/\b=[ap (OG g),ap (.int c),ap (.int B),ap (pts M),ψ (.own d),ap (pt z.1),ap (pt z.2),ψ (.own [fr h i,fr j k,fr l m,fr n o])]) (λK' P=>?_) ?_
     ·have O:B≠0/\BL 9000 B:=#[ν,R.mono];nofun;show#[η,?_];show#[_,_,bg,O,λh i W=>#[_,_,bg,O,λj k X=>#[_,_,bg,O,λl m Y=>#[_,_,bg,O,λn o Z=>?_]]]];show P _ #[h,i,j,k,l,m,n,o,#[W,X,Y,Z],bg]
     rintro b ⟨h,i,j,k,l,m,n,o,⟨W,X,Y,Z⟩,rfl⟩;nofun;show#[iY μ,iY ν,?_];show hn _ #[done++[z],f,by rw[I];simp,bg,d++[.tup [.int c,fr h i,fr j k,fr l m,fr n o]],ap (pt z.1),ap (pt z.2),ψ (.own [fr h i,fr j k,fr l m,fr n o]),?_,bg];rw[fZ];have e:[z].filter (λz:IP×IP=>decide (z.1≠z.2))=[z]:=(by simp[N]);rw[e];show H.snoc #[h,i,j,k,l,m,n,o,#[W,X,Y,Z],bg]
  ·rintro b ⟨done,f,I,E,d,u,v,w,H,rfl⟩;have:f=[]:=(by cases f with |nil=>rfl |cons _ _=>cases E);subst this;rw[cQ] at I;show y _ #[d,u,v,w,?_,bg];show jk B c ((vK M).filter λz=>decide (z.1≠z.2)) d;rw[hT,I];show H
 rintro b ⟨d,u,v,w,H,rfl⟩;erw[sC,L2.R2.S.fz,eP,bH,aA,aB,aH,aI];show q B M d #[A,C,R,L,U,H]
theorem walk_app:∀(x y:θ Pt)(a:Pt),jU a (x++y)=jU a x++jU (AY a x) y
 | [],y,a=>rfl
 |b::x,y,a=>by
  show sd a b++jU b (x++y)=(sd a b++jU b x)++jU (AY b x) y;rw[walk_app x y b,fK]
def Oo(a b:Pt):sd a b=sd b a:=by
 unfold sd;rcases pL a.1 b.1 with h |h |h
 ·rw[υ h,ω ν,υ h]
 ·rw[ω ν,ω ν,ω ν,ω ν]
 ·rw[ω ν,υ h,υ h]
def sd_same(h:a.1=b.1):sd a b=[]:=by unfold sd;rw[ω ν,ω ν]
theorem Ik:∀(r:θ Pt)(a z:Pt),(jU a (r++[z])).Perm (jU z (r.reverse++[a]))
 | [],a,z=>by
  change (sd a z++[]).Perm (sd z a++[]);rw[Oo]
 |b::r,a,z=>by
  rw[pP,walk_app (r.reverse++[b]) [a],HI];show(sd a b++jU b (r++[z])).Perm (_++(sd b a++[]));rw[cQ,Oo b a];show(mM _ (Ik r b z)).trans tZ
def Lj(h0:u.1=d.1)(a:(AY u us).1=(AY d ds).1):(oD ((u::us)++(d::ds).reverse)).Perm (jU u us++jU d ds):=by
 have e:oD ((u::us)++(d::ds).reverse)=jU u us++(jU (AY u us) (ds.reverse++[d])++jU d [u]):=by
  show jU u ((us++(d::ds).reverse)++[u])=_;rw[pP,fK,walk_app us,walk_app (ds.reverse++[d]) [u],HI]
 rw[e,show jU d [u]=sd d u++[] from rfl,sd_same h0.symm,cQ,cQ];show mM _ ((Ik ds d (AY u us)).symm.trans ?_);rw[walk_app ds [AY u us],show jU (AY d ds) [AY u us]=sd (AY d ds) (AY u us)++[] from rfl,sd_same a.symm,cQ,cQ]
def T(ts:θ Int)(i:Nat):Int:=ts.getD i 0
def Hh(hss:θ (θ Int))(z j:Nat):Int:=(hss.getD z []).getD j 0
def spot(ts:θ Int)(hss:θ (θ Int))(j z:Nat):Pt:=(T ts z,Hh hss z j)
def s9(ts:θ Int)(hss:θ (θ Int))(j:Nat):θ Pt:=(cF ts.length).map (spot ts hss j)
def sdz(ts:θ Int)(hss:θ (θ Int))(z j:Nat):lF:=(spot ts hss j z,spot ts hss j (z+1))
def csd(ts:θ Int)(hss:θ (θ Int))(j:Nat):θ lF:=(cF (ts.length-1)).map λz=>sdz ts hss z j
theorem WB(f:Nat->Pt):∀m:Nat,AY (f 0) ((cF m).map λk=>f (k+1))=f m
 | 0=>rfl
 |m+1=>by rw[fP,aX];show HI _ _ _
theorem Ih(f:Nat->Pt):∀m:Nat,(∀k,k<m->(f k).1<(f (k+1)).1)->jU (f 0) ((cF m).map λk=>f (k+1))=(cF m).map λk=>(f k,f (k+1))
 | 0,_=>rfl
 |m+1,h=>by
  rw[fP,aX,aX,walk_app,Ih f m (λk a=>h k ν),WB];show _++(sd (f m) (f (m+1))++[])=_;unfold sd;rw[υ (h m ν)];rfl
def ft(h:ts[i]?=ψ a):T ts i=a:=by unfold T;rw[cC,h];rfl
def IL(h:i<ts.length):ts[i]?=ψ (T ts i):=by unfold T;rw[cC,aG h];rfl
def Ln(h:yk ts)(hi:i+1<ts.length):1<=T ts (i+1)-T ts i/\T ts (i+1)-T ts i<=40:=
 h.step i _ _ (IL ν) (IL hi)
theorem mono_T(h:yk ts):∀{j:Nat},i<=j->j<ts.length->T ts i<=T ts j
 | 0,a,_=>by rw[show i=0 by lia];show pX _
 |j+1,a,b=>by
  by_cases e:i=j+1
  ·rw[e];show pX _
  ·have:=mono_T h (i:=i) (j:=j) ν ν;have:=Ln h b;lia
def Er(h:2<=ts.length):s9 ts hss j=spot ts hss j 0::(cF (ts.length-1)).map λk=>spot ts hss j (k+1):=by
 unfold s9;obtain⟨m,a⟩:∃m,ts.length=m+1:=#[ts.length-1,ν];rw[a,CF,aN,cO];rfl
def Lf(h:yk ts)(a b:Nat):(oD (s9 ts hss a++(s9 ts hss b).reverse)).Perm (csd ts hss a++csd ts hss b):=by
 have c:=h.len;rw[Er (j:=a) c.1,Er (j:=b) c.1];show(Lj (u:=spot ts hss a 0) (d:=spot ts hss b 0) (show T ts 0=T ts 0 from rfl) ?_).trans ?_
 ·rw[WB (spot ts hss a),WB (spot ts hss b)];rfl
 ·have k:∀j,jU (spot ts hss j 0) ((cF (ts.length-1)).map λk=>spot ts hss j (k+1))=csd ts hss j:=λj=>
   Ih (spot ts hss j) _ λk e=>by have:=Ln h (i:=k) ν;show T ts k<T ts (k+1);lia
  rw[k a,k b]
theorem WE(z:Nat):∀m:Nat,z<m->(cF m).filter (λk=>decide (k=z))=[z]
 | 0,h=>by lia
 |m+1,h=>by
  rw[fP,fZ];by_cases e:z<m
  ·rw[WE z m e];have:¬m=z:=ν;simp[this]
  ·have a:m=z:=ν;have b:(cF m).filter (λk=>decide (k=z))=[]:=List.filter_eq_nil_iff.mpr λk c=>by
    have:=cT.mp c;simp;lia
   rw[b];simp[a]
structure Zn(ts:List Int)(c:Int)(z:Nat):Prop where
 z1:z+1<ts.length
 lo:T ts z<=c
 hi:c<T ts (z+1)
def Zc{c:Int}(h:yk ts)(Z:Zn ts c z)(j:Nat):(csd ts hss j).filter (cov c)=[sdz ts hss z j]:=by
 unfold csd;rw[TB];have e:∀k∈cF (ts.length-1),((cov c) ∘ λz=>sdz ts hss z j) k=decide (k=z):=λk a=>by
  have a:=cT.mp a;have f:=Z.z1;have b:=Z.lo;have d:=Z.hi;show(decide (T ts k<=c) && decide (c<T ts (k+1)))=_;by_cases e:k=z
  ·subst e;rw[decide_eq_true b,decide_eq_true d,decide_eq_true rfl];rfl
  ·rw[decide_eq_false e];by_cases l:k<z
   ·have:=mono_T h (i:=k+1) (j:=z) ν ν;rw[decide_eq_false (show ¬c<T ts (k+1) by lia),xI]
   ·have:=mono_T h (i:=z+1) (j:=k) ν ν;rw[decide_eq_false (show ¬T ts k<=c by lia),xJ]
 rw[MC e,WE z _ (by have:=Z.z1;lia)];rfl
theorem RK{α:Type}(p:α->Bool):∀L:θ (θ α),(L.flatten).filter p=(L.map λl=>l.filter p).flatten
 | []=>rfl
 |l::L=>by rw[iW,fZ,RK p L];rfl
theorem RL{α β:Type}(f:α->β):∀L:θ α,(L.map λx=>[f x]).flatten=L.map f
 | []=>rfl
 |x::L=>by rw[aN,iW,RL f L];rfl
def Ti{c:Int}(h:yk ts)(Z:Zn ts c z)(L:θ Nat):((L.map (csd ts hss)).flatten).filter (cov c)=L.map λj=>sdz ts hss z j:=by
 rw[RK,cO];have:((λl:θ lF=>l.filter (cov c)) ∘ csd ts hss)=λj=>[sdz ts hss z j]:=funext λj=>Zc h Z j;rw[this,RL]
def Wd(ts:θ Int)(z:Nat):Int:=T ts (z+1)-T ts z
def hp(ts:θ Int)(hss:θ (θ Int))(z:Nat)(k:Int)(j:Nat):IP:=(sk (Wd ts z) k (Hh hss z j) (Hh hss (z+1) j),sk (Wd ts z) (k+1) (Hh hss z j) (Hh hss (z+1) j))
def LL(ts:θ Int)(hss:θ (θ Int))(n z:Nat)(k:Int):θ IP:=(cF (2*n)).map (hp ts hss z k)
def i8(f:Int)(z:IP):IP:=(z.1*f,z.2*f)
def E4(B c:Int)(z j:Nat):tz B c (sdz ts hss z j)=i8 (B.fdiv (Wd ts z)) (hp ts hss z (c-T ts z) j):=by
 unfold tz hB i8 hp sdz o8 spot Wd sk;fail;congr 1
 ·congr 1;grind
 ·congr 1;grind
def Hh_mono(C:f6 ts hss n)(hz:z<ts.length)(b:i<j)(d:j<2*n):Hh hss z i<=Hh hss z j:=by
 have f:=C.len;have e:hss[z]?=ψ (hss.getD z []):=by rw[cC,aG ν];rfl
 unfold Hh;obtain⟨A,c⟩:∃A,hss.getD z []=A:=#[_,bg];rw[c] at e⊢;have a:=bJ e;have l:=C.each _ a;have:=fW.mp (C.up _ a) i j ν ν b;rw[cC,aG (show i<A.length by lia),cC,aG (show j<A.length by lia)];show this
def lin_mono{W k a b c d:Int}(h0:0<=k)(g:k<=W)(e:a<=c)(f:b<=d):sk W k a b<=sk W k c d:=by
 unfold sk;have h:=dI e (show 0<=W-k by lia);have i:=dI f h0;lia
def Y5(C:f6 ts hss n)(hz:z+1<ts.length)(e:0<=k)(f:k+1<=Wd ts z):tD (LL ts hss n z k):=by
 unfold LL tD;rw[gG];show(sW (n:=2*n)).imp_of_mem λ{i j} hi a b=>?_;have a:=cT.mp a;have c:=Hh_mono C (show z<ts.length by lia) b a;have d:=Hh_mono C hz b a;show#[lin_mono e ν c d,lin_mono ν f c d]
def W8{f:Int}(a:0<=f)(h:tD L):tD (L.map (i8 f)):=by
 unfold tD;rw[gG];show h.imp λ{x y} e=>#[dI e.1 a,dI e.2 a]
def F7(p:M.Perm X)(d:tD M)(e:tD X):M=X:=
 rF (λa b _ _ h c=>nX (DF h.1 c.1) (DF h.2 c.2)) d e p
def Xx(h:tD L):∀x∈L,∀y∈L,x.1<y.1->x.2<=y.2:=by
 induction L with
 |nil=>intro x c;cases c
 |cons a L i=>
  let⟨f,j⟩:=iO.mp h;intro x c y b l;rcases aV.mp c with rfl |_
  ·rcases aV.mp b with rfl |b
   ·lia
   ·show(f y b).2
  ·rename_i g;rcases aV.mp b with e |d
   ·have:=(f x g).1;rw[e] at l;lia
   ·show i j x g y d l
theorem Aq(x:IP)(Y:θ IP):∀X:θ IP,kept (X++x::x::x::Y)=kept (X++x::Y)
 | []=>by
  unfold kept;cases Y with
  |nil=>simp[vK]
  |cons y Y=>simp[vK]
 | [a]=>by
  unfold kept;erw[bK,bS,vK,nS];simp
 |a::b::X=>by
  have c:=Aq x Y X;unfold kept at *;erw[bK,vK,nS];rw[c]
def Ro(h:tD (X++x::Y)):tD (X++x::x::x::Y):=by
 let⟨f,d,h3⟩:=jG.mp h;let⟨e,i⟩:=iO.mp d;have r:x.1<=x.1/\x.2<=x.2:=#[pX _,pX _];show jG.mpr #[f,?_,λa g b c=>?_]
 ·show iO.mpr #[λb c=>?_,iO.mpr #[λb c=>?_,d]]
  ·rcases aV.mp c with rfl |c
   ·show r
   ·rcases aV.mp c with rfl |c
    ·show r
    ·show e b c
  ·rcases aV.mp c with rfl |c
   ·show r
   ·show e b c
 ·show h3 a g b ?_;rcases aV.mp c with rfl |c
  ·show .head _
  ·rcases aV.mp c with rfl |c
   ·show .head _
   ·show c
theorem Ar:∀(D:θ IP){M L:θ IP},tD M->tD L->(∀x∈D,x∈L)->M.Perm (L++(D++D))->kept M=kept L
 | [],M,L,a,b,_,p=>by
  rw[cQ,cQ] at p;rw[F7 p a b]
 |x::D,M,L,a,b,c,p=>by
  let⟨X,Y,e⟩:=List.append_of_mem (c x (.head _));have q:(L++[x,x]).Perm (X++x::x::x::Y):=by
   rw[e,fK];show mM _ ?_;show(x::(Y++[x,x])).Perm (x::x::x::Y);show .cons _ (tZ (l₁:=Y) (l₂:=[x,x]))
  have d:M.Perm ((X++x::x::x::Y)++(D++D)):=by
   show p.trans (List.Perm.trans ?_ (List.Perm.append_right (D++D) q));rw[fK];show mM _ ?_;show(x::(D++x::D)).Perm (x::x::(D++D));show .cons _ OY
  have r:=Ar D a (Ro (by rw[<-e];show b)) (λy f=>?_) d
  ·rw[r,Aq,<-e]
  ·have:=c y (.tail _ f);rw[e] at this;rcases bQ.mp this with h |h
   ·show eY _ h
   ·show cN _ (.tail _ (.tail _ h))
theorem Ic{α β:Type}(f:α->β):∀L:θ α,vK (L.map f)=(vK L).map λz=>(f z.1,f z.2)
 | []=>rfl
 | [x]=>rfl
 |x::y::r=>by rw[aN,aN,vK,vK,Ic f r];rfl
def Vf{f:Int}(c:0<f)(L:θ IP):kept (L.map (i8 f))=(kept L).map λz=>(i8 f z.1,i8 f z.2):=by
 unfold kept;rw[Ic,TB];congr 1;show MC λz _=>?_;show decide (i8 f z.1≠i8 f z.2)=decide (z.1≠z.2);have:i8 f z.1=i8 f z.2↔z.1=z.2:=by
  constructor
  ·intro e;have a:=Ψ AS e;have b:=Ψ MM e;show nX (fH ν a) (fH ν b)
  ·intro e;rw[e]
 simp[this]
def UO{a W f p q b c:Int}(d:0<W)(e:0<f)(h:j3 a W p q)(h':j3 (a*f) (W*f) b c):b=p/\c=q:=
 K12.low_eq (aW d e) h' (h.scale e d)
theorem Om{W f c:Int}(a:0<W)(b:0<f):∀{zs:θ (IP×IP)}{r r':θ D},jk W c zs r->jk (W*f) c (zs.map λz=>(i8 f z.1,i8 f z.2)) r'->r'=r
 | [],_,_,h,d=>by cases h;cases d;rfl
 |z::zs,_,_,h,d=>by
  cases h with
  |cons h t=>
   cases d with
   |cons d e=>
    obtain⟨C,E,F,G,H,I,J,K,⟨g,i,j,k⟩,rfl⟩:=h;obtain⟨l,m,n,o,q,s,u,v,⟨w,y,A,B⟩,rfl⟩:=d;let⟨rfl,rfl⟩:=UO a b g w;let⟨rfl,rfl⟩:=UO a b i y;let⟨rfl,rfl⟩:=UO a b j A;let⟨rfl,rfl⟩:=UO a b k B;rw[Om a b t e]
structure se(R:List (List Pt))(o:Int):Prop where
 rgs:t8 R
 near:∀s∈jM R,o<=s.1.1/\s.2.1<=o+60
 col:∀c,(∃s∈jM R,cov c s=ζ)->zb ((jM R).filter (cov c)) c
def F_bands:FD:=λd Q=>∃(R:θ (θ Pt))(o:Int),d=[sN R]/\se R o/\∀b a,b.Pairwise (· < ·)->(∀c,c∈b↔∃s∈jM R,cov c s=ζ)->AllB (jM R) b a->Q (.lst a)
theorem Gm:∀(l m:θ Int),l.Nodup->(∀x∈l,x∈m)->l.length<=m.length
 | [],m,_,_=>dZ _
 |x::l,m,f,a=>by
  have b:=a x (.head _);have c:=jY.mp f;have:=Gm l (m.erase x) c.2 λy d=>(vC λ(e:y=x)=>c.1 (e▸d)).mpr (a y (.tail _ d));rw[rG b] at this;show dY (AO this) (MJ (AQ (sV b)))
def Vy{ks:θ Int}{o:Int}(a:ks.Nodup)(h:∀c∈ks,o<=c/\c<o+60):ks.length<=60:=by
 have:=Gm ks ((cF 60).map λk:Nat=>o+(k:Int)) a λx b=>by
  have:=h x b;show bD.mpr #[(x-o).toNat,cT.mpr ν,ν]
 rw[aJ,iE] at this;show this
structure Cloth(ts:List Int)(hss:List (List Int))(n:Nat)(R:List (List Pt)):Prop where
 len:R.length<=5
 each:∀g∈R,g.length<=10
 sides:∃I:θ lF,(jM R).Perm (((cF (2*n)).map (csd ts hss)).flatten++(I++I))/\(∀s∈I,∃z j,(z+1<ts.length/\j<2*n)/\s=sdz ts hss z j)/\∀c,(I.filter (cov c)).length<=2
section
variable{ts:θ Int}{hss:θ (θ Int)}{n:Nat}
def Zd{s:lF}(h:s∈csd ts hss j):∃z,z+1<ts.length/\s=sdz ts hss z j:=by
 let⟨z,a,rfl⟩:=bD.mp h;have:=cT.mp a;show#[z,ν,bg]
def Cloth.mem(K:Cloth ts hss n R){s:lF}(a:s∈jM R):∃z j,(z+1<ts.length/\j<2*n)/\s=sdz ts hss z j:=by
 let⟨I,p,b⟩:=K.sides;rcases bQ.mp (p.mem_iff.mp a) with h |h
 ·let⟨l,c,h⟩:=lV.mp h;let⟨j,d,rfl⟩:=bD.mp c;let⟨z,e,rfl⟩:=Zd h;show#[z,j,#[e,cT.mp d],bg]
 ·rcases bQ.mp h with h |h <;> show b.1 s h
def Cloth.has(K:Cloth ts hss n R)(hz:z+1<ts.length)(a:j<2*n):sdz ts hss z j∈jM R:=by
 let⟨I,p,b⟩:=K.sides;show p.mem_iff.mpr (eY _ (lV.mpr #[csd ts hss j,eD (cT.mpr a),?_]));show bD.mpr #[z,cT.mpr ν,bg]
def bl_T(C:f6 ts hss n)(hz:z<ts.length):BL 210 (T ts z):=(C.thr.bl _ (bJ (IL hz))).mono
def Z1(C:f6 ts hss n)(hz:z<ts.length)(b:j<2*n):BL 210 (Hh hss z j):=by
 have c:=C.len;have e:hss[z]?=ψ (hss.getD z []):=by rw[cC,aG ν];rfl
 have a:=bJ e;show C.bl _ a _ ?_;have:=C.each _ a;unfold Hh;rw[cC (l:=hss.getD z []),aG ν];show nU _
def X2(C:f6 ts hss n)(hz:z+1<ts.length)(a:j<2*n):dV (sdz ts hss z j):=
 #[bl_T C ν,Z1 C ν a,bl_T C hz,Z1 C hz a]
def Wd_pos(C:f6 ts hss n)(hz:z+1<ts.length):0<Wd ts z/\Wd ts z<=40:=by
 have:=Ln C.thr hz;unfold Wd;lia
def Zn.uniq{c:Int}(h:yk ts)(a:Zn ts c z)(b:Zn ts c z'):z=z':=by
 have d:=a.z1;have e:=a.lo;have f:=a.hi;have g:=b.z1;have k:=b.lo;have m:=b.hi;apply TF
 ·apply VF.mp;intro l;have:=mono_T h (i:=z'+1) (j:=z) ν ν;lia
 ·apply VF.mp;intro l;have:=mono_T h (i:=z+1) (j:=z') ν ν;lia
def Zn.of{c:Int}(hz:z+1<ts.length)(k:cov c (sdz ts hss z j)=ζ):Zn ts c z:=#[hz,(HG.mp k).1,(HG.mp k).2]
def Zn.cov{c:Int}(Z:Zn ts c z)(j:Nat):cov c (sdz ts hss z j)=ζ:=HG.mpr #[Z.lo,Z.hi]
def Cloth.col(C:f6 ts hss n)(K:Cloth ts hss n R){c:Int}(Z:Zn ts c z):∃I:θ lF,((jM R).filter (cov c)).Perm ((cF (2*n)).map (λj=>sdz ts hss z j)++(I++I))/\I.length<=2/\∀s∈I,∃j,j<2*n/\s=sdz ts hss z j:=by
 let⟨I,p,d,f⟩:=K.sides;have q:=p.filter (cov c);rw[fZ,fZ,Ti C.thr Z] at q;show#[I.filter (cov c),q,f c,λs a=>?_];let⟨a,k⟩:=fX.mp a;obtain⟨h,j,⟨b,g⟩,rfl⟩:=d s a;have e:=(Zn.of b k).uniq C.thr Z;subst e;show#[j,g,bg]
def Hs(ts:θ Int)(hss:θ (θ Int))(n:Nat)(B c:Int)(z:Nat):θ IP:=(LL ts hss n z (c-T ts z)).map (i8 (B.fdiv (Wd ts z)))
def Cloth.heights(C:f6 ts hss n)(K:Cloth ts hss n R){c:Int}(Z:Zn ts c z)(B:Int):∃D:θ IP,(∀x∈D,x∈Hs ts hss n B c z)/\(((jM R).filter (cov c)).map (tz B c)).Perm (Hs ts hss n B c z++(D++D)):=by
 let⟨I,p,_,a⟩:=K.col C Z;have q:=p.map (tz B c);have e:((cF (2*n)).map λj=>sdz ts hss z j).map (tz B c)=Hs ts hss n B c z:=by
  unfold Hs LL;rw[cO,cO];show gW λj _=>E4 B c z j
 rw[aX,aX,e] at q;show#[I.map (tz B c),λx b=>?_,q];let⟨s,d,rfl⟩:=bD.mp b;let⟨j,f,rfl⟩:=a s d;rw[<-e];show eD (bD.mpr #[j,cT.mpr f,bg])
def J6(C:f6 ts hss n){c:Int}(Z:Zn ts c z)(a:0<=B.fdiv (Wd ts z)):tD (Hs ts hss n B c z):=by
 have b:=Z.z1;have d:=Z.lo;have e:=Z.hi;show W8 a (Y5 C b ν (by unfold Wd;lia))
def bottom(C:f6 ts hss n)(hz:z+1<ts.length)(h0:0<B)(b:Wd ts z∣B):∃f,B.fdiv (Wd ts z)=f/\0<f/\B=Wd ts z*f:=by
 let⟨a,_⟩:=Wd_pos C hz;let⟨q,c,d⟩:=Zx a b;show#[q,d,?_,c];apply sA.mp;intro l;have:=dP (dO a) l;lia
def Cloth.bands(C:f6 ts hss n)(K:Cloth ts hss n R):se R (T ts 0):=by
 have w:=C.thr.len;have A:=C.n1;show#[#[K.len,K.each,λs b=>?_],λs b=>?_,λc i=>?_]
 ·obtain⟨z,j,⟨a,d⟩,rfl⟩:=K.mem b;show(Wd_pos C a).2
 ·obtain⟨z,j,⟨a,d⟩,rfl⟩:=K.mem b;show#[mono_T C.thr (dZ z) ν,?_];have:=C.thr.wide _ (bJ (IL (show 0<ts.length by lia))) _ (bJ (IL a));show T ts (z+1)<=_;lia
 ·let⟨s,b,k⟩:=i;obtain⟨z,j,⟨a,d⟩,rfl⟩:=K.mem b;have Z:=Zn.of a k;let⟨I,p,E,_⟩:=K.col C Z;show#[?_,λs b=>?_,λs b=>?_,λs b=>?_,?_,λB l m=>?_]
  ·rw[p.length_eq,bI,bI,aJ,iE];lia
  ·obtain⟨z,j,⟨a,d⟩,rfl⟩:=K.mem (fX.mp b).1;show X2 C a d
  ·obtain⟨z,j,⟨a,d⟩,rfl⟩:=K.mem (fX.mp b).1;show(Wd_pos C a).1
  ·obtain⟨z,j,⟨a,d⟩,rfl⟩:=K.mem (fX.mp b).1;show(Wd_pos C a).2
  ·have F:=bl_T C (show z<ts.length by lia);have G:=bl_T C a;have H:=Z.lo;have J:=Z.hi;unfold BL at *;lia
  ·let⟨f,e,L,_⟩:=bottom C a l (m _ (fX.mpr #[K.has a d,k]));have o:=J6 (hss:=hss) (n:=n) C Z (B:=B) (by rw[e];lia);have sub:∀x∈((jM R).filter (cov c)).map (tz B c),x∈Hs ts hss n B c z:=λx g=>by
    let⟨D,u,q⟩:=K.heights C Z B;rcases bQ.mp (q.mem_iff.mp g) with h |h
    ·show h
    ·rcases bQ.mp h with h |h <;> show u x h
   show λx g y v=>Xx o x (sub x g) y (sub y v)
inductive LB(ts:List Int)(hss:List (List Int))(n:Nat):List (Int×Nat)->List D->Prop
 |nil:LB ts hss n [] []
 |cons {c:Int} {z:Nat} {r rows:List D} {cs:List (Int×Nat)} (h:jk (Wd ts z) c (kept (LL ts hss n z (c-T ts z))) r) (t:LB ts hss n cs rows):LB ts hss n ((c,z)::cs) (r++rows)
def LB.snoc(t:LB ts hss n cs rows){c:Int}(h:jk (Wd ts z) c (kept (LL ts hss n z (c-T ts z))) r):LB ts hss n (cs++[(c,z)]) (rows++r):=by
 induction t with
 |nil=>have:=LB.cons h .nil;simpa using this
 |cons a _ b=>rw[fK];show .cons a b
def Rp(C:f6 ts hss n)(K:Cloth ts hss n R)(h:LB ts hss n cols rows):∀{rm:θ D},(∀p∈cols,Zn ts p.1 p.2)->AllB (jM R) (cols.map (·.1)) rm->rm=rows:=by
 have w:=C.n1
 induction h with
 |nil=>intro rm _ a;cases a;rfl
 | @cons c z r rows y h t j=>
  intro rm g a;rw[aN] at a;cases a with
  | @cons _ B M A d _ hB k=>
   have Z:=g (c,z) (.head _);have l:=j (λp hp=>g p (.tail _ hp)) k;let⟨f,e,i,m⟩:=bottom C Z.z1 hB.pos (hB.dv (sdz ts hss z 0) (fX.mpr #[K.has Z.z1 ν,Z.cov 0]));have o:=J6 (hss:=hss) (n:=n) C Z (B:=B) (by rw[e];lia);let⟨D,s,q⟩:=K.heights C Z B;have u:kept M=kept (Hs ts hss n B c z):=Ar D hB.up o s (hB.perm.trans q);have b:=hB.rows;rw[u] at b;unfold Hs at b;rw[e,Vf i,m] at b;have v:=Om (Wd_pos C Z.z1).1 i h b;rw[v,l]
def VS(ts:θ Int)(z m:Nat):θ (Int×Nat):=(cF m).map λk:Nat=>(T ts z+(k:Int),z)
def vQ(ts:θ Int)(m:Nat):θ (Int×Nat):=((cF m).map λz=>VS ts z (Wd ts z).toNat).flatten
def Jj(z m:Nat):VS ts z (m+1)=VS ts z m++[(T ts z+(m:Int),z)]:=by unfold VS;rw[fP,aX];rfl
def RB(m:Nat):vQ ts (m+1)=vQ ts m++VS ts m (Wd ts m).toNat:=by unfold vQ;rw[fP,aX,jW];simp
def VT:p∈vQ ts m↔p.2<m/\T ts p.2<=p.1/\p.1<T ts (p.2+1):=by
 let⟨c,z⟩:=p;unfold vQ;rw[lV];constructor
 ·rintro⟨l,f,h⟩;let⟨i,a,rfl⟩:=bD.mp f;let⟨k,b,e⟩:=bD.mp h;have b:=cT.mp b;cases e;unfold Wd at b;show#[cT.mp a,(by show T ts z<=T ts z+(k:Int);lia),(by show T ts z+(k:Int)<T ts (z+1);lia)]
 ·rintro⟨d,g,h3⟩;dsimp only at d g h3;show#[_,eD (cT.mpr d),bD.mpr #[(c-T ts z).toNat,cT.mpr (by unfold Wd;lia),?_]];show nX (by show T ts z+(((c-T ts z).toNat:Nat):Int)=c;lia) rfl
theorem Mi(h:yk ts):∀m:Nat,m<ts.length->(vQ ts m).Pairwise λp q=>p.1<q.1
 | 0,_=>pN
 |m+1,d=>by
  rw[RB];show jG.mpr #[Mi h m ν,?_,λp hp q c=>?_]
  ·unfold VS;rw[gG];show(sW (n:=(Wd ts m).toNat)).imp λ{a b} (e:a<b)=>by show T ts m+(a:Int)<T ts m+(b:Int);lia
  ·have f:=VT.mp hp;let⟨k,_,rfl⟩:=bD.mp c;have:=mono_T h (i:=p.2+1) (j:=m) ν ν;show p.1<T ts m+(k:Int);lia
def Sq(C:f6 ts hss n)(K:Cloth ts hss n R)(f:cs.Pairwise (· < ·))(m:∀c,c∈cs↔∃s∈jM R,cov c s=ζ)(h3:AllB (jM R) cs rm)(o:LB ts hss n (vQ ts (ts.length-1)) rows):rm=rows:=by
 have v:=C.thr.len;have w:=C.n1;have d:∀p∈vQ ts (ts.length-1),Zn ts p.1 p.2:=λp hp=>by
  have:=VT.mp hp;show#[ν,this.2.1,this.2.2]
 have g:((vQ ts (ts.length-1)).map (·.1)).Pairwise (· < ·):=by
  rw[gG];show Mi C.thr _ ν
 have q:∀c,c∈cs↔c∈(vQ ts (ts.length-1)).map (·.1):=λc=>by
  rw[m c,bD];constructor
  ·rintro⟨s,u,k⟩;obtain⟨z,j,⟨d,y⟩,rfl⟩:=K.mem u;have Z:=Zn.of d k;show#[(c,z),VT.mpr #[by have:=Z.z1;show z<_;lia,Z.lo,Z.hi],bg]
  ·rintro⟨p,hp,rfl⟩;have Z:=d p hp;show#[sdz ts hss p.2 0,K.has Z.z1 ν,Z.cov 0]
 have i:∀{l:θ Int},l.Pairwise (· < ·)->l.Nodup:=λh=>h.imp λ{a b} (l:a<b)=>Int.ne_of_lt l;have e:cs=(vQ ts (ts.length-1)).map (·.1):=
  rF (le:=(· < ·)) (λa b _ _ (l:a<b) (A:b<a)=>by lia) f g ((xR (i f) (i g)).mpr q)
 rw[e] at h3;show Rp C K o d h3
end
theorem Bi{α:Type}(a b:α):∀L:θ α,L.length % 2=0->vK (L++[a,b])=vK L++[(a,b)]
 | [],_=>rfl
 | [x],h=>by simp at h
 |x::y::r,h=>by
  show(x,y)::vK (r++[a,b])=(x,y)::(vK r++[(a,b)]);rw[Bi a b r (by simp at h;lia)]
theorem YJ{α:Type}(f:Nat->α):∀n:Nat,vK ((cF (2*n)).map f)=(cF n).map λi=>(f (2*i),f (2*i+1))
 | 0=>rfl
 |n+1=>by
  rw[show 2*(n+1)=(2*n+1)+1 by lia,fP,fP,fP,aX,aX,aX,fK];show vK ((cF (2*n)).map f++[f (2*n),f (2*n+1)])=_;rw[Bi _ _ _ η,YJ f n];rfl
def Si{hss:θ (θ Int)}{z:Nat}(h:z<hss.length):hss[z]?=ψ (hss.getD z []):=by rw[cC,aG h];rfl
def Lv(C:f6 ts hss n)(hz:z<ts.length)(a:j<2*n):(hss.getD z [])[j]?=ψ (Hh hss z j):=by
 have b:=C.len;have:=C.each _ (bJ (Si (hss:=hss) (z:=z) ν));unfold Hh;rw[cC (l:=hss.getD z []),aG ν];rfl
def pr2(ts:θ Int)(hss:θ (θ Int))(z:Nat)(k:Int)(i:Nat):IP×IP:=(hp ts hss z k (2*i),hp ts hss z k (2*i+1))
def kp(ts:θ Int)(hss:θ (θ Int))(z:Nat)(k:Int)(i:Nat):θ (IP×IP):=((cF i).map (pr2 ts hss z k)).filter λz=>decide (z.1≠z.2)
def R6(ts:θ Int)(hss:θ (θ Int))(z:Nat)(k:Int)(n:Nat):kept (LL ts hss n z k)=kp ts hss z k n:=by
 unfold kept LL kp;rw[YJ];rfl
def A6(ts:θ Int)(hss:θ (θ Int))(z:Nat)(k:Int)(i:Nat):kp ts hss z k (i+1)=kp ts hss z k i++[pr2 ts hss z k i].filter λz=>decide (z.1≠z.2):=by
 unfold kp;rw[fP,aX,fZ];rfl
end K23
namespace K22
abbrev ck(p:IP):θ Int:=[p.1,p.2]
abbrev zq(p:IP):D:=.tup [.int p.1,.int p.2]
def one(u p:IP):Int:=if u=p then 1 else 0
def ck_inj(h:ck p=ck q):p=q:=by
 injection h with h1 h2;injection h2 with h2 _;show nX h1 h2
def Tc{p:IP}{a:θ IP}:ck p∈a.map ck↔p∈a:=by
 constructor
 ·intro h;let⟨q,b,e⟩:=bD.mp h;rw[<-ck_inj e];show b
 ·show λh=>bD.mpr #[p,h,bg]
variable{L:θ IP}{c c':IP->Int}
structure LOk(L:List IP):Prop where
 len:L.length<=24
 each:∀p∈L,0<p.2/\p.2<=40/\cP p.1 p.2=1/\BL 250 p.1
def ltR(p q:IP):Prop:=p.1*q.2<q.1*p.2
def ltR.ne(h:ltR p q):p≠q:=λe=>by subst e;show Ω h (uS _)
def Iw:FD:=λb Q=>∃a:θ Int,b=[il a]/\a.length<=24/\(∀w∈a,0<w/\w<=40)/\∀B,0<B->(∀w∈a,w∣B)->BL 140 B->Q (.int B)
def Kb(i:0<B)(hp:0<p.2)(d:0<q.2)(j:cP p.1 p.2=1)(k:cP q.1 q.2=1)(l:p.2∣B)(o:q.2∣B)(ne:p≠q)(h:p.1*B.fdiv p.2<=q.1*B.fdiv q.2):ltR p q:=by
 let⟨m,em⟩:=l;let⟨n,f⟩:=o;have s:B.fdiv p.2=m:=by rw[em,zM _ ν]
 have u:B.fdiv q.2=n:=by rw[f,zM _ ν]
 rw[s,u] at h;have g:=dI h (dO (aW hp d));have h3:p.1*m*(p.2*q.2)=p.1*q.2*B:=by rw[em];grind
 have v:q.1*n*(p.2*q.2)=q.1*p.2*B:=by rw[f];grind
 rw[h3,v] at g;have w:=xN g i;show ES.mpr #[w,λe=>ne ?_];have y:j3 p.1 p.2 p.1 p.2:=Cv hp hp j rfl;have z:j3 p.1 p.2 q.1 q.2:=Cv hp d k e.symm;let⟨a,b⟩:=K12.low_eq hp y z;show nX a b
def F_rising:FD:=λd Q=>∃(L a:θ IP),d=[.lst (a.map zq)]/\(LOk L/\a.Nodup/\∀p∈a,p∈L)/\∀b:θ IP,b.Perm a->b.Pairwise ltR->Q (.lst (b.map zq))
def pure_rising_G(C:∀ds Q,Iw ds Q->G ds Q):ι F_rising (QN G) ["ones","bottom"]:=by
 rintro ds Q ⟨L,e,rfl,⟨g,o,sub⟩,q⟩;rw[cM 1 rfl];unfold QN;erw[gE,Ld,aN,cD,bK,bS];have i:e.length<=24:=dY (len_sub e L o sub) g.len;show cV (λd=>∃B:Int,(0<B/\(∀p∈e,p.2∣B)/\BL 140 B)/\d=[ap (.lst (e.map zq)),ap (.int B)]) (λK E=>?_) ?_
 ·nofun;show#[iY (by rw[aJ];lia),?_];show nZ (λd=>∃u,d=[u]) zq (λp=>D.int p.2) e ?_ #[_,bg] ?_
  ·rintro p hp d ⟨u,rfl⟩ R F;nofun;show F _ #[_,bg]
  ·show C _ _ #[e.map (·.2),by show _=[D.lst (pY D.int (pY (·.2) e))];rw[cO];rfl,by rw[aJ];show i,λw H=>?_,λB k dv l=>?_]
   ·let⟨p,hp,rfl⟩:=bD.mp H;have:=g.each p (sub p hp);show#[this.1,this.2.1]
   ·show E _ #[B,#[k,λp hp=>dv _ (eD hp),l],bg]
 rintro d ⟨B,⟨k,dv,l⟩,rfl⟩;erw[eP,Dq,aQ,aA,aB,L2.R2.S.val];show#[B,e,bg,bg,ν,λf I=>?_,λs j J=>q s j ?_]
 ·let⟨T,M,U,N⟩:=g.each f (sub f I);show#[((BL.of_lt (m:=10) ν (mF M μ)).mono).divOk ν,N.mulOk (l.fdiv)]
 ·have n:s.Nodup:=j.nodup_iff.mpr o;show List.Pairwise.imp_of_mem (λ{a b} O P h=>?_) (List.pairwise_and_iff.mpr #[n,J]);have v:=j.mem_iff.mp O;have y:=j.mem_iff.mp P;have z:=g.each a (sub a v);have A:=g.each b (sub b y);show Kb k z.1 A.1 z.2.2.1 A.2.2.1 (dv a v) (dv b y) h.1 h.2
variable{L:θ IP}{c c':IP->Int}
structure RowS(r:D)(u l:IP):Prop where
 ex:∃(row:Row)(W a b c d:Int),r=vJ row/\(0<W/\BL 400 W)/\RowV W row a b c d/\j3 (d-c) W u.1 u.2/\j3 (b-a) W l.1 l.2
def F_lslope:FD:=λa Q=>∃(r:D)(u l:IP),a=[r]/\RowS r u l/\Q (zq l)
def F_uslope:FD:=λa Q=>∃(r:D)(u l:IP),a=[r]/\RowS r u l/\Q (zq u)
def pure_lower_slope:ι F_lslope (GS kB) ["row"]:=by
 rintro n Q ⟨r,u,l,rfl,⟨i,M,a,b,c,d,rfl,⟨e,f⟩,V,o,j⟩,q⟩;rw[cM 0 rfl];unfold GS;nofun;have g:=V.l1.bl V.bb f;have h:=V.l0.bl V.ba f;show#[_,_,_,_,bg,#[V.l1.pos,V.l0.pos],#[g.1.mono,g.2.mono,h.1.mono,h.2.mono],λp s L=>?_];let⟨k,m⟩:=K12.low_eq e (V.l1.minus e V.l0 L) j;rw[k,m];show q
def pure_upper_slope:ι F_uslope (GW kB) ["row"]:=by
 rintro o Q ⟨r,u,l,rfl,⟨i,M,a,b,c,d,rfl,⟨e,f⟩,V,k,s⟩,q⟩;rw[cM 0 rfl];unfold GW;nofun;show UI (qQ (j:=4) rfl) (UI (qQ (j:=3) rfl) ?_);have g:=V.u1.bl V.bd f;have h:=V.u0.bl V.bc f;show#[_,_,_,_,bg,#[V.u1.pos,V.u0.pos],#[g.1.mono,g.2.mono,h.1.mono,h.2.mono],λp v L=>?_];let⟨m,n⟩:=K12.low_eq e (V.u1.minus e V.u0 L) k;rw[m,n];show q
abbrev Ent3:=D×IP×IP
def EsOk(L:θ IP)(es:θ Ent3):Prop:=∀e∈es,RowS e.1 e.2.1 e.2.2/\e.2.1∈L/\e.2.2∈L
def vt(p:IP):θ Ent3->Int
 | []=>0
 |e::a=>(one e.2.1 p-one e.2.2 p)+vt p a
theorem Eg(p:IP)(e:Ent3):∀es,vt p (es++[e])=vt p es+(one e.2.1 p-one e.2.2 p)
 | []=>by show _+0=0+_;lia
 |x::es=>by show _+vt p (es++[e])=_+vt p es+_;rw[Eg p e es];lia
open K23
def lowOf(a b:Int):IP:=(a.fdiv (cP a b:Nat),b.fdiv (cP a b:Nat))
def slp(ts:θ Int)(hss:θ (θ Int))(z j:Nat):IP:=lowOf (Hh hss (z+1) j-Hh hss z j) (Wd ts z)
def slp_low(hss:θ (θ Int))(w:0<Wd ts z)(j:Nat):j3 (Hh hss (z+1) j-Hh hss z j) (Wd ts z) (slp ts hss z j).1 (slp ts hss z j).2:=oP w
def SL(ts:θ Int)(hss:θ (θ Int))(n:Nat):θ IP:=(cF (ts.length-1)).flatMap λz=>(cF (2*n)).map (slp ts hss z)
def Oq(C:f6 ts hss n)(hz:z+1<ts.length)(a:j<2*n):slp ts hss z j∈SL ts hss n:=
 qN.mpr #[z,cT.mpr ν,bD.mpr #[j,cT.mpr a,bg]]
def H_bl(C:f6 ts hss n)(hz:z<ts.length)(a:j<2*n):BL 210 (Hh hss z j):=by
 have b:=C.len;show C.bl _ (bJ (Si (hss:=hss) (z:=z) ν)) _ (bJ (Lv C hz a))
theorem flat_len{α β:Type}(f:α->θ β)(m:Nat):∀l:θ α,(∀x∈l,(f x).length=m)->(l.flatMap f).length=l.length*m
 | [],_=>by simp
 |x::l,h=>by
  rw[mY,bI,flat_len f m l λy a=>h y (.tail _ a),h x (.head _),aT,Nat.add_mul,Nat.one_mul,Nat.add_comm]
def SL_ok(C:f6 ts hss n):LOk (SL ts hss n):=by
 have g:=C.thr.len;have h:=C.n1;show#[?_,λp hp=>?_]
 ·unfold SL;rw[flat_len _ (2*n) _ λx _=>by rw[aJ,iE],iE];show dY (EY (show ts.length-1<=4 by lia) (show 2*n<=6 by lia)) μ
 ·let⟨z,b,hp⟩:=qN.mp hp;let⟨j,a,rfl⟩:=bD.mp hp;have b:=cT.mp b;have a:=cT.mp a;let⟨d,i⟩:=Wd_pos C (z:=z) ν;have l:=slp_low hss d j;have e:=H_bl C (z:=z+1) (j:=j) ν a;have f:=H_bl C (z:=z) (j:=j) ν a;have:=l.leb;have:=l.pos;show#[l.pos,ν,l.cop,((e.sub f).le l.lea).mono]
def Vd(ts:θ Int)(hss:θ (θ Int))(z:Nat):Nat->IP->Int
 | 0,_=>0
 |i+1,p=>Vd ts hss z i p+(one (slp ts hss z (2*i+1)) p-one (slp ts hss z (2*i)) p)
def zs(ts:θ Int)(hss:θ (θ Int))(n:Nat):Nat->IP->Int
 | 0,_=>0
 |z+1,p=>zs ts hss n z p+Wd ts z*Vd ts hss z n p
variable{c c':IP->Int}
end K22
namespace K23
def pure_bandsN:ι F_bands (Hj F_colB F_byCol) ["rings","columns","rows","column"]:=by
 rintro H Q ⟨R,o,rfl,ok,q⟩;rw[cM 3 rfl];unfold Hj;show cV (λa=>∃e g,wq (jM R) e g/\a=[ap (sN R),ap (.dct e g),ξ,ξ]) (λK v=>?_) ?_
 ·erw[dC,cE,aE,aU,bH,gE,Ds,aN,cD,bK,bS,aA,aB,aH,aI];show#[R,bg,ok.rgs,λe g h=>v _ #[e,g,h,bg]]
 rintro a ⟨e,g,i,rfl⟩;have I:e.length<=60:=Vy (o:=o) i.nodup λc w=>by
  let⟨s,A,k⟩:=(i.mem c).mp w;have:=ok.near s A;have:=HG.mp k;lia
 show cV (λa=>a=[ap (sN R),ap (.dct e g),ψ (.own []),ξ]) (λK v=>?_) ?_
 ·nofun;show v _ rfl
 rintro a rfl;show cV (λa=>∃f b u,(f.Perm e/\f.Pairwise (·<=·))/\AllB (jM R) f b/\a=[ap (sN R),ap (.dct e g),ψ (.own b),u]) (λK v=>?_) ?_
 ·erw[iA,riL,XU,Kz,bH,aA,aB];show#[e,g,bg,i.len,e,bg,ν,λf l y=>?_];show mQ (λz a=>∃done d:θ Int,f=done++d/\z=d.map .int/\∃b u,AllB (jM R) done b/\a=[ap (sN R),ap (.dct e g),ψ (.own b),u]) ?_ ?_ _ _ #[[],f,bg,bg,[],ξ,.nil,bg]
  ·rintro x z a ⟨done,d,m,j,b,u,n,rfl⟩ F J L C w;cases d with
   |nil=>cases j
   |cons c d=>
    rw[aN] at j;injection j with ex j;subst ex j;have w:c∈e:=l.mem_iff.mp (by rw[m];show cN _ (.head _));have dl:done.length<=59:=(by have:=l.length_eq;rw[m] at this;simp at this;lia);have D:=ok.rgs.slen;have N:=n.rlen;have E:done.length*(jM R).length<=59*50:=EY dl D;unfold SF;erw[cA,GC,cE,aE,aU,r2,Zg,bH,aA,aB,aH,aI];show#[_,i.here c w,_,c,bg,ok.col c ((i.mem c).mp w),λB M r hB=>?_];have O:=hB.rlen;have P:=pF (cov c) (jM R);fail;show#[iY ν,C _ #[done++[c],d,by rw[m];simp,bg,b++r,ap (.int c),n.snoc hB,bg]]
  ·rintro a ⟨done,d,m,j,b,u,n,rfl⟩;have:d=[]:=(by cases d with |nil=>rfl |cons _ _=>cases j);subst this;rw[cQ] at m;subst m;show v _ #[f,b,u,#[l,y],n,bg]
 rintro a ⟨f,b,u,⟨l,y⟩,n,rfl⟩;erw[sC,S.fz,eP,bH,aA,aB,aH,aI];have G:f.Nodup:=l.nodup_iff.mpr i.nodup;show q f b ?_ (λc=>l.mem_iff.trans (i.mem c)) n;show(y.and G).imp λh=>ES.mpr h
end K23
namespace K22
open K23
variable{ts:θ Int}{hss:θ (θ Int)}{n:Nat}
def W3{W c:Int}(a:0<W)(z:IP×IP):Sj W c z (vJ ⟨c,lowOf z.1.1 W,lowOf z.1.2 W,lowOf z.2.1 W,lowOf z.2.2 W⟩):=#[_,_,_,_,_,_,_,_,#[oP a,oP a,oP a,oP a],bg]
def l7(ts:θ Int)(hss:θ (θ Int))(z:Nat)(k:Int)(i:Nat):Ent3:=
 (vJ #[T ts z+k,lowOf (K23.pr2 ts hss z k i).1.1 (Wd ts z),lowOf (K23.pr2 ts hss z k i).1.2 (Wd ts z),lowOf (K23.pr2 ts hss z k i).2.1 (Wd ts z),lowOf (K23.pr2 ts hss z k i).2.2 (Wd ts z)],slp ts hss z (2*i+1),slp ts hss z (2*i))
def ez(ts:θ Int)(hss:θ (θ Int))(z:Nat)(k:Int):Nat->θ Ent3
 | 0=>[]
 |i+1=>ez ts hss z k i++if(K23.pr2 ts hss z k i).1=(K23.pr2 ts hss z k i).2 then[] else[l7 ts hss z k i]
def lin_step(W k a b:Int):sk W (k+1) a b-sk W k a b=b-a:=by unfold sk;grind
def O9(C:f6 ts hss n)(hz:z+1<ts.length)(hi:i<n)(l:0<=k)(s:k+1<=Wd ts z):RowS (l7 ts hss z k i).1 (slp ts hss z (2*i+1)) (slp ts hss z (2*i)):=by
 let⟨c,u⟩:=Wd_pos C hz;have d:=H_bl C (z:=z) (j:=2*i) ν ν;have e:=H_bl C (z:=z) (j:=2*i+1) ν ν;have f:=H_bl C (z:=z+1) (j:=2*i) ν ν;have g:=H_bl C (z:=z+1) (j:=2*i+1) ν ν;have h:∀{j:Int}{a b:Int},0<=j->j<=40->BL 210 a->BL 210 b->BL 400 (sk (Wd ts z) j a b):=λ{j a b} v w o q=>
  ((o.mul (n:=10) (BL.of_lt ν ν)).add (q.mul (n:=10) (BL.of_lt ν ν))).mono
 show#[_,Wd ts z,_,_,_,_,bg,#[c,(BL.of_lt (m:=10) ν ν).mono],#[oP c,oP c,oP c,oP c,?_,?_,?_,?_],?_,?_]
 ·show h l ν d f
 ·show h ν ν d f
 ·show h l ν e g
 ·show h ν ν e g
 ·have:=slp_low hss c (2*i+1);rw[<-lin_step (Wd ts z) k] at this;show this
 ·have:=slp_low hss c (2*i);rw[<-lin_step (Wd ts z) k] at this;show this
theorem K3(C:f6 ts hss n)(hz:z+1<ts.length)(a:0<=k)(b:k+1<=Wd ts z):∀i,i<=n->jk (Wd ts z) (T ts z+k) (kp ts hss z k i) ((ez ts hss z k i).map (·.1))/\EsOk (SL ts hss n) (ez ts hss z k i)/\(∀p,vt p (ez ts hss z k i)=Vd ts hss z i p)/\(ez ts hss z k i).length<=i
 | 0,_=>#[.nil,(λe h=>by cases h),λ_=>rfl,aY _]
 |i+1,hi=>by
  let⟨c,d,h3,l⟩:=K3 C hz a b i ν;let⟨f,_⟩:=Wd_pos C hz;rw[A6];unfold ez;by_cases e:(K23.pr2 ts hss z k i).1=(K23.pr2 ts hss z k i).2
  ·rw[υ e,cQ];show#[by rw[show[K23.pr2 ts hss z k i].filter (λz=>decide (z.1≠z.2))=[] by simp[e],cQ];show c,d,λp=>?_,ν];have m:sk (Wd ts z) k (Hh hss z (2*i)) (Hh hss (z+1) (2*i))=sk (Wd ts z) k (Hh hss z (2*i+1)) (Hh hss (z+1) (2*i+1)):=Ψ AS e;have o:sk (Wd ts z) (k+1) (Hh hss z (2*i)) (Hh hss (z+1) (2*i))=sk (Wd ts z) (k+1) (Hh hss z (2*i+1)) (Hh hss (z+1) (2*i+1)):=Ψ MM e;have q:=lin_step (Wd ts z) k (Hh hss z (2*i)) (Hh hss (z+1) (2*i));have s:=lin_step (Wd ts z) k (Hh hss z (2*i+1)) (Hh hss (z+1) (2*i+1));have g:slp ts hss z (2*i)=slp ts hss z (2*i+1):=by
    unfold slp;rw[show Hh hss (z+1) (2*i)-Hh hss z (2*i)=Hh hss (z+1) (2*i+1)-Hh hss z (2*i+1) by lia]
   show _=Vd ts hss z i p+(one (slp ts hss z (2*i+1)) p-one (slp ts hss z (2*i)) p);rw[h3,g];lia
  ·rw[ω e];show#[?_,λx j=>?_,λp=>?_,by rw[bI,kE];lia]
   ·rw[show[K23.pr2 ts hss z k i].filter (λz=>decide (z.1≠z.2))=[K23.pr2 ts hss z k i] by simp[e],aX];show c.snoc (W3 f _)
   ·rcases bQ.mp j with h |h
    ·show d x h
    ·rw[bR.mp h];show#[O9 C hz ν a b,Oq C hz ν,Oq C hz ν]
   ·rw[Eg,h3];rfl
theorem Bw(p:IP):∀a b:θ Ent3,vt p (a++b)=vt p a+vt p b
 | [],b=>by show vt p b=0+vt p b;lia
 |x::a,b=>by show _+vt p (a++b)=_+vt p a+_;rw[Bw p a b];lia
def EsOk.app(c:EsOk L a)(d:EsOk L b):EsOk L (a++b):=λe h=>by
 rcases bQ.mp h with h |h
 ·show c e h
 ·show d e h
def eZ(ts:θ Int)(hss:θ (θ Int))(n z:Nat):Nat->θ Ent3
 | 0=>[]
 |m+1=>eZ ts hss n z m++ez ts hss z m n
def eA(ts:θ Int)(hss:θ (θ Int))(n:Nat):Nat->θ Ent3
 | 0=>[]
 |m+1=>eA ts hss n m++eZ ts hss n m (Wd ts m).toNat
theorem Pb(C:f6 ts hss n)(hz:z+1<ts.length):∀m:Nat,(m:Int)<=Wd ts z->LB ts hss n (VS ts z m) ((eZ ts hss n z m).map (·.1))/\EsOk (SL ts hss n) (eZ ts hss n z m)/\(∀p,vt p (eZ ts hss n z m)=m*Vd ts hss z n p)/\(eZ ts hss n z m).length<=n*m
 | 0,_=>#[.nil,(λe h=>by cases h),λp=>by show 0=0*_;lia,dZ _]
 |m+1,g=>by
  let⟨a,b,h3,i⟩:=Pb C hz m ν;let⟨c,d,f,j⟩:=K3 C (k:=(m:Int)) hz ν ν n (aY _);unfold eZ;show#[?_,b.app d,λp=>?_,by rw[bI,Nat.mul_add,Nat.mul_one];lia]
  ·rw[Jj,aX];show a.snoc ?_;rw[show T ts z+(m:Int)-T ts z=(m:Int) by lia,R6];show c
  ·rw[Bw,h3,f,show((m+1:Nat):Int)=(m:Int)+1 by lia,QW,Int.one_mul]
def LB.app(h:LB ts hss n cs r)(h':LB ts hss n p_ r'):LB ts hss n (cs++p_) (r++r'):=by
 induction h with
 |nil=>show h'
 |cons a _ b=>rw[fK];show .cons a b
theorem all_ok(C:f6 ts hss n):∀m:Nat,m<ts.length->LB ts hss n (vQ ts m) ((eA ts hss n m).map (·.1))/\EsOk (SL ts hss n) (eA ts hss n m)/\(∀p,vt p (eA ts hss n m)=zs ts hss n m p)/\((eA ts hss n m).length:Int)<=n*(T ts m-T ts 0)
 | 0,_=>#[.nil,(λe h=>by cases h),λ_=>rfl,by show(0:Int)<=n*(T ts 0-T ts 0);rw[Int.sub_self,MA];show pX _]
 |m+1,a=>by
  let⟨c,d,h3,j⟩:=all_ok C m ν;let⟨k,l⟩:=Wd_pos C (z:=m) a;have b:(((Wd ts m).toNat:Nat):Int)=Wd ts m:=ν
  let⟨f,g,i,o⟩:=Pb C a (Wd ts m).toNat ν;unfold eA;show#[by rw[RB,aX];show LB.app c f,d.app g,λp=>by rw[Bw,h3,i,b];rfl,?_];have q:((eZ ts hss n m (Wd ts m).toNat).length:Int)<=n*Wd ts m:=by
   have:((n*(Wd ts m).toNat:Nat):Int)=n*Wd ts m:=(by rw[SY,b]);lia
  have e:(n:Int)*(T ts (m+1)-T ts 0)=n*(T ts m-T ts 0)+n*Wd ts m:=by unfold Wd;grind
  rw[bI,e];lia
def bands_eA(C:f6 ts hss n)(K:Cloth ts hss n R)(a:cs.Pairwise (· < ·))(b:∀c,c∈cs↔∃s∈jM R,cov c s=ζ)(c:K23.AllB (jM R) cs rm):rm=(eA ts hss n (ts.length-1)).map (·.1):=by
 have d:=C.thr.len;show Sq C K a b c (all_ok C (ts.length-1) ν).1
end K22
namespace K31
open K22 K23
def sls(es:θ Ent3):θ IP:=es.flatMap λe=>[e.2.2,e.2.1]
def Yj(es:θ Ent3)(e:Ent3):sls (es++[e])=sls es++[e.2.2,e.2.1]:=by unfold sls;rw[nR];simp
def G1(a b:θ Ent3):sls (a++b)=sls a++sls b:=by unfold sls;rw[nR]
def sls_in(h:K22.EsOk L es):∀p∈sls es,p∈L:=λp hp=>by
 let⟨e,a,hp⟩:=qN.mp hp;let⟨_,b,c⟩:=h e a;erw[aV,dM,or_false] at hp;rcases hp with rfl |rfl
 ·show c
 ·show b
def VL(a:θ IP)(p:IP):θ IP:=if p∈a then a else a++[p]
def Lz(a:θ IP)(p:IP):YW (a.map ck) (ck p)=(VL a p).map ck:=by
 unfold YW VL;by_cases h:p∈a
 ·rw[υ (Tc.mpr h),υ h]
 ·rw[ω λz=>h (Tc.mp z),ω h,aX];rfl
def Eb:q∈VL kl p↔q∈kl\/q=p:=by
 unfold VL;split
 ·rename_i h;show#[.inl,λz=>z.elim id λe=>e▸h]
 ·rw[bQ,bR]
def VM(h:kl.Nodup):(VL kl p).Nodup:=by
 unfold VL;split
 ·show h
 ·rename_i n;show pO.mpr #[h,η,λa c b d e=>n (by rw[bR.mp d] at e;show e▸c)]
structure kr(es:List Ent3)(ks:List (List Int)):Prop where
 ex:∃kl:θ IP,ks=kl.map ck/\kl.Nodup/\∀p,p∈kl↔p∈sls es
def F_leans:FD:=λd Q=>∃(L:θ IP)(a b:θ Ent3),d=[.lst (a.map (·.1)),.lst (b.map (·.1))]/\(LOk L/\K22.EsOk L a/\K22.EsOk L b/\a.length<=1000/\b.length<=1000)/\∀c:θ IP,c.Pairwise ltR->(∀p,p∈c↔p∈sls a\/p∈sls b)->Q (.lst (c.map zq))
def pure_leans_of:ι F_leans (SH F_lslope F_rising F_uslope) ["ones","others","slopes","row"]:=by
 rintro N Q ⟨L,g,eb,rfl,⟨o,z,A,O,P⟩,q⟩;rw[cM 2 rfl];unfold SH;erw[gE,QO,aN,cD,bK,bS];have ok:K22.EsOk L (g++eb):=z.app A;generalize s:g++eb=h at ok;have m:∀p,p∈sls h↔p∈sls g\/p∈sls eb:=λp=>by rw[<-s,G1,bQ]
 show cV (λa=>a=[ap (.lst (g.map (·.1))),ap (.lst (eb.map (·.1))),ψ (.dt [] []),ξ]) (λK j=>j _ rfl) ?_;rintro a rfl;show cV (λa=>∃(c:θ (θ Int))(d:θ D)(u:Option S),kr h c/\a=[ap (.lst (g.map (·.1))),ap (.lst (eb.map (·.1))),ψ (.dt c d),u]) (λK j=>?_) ?_
 ·nofun;show#[iY (by rw[aJ,aJ];lia),?_];rw[<-aX,s];show WH _ (λi a=>∃(c:θ (θ Int))(d:θ D)(u:Option S),kr (h.take i) c/\a=[ap (.lst (g.map (·.1))),ap (.lst (eb.map (·.1))),ψ (.dt c d),u]) ?_ ?_ _ #[[],[],ξ,#[[],bg,.nil,λp=>Iff.rfl],bg]
  ·rintro i x a e ⟨c,d,u,⟨f,rfl,l,mem⟩,rfl⟩ F _ _ B _;rw[bC] at e;cases er:h[i]? with
   |none=>rw[er] at e;cases e
   |some b=>
    rw[er] at e;cases e;let⟨v,R,T⟩:=ok b (bJ er);have C:h.take (i+1)=h.take i++[b]:=(by rw[gD,er];rfl);have E:=o.len;have w:f.length<=L.length:=len_sub f L l λp hp=>sls_in (λe G=>ok e (qA G)) p ((mem p).mp hp);have n:=VM (p:=b.2.2) l;unfold GQ;erw[cA,aH,aI];show cV (λa=>∃d,a=[ap (.lst (g.map (·.1))),ap (.lst (eb.map (·.1))),ψ (.dt ((VL f b.2.2).map ck) d),ap b.1]) (λK j=>?_) ?_
    ·erw[Ba,cE,aE,aU,bH,rC,aA,aB,aH,aI];show#[b.1,_,_,bg,v,ck b.2.2,bg,iY (by rw[aJ];lia),?_];rw[Lz];show j _ #[_,bg]
    rintro a ⟨H,rfl⟩;have y:(VL f b.2.2).length<=f.length+1:=(by unfold VL;split <;> simp);erw[Ba,cE,aE,aU,bH,rC,aA,aB,aH,aI];show#[b.1,_,_,bg,v,ck b.2.1,bg,iY (by rw[aJ];lia),B _ #[_,_,_,#[VL (VL f b.2.2) b.2.1,Lz _ _,VM n,λp=>?_],bg]];rw[Eb,Eb,C,Yj,bQ,mem];erw[aV,dM,or_false,or_assoc]
  ·rintro a ⟨c,d,u,k,rfl⟩;rw[aJ,jH] at k;show j _ #[c,d,u,k,bg]
 rintro a ⟨c,d,u,⟨f,rfl,l,mem⟩,rfl⟩;erw[eP,cE,aE,aU,Dr,aA,aB];show#[L,f,by rw[cO];rfl,#[o,l,λp hp=>sls_in ok p ((mem p).mp hp)],λI J M=>q I M λp=>?_];rw[J.mem_iff,mem,m]
end K31
namespace K39
open K34 K33 K22
def Ty{xs:θ D}{k:Nat}{x:D}{Q:D->Prop}(e:xs[k]?=ψ x):f8 (.tup xs) (.int (k:Int)) Q=Q x:=by erw[f8,qQ e]
def Tz{a b c d:D}:f8 (.tup (a::b::c::d::r)) (.int 3) Q=Q d:=Ty (k:=3) rfl
def Ua{a b c d e:D}:f8 (.tup (a::b::c::d::e::r)) (.int 4) Q=Q e:=Ty (k:=4) rfl
structure ph(gs:List P2):Prop where
 len:gs.length<=16
 each:∀p∈gs,vo p
 inc:gs.Pairwise ltR
def ph.nodup(h:ph gs):gs.Nodup:=h.inc.imp ltR.ne
def ew:Nat->θ P2->θ D
 |_,[]=>[]
 |k,_::a=>.int k::ew (k+1) a
abbrev u_(a:θ P2):D:=.dtt (a.map ck) (ew 0 a)
theorem M3:∀{gs:θ P2}(k:Nat),p∈gs->FI (gs.map ck) (ew k gs) (ck p)=ψ (.int ((k+gs.idxOf p:Nat):Int))
 | [],_,h=>by cases h
 |g::gs,k,h=>by
  show(if ck g=ck p then ψ (D.int k) else FI (gs.map ck) (ew (k+1) gs) (ck p))=_;by_cases e:g=p
  ·subst e;rw[υ rfl,List.idxOf_cons_self];rfl
  ·rw[ω λz=>e (ck_inj z),M3 (k+1) ((aV.mp h).resolve_left λz=>e z.symm),List.idxOf_cons,show(g == p)=χ by simpa using e,cond_false];congr 2;lia
def WP{p:P2}(h:p∈gs)(q:Q (.int (gs.idxOf p:Nat))):RF (u_ gs) (zq p) Q:=
 #[ck p,_,bg,M3 0 h,by rw[wV];show q]
def ph.rise(h:ph gs){s t:P2}(c:gs[i]?=ψ s)(d:gs[i+1]?=ψ t):vo s/\vo t/\uw s t:=by
 have a:=h.each s (bJ c);have b:=h.each t (bJ d);let⟨e,f⟩:=bF.mp c;let⟨g,j⟩:=bF.mp d;have:=fW.mp h.inc i (i+1) e g ν;rw[f,j] at this;show#[a,b,a.pos,b.pos,this]
def F_shK:FD:=λa Q=>∃(c:Int)(x:D),a=[.int c,x]/\Q (.tup [.int 1,.tup [.int c,.int 1],x])
def pure_shK:ι F_shK SK ["column","height"]:=by
 rintro a Q ⟨c,x,rfl,q⟩;rw[cM 0 rfl];unfold SK;nofun;show q
def zY{a:θ P2}{p:P2}(h:p∈a):a.idxOf p<a.length:=List.idxOf_lt_length_of_mem h
end K39
def BW:FD:=λe Q=>∃a b c d:Int,e=[fr a b,fr c d]/\(BL 4000 a/\BL 4000 b/\BL 4000 c/\BL 4000 d)/\Q (.bl (decide (a*d<c*b)))
def Ko:ι BW Hk ["one","other"]:=by
 rintro i Q ⟨a,b,c,d,rfl,⟨e,f,g,h⟩,q⟩;rw[cM 0 rfl];unfold Hk;nofun;show#[e.mulOk h,g.mulOk f,q]
namespace ow
end ow
namespace K39
open K34 K33 K22
def y4:Nat->θ P2->θ (θ Int×D)
 |_,[]=>[]
 |k,p::a=>(ck p,.int k)::y4 (k+1) a
theorem UM:∀(k:Nat)(gs:θ P2),(y4 k gs).map (·.1)=gs.map ck
 |_,[]=>rfl
 |k,p::gs=>by rw[y4,aN,aN,UM (k+1) gs]
theorem Nq:∀(k:Nat)(gs:θ P2),(y4 k gs).map (·.2)=ew k gs
 |_,[]=>rfl
 |k,p::gs=>by rw[y4,aN,ew,Nq (k+1) gs]
theorem Nd:∀(k:Nat)(gs:θ P2),((gs.map pt).zipIdx k).map (λp=>D.tup [.int (p.2:Int),p.1])=(y4 k gs).map λx=>D.tup [x.2,.tup (x.1.map .int)]
 |_,[]=>rfl
 |k,p::gs=>by
  rw[aN,List.zipIdx_cons,aN,Nd (k+1) gs,y4,aN];rfl
def Vr{v W p q:Int}(b:0<W)(bW:BL 400 W)(a:BL 450 v)(L:j3 v W p q):0<q/\BL 400 q/\BL 500 p/\cP p q=1:=
 #[L.pos,bW.le L.leb,(a.mono:BL 500 v).le L.lea,L.cop]
end K39
namespace K32
open K37 K36 K34 K33
def Wa{c M m sh:Int}{cs zs:θ Pt}(a:0<c)(N:j_ M cs m sh zs):j_ (c*M) (cs.map (i8 c)) (c*m) sh zs:=by
 show#[aW a N.mpos,by rw[N.sh_eq,lR],?_,N.cop];rw[N.cs_eq,cO];show gW λz _=>by simp[i8,lR]
section
variable{e sh X Y W:Int}{A zs:θ Pt}
def Bc(a:i8 e z1=i8 sh p)(b:i8 e z2=i8 sh q):e*e*m8 sh X Y W z1 z2=sh*sh*m8 e X Y W p q:=by
 have c:e*z1.1=sh*p.1:=Ψ AS a;have d:e*z1.2=sh*p.2:=Ψ MM a;have f:e*z2.1=sh*q.1:=Ψ AS b;have g:e*z2.2=sh*q.2:=Ψ MM b;have l:e*e*m8 sh X Y W z1 z2=e*z1.1*(e*z2.2)*W-e*z1.1*(e*(sh*Y))-(e*z1.2*(e*z2.1)*W-e*z1.2*(e*(sh*X)))+(e*z2.1*(e*(sh*Y))-e*z2.2*(e*(sh*X))):=by
  unfold m8 KP qt;fail;grind
 rw[l,c,d,f,g];unfold m8 KP qt;fail;grind
def Hz(T:Told e A sh zs)(c:nI zs a b):∃p q,nI A p q/\e*e*m8 sh X Y W a b=sh*sh*m8 e X Y W p q:=by
 let⟨j,r,d⟩:=T.ring;have k:=Mm (f:=i8 e) c;rw[d] at k;let⟨x,y,g,h,i⟩:=Ew k;show#[x,y,Mn r g,Bc h.symm i.symm]
def Bg(T:Told e A sh zs)(c:nI A p q):∃a b,nI zs a b/\e*e*m8 sh X Y W a b=sh*sh*m8 e X Y W p q:=by
 let⟨i,r,d⟩:=T.ring;have c:=Mm (f:=i8 sh) (Mn r.symm c);rw[<-d] at c;let⟨x,y,c,g,h⟩:=Ew c;show#[x,y,c,Bc g h]
def G8(d:0<e)(T:Told e A sh zs):ul sh zs X Y W↔ul e A X Y W:=by
 have g:=GZ d T;have i:0<e*e:=aW d d;have j:0<sh*sh:=aW g g;constructor
 ·intro h p q c;let⟨a,b,k,f⟩:=Bg (X:=X) (Y:=Y) (W:=W) T c;show(nG i j f).1.mp (h a b k)
 ·intro h a b c;let⟨p,q,k,f⟩:=Hz (X:=X) (Y:=Y) (W:=W) T c;show(nG i j f).1.mpr (h p q k)
def Ot(d:0<e)(T:Told e A sh zs):vn sh zs X Y W↔vn e A X Y W:=by
 have g:=GZ d T;have i:0<e*e:=aW d d;have j:0<sh*sh:=aW g g;constructor
 ·intro h p q c;let⟨a,b,k,f⟩:=Bg (X:=X) (Y:=Y) (W:=W) T c;have:=(nG i j f).2;have:=h a b k;lia
 ·intro h a b c;let⟨p,q,k,f⟩:=Hz (X:=X) (Y:=Y) (W:=W) T c;have:=(nG i j f).2;have:=h p q k;lia
def Ov(a:0<e)(T:Told e A sh zs):uk sh zs X Y W=uk e A X Y W:=by
 have i:=G8 (X:=X) (Y:=Y) (W:=W) a T;have j:=Ot (X:=X) (Y:=Y) (W:=W) a T;by_cases h:ul sh zs X Y W
 ·rw[UQ h,UQ (i.mp h)]
 ·by_cases k:vn sh zs X Y W
  ·rw[WV k h,WV (j.mp k) λz=>h (i.mpr z)]
  ·rw[HM k,HM λz=>k (j.mpr z)]
def Os(a:0<e)(T:Told e A sh zs):F_ sh (vE su zs)=F_ e (vE su A):=by
 have c:=GZ a T;let⟨h,r,d⟩:=T.ring;have b:=Eu e zs;rw[d,Eu,<-Jk r] at b;have f:sh*sh*vE su A=e*e*vE su zs:=b;have i:=qH c;have j:=qH a;have g:=Ψ (λx:Int=>(x:Rat)) f;erw[kZ] at g;unfold F_;grind
def Yp(T:Told e A sh zs):zs.length=A.length:=by
 let⟨d,r,a⟩:=T.ring;have:=Ψ jE a;rw[aJ,aJ] at this;let⟨x,y,b,c⟩:=r;rw[this,b,c,bI,bI,Nat.add_comm]
def G7(c:0<e)(T:Told e A sh zs)(d:BL n e)(f:∀z∈A,BL n z.1/\BL n z.2):BL n sh/\∀z∈zs,BL n z.1/\BL n z.2:=by
 have s:=GZ c T;let⟨w,g,m,r,_,N⟩:=T;have u:=N.mpos;have a:∀x:Int,x.natAbs<=(m*x).natAbs:=λx=>by
  rw[iK];show Nat.le_mul_of_pos_left _ ν
 show#[d.le (by rw[N.sh_eq];show a sh),λz h=>?_];have b:i8 m z∈w::g:=by rw[N.cs_eq];show bD.mpr #[z,h,bg]
 have i:i8 m z∈A:=by
  let⟨x,y,j,l⟩:=r;rw[j];rw[l] at b;rcases bQ.mp b with k |k
  ·show cN _ k
  ·show eY _ k
 let⟨o,q⟩:=f _ i;show#[o.le (a _),q.le (a _)]
end
def Ze{a b c:Pt}{P:Pt->Pt->Prop}:(∀x y,nI [a,b,c] x y->P x y)↔P a b/\P b c/\P c a:=by
 constructor
 ·intro h;show#[h a b #[[],[c,a],bg],h b c #[[a],[a],bg],h c a #[[a,b],[],bg]]
 ·rintro⟨d,f,h3⟩ x y ⟨l,r,e⟩
  match l,e with
  | [],e=>simp at e;let⟨rfl,rfl,_⟩:=e;show d
  | [_],e=>simp at e;let⟨_,rfl,rfl,_⟩:=e;show f
  | [_,_],e=>simp at e;let⟨_,_,rfl,rfl,_⟩:=e;show h3
  | [_,_,_],e=>simp at e
  |_::_::_::_::l,e=>simp at e
def Z5{a b c d:Pt}{P:Pt->Pt->Prop}:(∀x y,nI [a,b,c,d] x y->P x y)↔P a b/\P b c/\P c d/\P d a:=by
 constructor
 ·intro h;show#[h a b #[[],[c,d,a],bg],h b c #[[a],[d,a],bg],h c d #[[a,b],[a],bg],h d a #[[a,b,c],[],bg]]
 ·rintro⟨f,g,h3,i⟩ x y ⟨l,r,e⟩
  match l,e with
  | [],e=>simp at e;let⟨rfl,rfl,_⟩:=e;show f
  | [_],e=>simp at e;let⟨_,rfl,rfl,_⟩:=e;show g
  | [_,_],e=>simp at e;let⟨_,_,rfl,rfl,_⟩:=e;show h3
  | [_,_,_],e=>simp at e;let⟨_,_,_,rfl,rfl,_⟩:=e;show i
  | [_,_,_,_],e=>simp at e
  |_::_::_::_::_::l,e=>simp at e
def tE(s h:Pt):θ Pt:=[(0,0),(s.2*h.2,s.1*h.2),(s.2*h.2,s.1*h.2+h.1*s.2),(0,h.1*s.2)]
def Pe{s h:Pt}(sp:0<s.2)(hp:0<h.2)(a:0<h.1):ou (tE s h):=by
 have:=K36.aff_cvx (lo:=s.1*h.2) (aW sp hp) (aW a sp) K39.sq_cvx;simpa [K36.aff,tE] using this
open K37 K36 K34 K33 K39
def Bh{c M N:Int}{T zs:θ Pt}(a:0<c)(b:N=c*M)(eA:(z::T).map (i8 c)=A)(l:∀q∈A,¬j4 q (i8 c z))(d:j_ M (z::T) m sh zs):Told N A sh zs:=by
 have n:=Wa a d;rw[<-b] at n;rw[aN] at n;show#[i8 c z,T.map (i8 c),c*m,?_,λx e=>l x (by rw[<-eA,aN];show .tail _ e),n];rw[<-eA,aN];show qr.refl _
def Il{s t:Pt}(R:uw s t)(b:Bool):∀q∈pU s t b,¬j4 q (0,0):=by
 have sp:=aW R.sp R.tp;have lt:=R.lt;intro q a;cases b <;> (erw[pU,aV,dM,or_false] at a;rcases a with rfl |rfl |rfl <;> (unfold j4;fail;lia))
def Xv{T:θ Pt}(c:um L)(g:∀x,x∈L↔x∈ps)(m:3<=L.length)(e:yV L=z::T)(l:3<=(z::T).length):t9 ps z T:=by
 show#[λD d i=>?_,l];have f:∀{M:θ Pt},um M->M.Nodup:=λ{M} h=>List.Pairwise.imp (R:=j4) (λ{a b} j e=>by subst e;show UP j) h;have p:D.Perm L:=(xR (f d) (f c)).mpr λx=>(i x).trans (g x).symm;have:D=L:=rF (λa b _ _ h k=>Ω k (At h)) d c p;rw[this];show#[ν,e]
def Yq(c:Int)(x y z:Pt):eC (i8 c x) (i8 c y) (i8 c z)=c*c*eC x y z:=by unfold eC;dsimp only[i8];grind
def Ia{c:Int}(a:0<c)(h:0<eC (i8 c x) (i8 c y) (i8 c z)):0<eC x y z:=by
 rw[Yq] at h;apply sA.mp;intro k;have:=dP (dO (aW a a)) k;lia
def HR(x y z:Pt):eC x z y = -eC x y z/\eC z y x = -eC x y z:=by unfold eC;constructor <;> grind
def W0(t:0<eC x y z)(c:¬j4 y x)(d:¬j4 z x):t9 [x,y,z] x [y,z]:=by
 have s:=HR x y z;have j:=HR x z y;have f:x≠y:=λe=>by rw[e] at t;unfold eC at t;simp at t
 have g:x≠z:=λe=>by rw[e] at t;unfold eC at t;grind
 have i:y≠z:=λe=>by rw[e] at t;unfold eC at t;grind
 have a:j4 x y:=((CP x y).resolve_right λh=>h.elim f c);have b:j4 x z:=((CP x z).resolve_right λh=>h.elim g d);rcases CP y z with h |h |h
 ·show Xv (L:=[x,y,z]) (by simp[um,a,b,h]) (λ_=>Iff.rfl) η (by simp[yV,wF,mR,oB,show ¬eC x y z<=0 by lia,show eC z y x<=0 by lia]) η
 ·show Ω h i
 ·show Xv (L:=[x,z,y]) (by simp[um,a,b,h]) (λw=>by simp;grind) η (by simp[yV,wF,mR,oB,show eC x z y<=0 by lia,show ¬eC y z x<=0 by lia]) η
def W1{a b c d:Pt}(f:j4 a d)(e:j4 d b)(g:j4 b c)(h:0<eC a b d)(i:0<eC a b c)(j:0<eC c d b)(k:0<eC c d a):t9 [a,b,c,d] a [b,c,d]:=by
 have l:=(HR a b d).1;have m:=(HR c d b).1;show Xv (L:=[a,d,b,c]) (by simp[um,f,e,g,xG f e,xG e g,xG (xG f e) g]) (λw=>by simp;grind) η (by simp[yV,wF,mR,oB,show eC a d b<=0 by lia,show ¬eC a b c<=0 by lia,show eC c b d<=0 by lia,show ¬eC c d a<=0 by lia]) η
def I0{s t:Pt}(R:uw s t)(b:Bool)(e:[x,y,z]=pU s t b):0<eC x y z:=by
 have k:=aW (aW R.sp R.tp) (show 0<t.1*s.2-s.1*t.2 by have:=R.lt;lia);cases b <;> (erw[pU,SZ,and_true] at e;let⟨rfl,rfl,rfl⟩:=e;unfold eC;fail;grind)
def YM{s t d:Pt}(u:vo s)(o:vo t)(R:uw s t)(O:b=χ->j3 (t.1*s.2-s.1*t.2) (t.2*s.2) d.1 d.2)(q:∀sh zs,Told (s.2*t.2) (pU s t b) sh zs->Q (pc sh zs)):F_pieceS [.lst ((H7 s t b d).map bA)] Q:=by
 have sp:=u.pos;have B:=o.pos;have h:(0:Int)<1:=μ
 have v:BL 1000 (0:Int):=(BL.const (n:=10) μ).mono;have C:BL 1000 (1:Int):=(BL.const (n:=10) μ).mono;have H:0<s.2*t.2:=aW sp B;have I:BL 500 (s.2*t.2):=(u.bot.mul o.bot).mono;have P:=Il R b;have y:∀(c M:Int)(f:Sp×Pt->Pt)(a l i:Sp×Pt),0<c->s.2*t.2=c*M->a.2=(0,0)->[a.2,l.2,i.2]=pU s t b->(∀w∈[a,l,i],w.2=i8 c (f w)) ->
   ∃z T,t9 ([a,l,i].map f) z T/\∀m sh zs,j_ M (z::T) m sh zs->Q (.tup [.int sh,.tup (zs.map pt)]):=λc M f a l i j A D e g=>by
  have E:=g a η;have J:=g l η;have K:=g i η;have eA:([f a,f l,f i]).map (i8 c)=pU s t b:=by
   rw[aN,aN,aN,cD,<-E,<-J,<-K];show e
  have F:∀q∈pU s t b,¬j4 q (i8 c (f a)):=by rw[<-E,D];show P
  show#[f a,[f l,f i],W0 (Ia j (by rw[<-E,<-J,<-K];show I0 R b e)) (λk=>F _ (by rw[<-eA];simp) ((CY j).mpr k)) (λk=>F (i8 c (f i)) (by rw[<-eA];simp) ((CY j).mpr k)),λm sh zs N=>q sh zs (Bh j A eA F N)]
 cases b with
 |true=>
  show#[[((0,1,0,1),(0,0)),((1,1,s.1,s.2),(s.2*t.2,s.1*t.2)),((1,1,t.1,t.2),(s.2*t.2,t.1*s.2))],s.2*t.2,bg,#[H,I],η,λw g=>?_,λc M f j _ A G=>.inl (y c M f _ _ _ j A rfl rfl G)];erw[aV,dM,or_false] at g;rcases g with rfl |rfl |rfl
  ·show#[#[h,h,jC _,jC _,η,η],v,v]
  ·show#[#[h,sp,jC _,#[t.2,bg],η,by fail;grind],C,u.bl.mono]
  ·show#[#[h,B,jC _,#[s.2,jO ..],η,by fail;grind],C,o.bl.mono]
 |false=>
  have L:=O rfl;have U:d.2∣s.2*t.2:=by rw[jO];show K39.low_dvd L
  have V:BL 1000 d.1:=by
   have:=K39.low_top (aW B sp) L;show(((o.bl.mul u.bot).sub (u.bl.mul o.bot)).mono:BL 1000 _).le this
  show#[[((0,1,0,1),(0,0)),((1,1,t.1,t.2),(s.2*t.2,t.1*s.2)),((0,1,d.1,d.2),(0,t.1*s.2-s.1*t.2))],s.2*t.2,bg,#[H,I],η,λw g=>?_,λc M f j _ A G=>.inl (y c M f _ _ _ j A rfl rfl G)];erw[aV,dM,or_false] at g;rcases g with rfl |rfl |rfl
  ·show#[#[h,h,jC _,jC _,η,η],v,v]
  ·show#[#[h,B,jC _,#[s.2,jO ..],η,by fail;grind],C,o.bl.mono]
  ·show#[#[h,L.pos,jC _,U,η,by fail;have:=L.worth;grind],v,V]
def ZU(b:Bool):FD:=λc Q=>∃s t:Pt,c=[pt s,pt t]/\(vo s/\vo t/\uw s t)/\∀a zs,Told (s.2*t.2) (pU s t b) a zs->Q (pc a zs)
def Xb:ι (ZU ζ) (BT F_pieceS) ["lean","steeper"]:=by
 rintro e Q ⟨s,t,rfl,⟨a,c,R⟩,q⟩;rw[cM 0 rfl];unfold BT;nofun;show YM (b:=ζ) (d:=(0,1)) a c R (λz=>by cases z) q
def Xa:ι (ZU χ) (BR kB F_pieceS) ["lean","steeper"]:=by
 rintro f Q ⟨s,t,rfl,⟨a,c,R⟩,q⟩;rw[cM 0 rfl];unfold BR;nofun;show#[t.1,t.2,s.1,s.2,bg,#[c.pos,a.pos],#[c.bl.mono,c.bot.mono,a.bl.mono,a.bot.mono],λp e l=>?_];show YM (b:=χ) (d:=(p,e)) a c R (λ_=>l) q
def Sf:FD:=λb Q=>∃s h:Pt,b=[pt s,pt h]/\(vo s/\(0<h.2/\BL 400 h.2)/\BL 500 h.1/\0<h.1)/\∀a zs,Told (s.2*h.2) (tE s h) a zs->Q (pc a zs)
def Wz:ι Sf (OC F_pieceS UX) ["lean","height","zero","one"]:=by
 rintro Z Q ⟨s,h,rfl,⟨a,⟨A,B⟩,C,T⟩,q⟩;have sp:=a.pos;have g:(0:Int)<1:=μ
 have D:BL 1000 (0:Int):=(BL.const (n:=10) μ).mono;have G:BL 1000 (1:Int):=(BL.const (n:=10) μ).mono;have o:0<s.2*h.2:=aW sp A;have U:BL 500 (s.2*h.2):=(a.bot.mul B).mono;rw[cM 2 rfl];unfold OC;erw[gE,QO,aN,cD,bK,bS];show dN [ap (pt s),ap (pt h),ap (pt (0,1)),ξ] (λK E=>?_) ?_
 ·nofun;show E
 show dN [ap (pt s),ap (pt h),ap (pt (0,1)),ap (pt (1,1))] (λK E=>?_) ?_
 ·nofun;show E
 nofun;show#[s.1,s.2,h.1,h.2,bg,#[sp,A],#[a.bl.mono,a.bot.mono,C.mono,B.mono],λp r l=>?_];have V:BL 1000 p:=(((a.bl.mul B).add (C.mul a.bot)).mono:BL 1000 _).le (K39.low_top o l);show#[[((0,1,0,1),(0,0)),((1,1,s.1,s.2),(s.2*h.2,s.1*h.2)),((1,1,p,r),(s.2*h.2,s.1*h.2+h.1*s.2)),((0,1,h.1,h.2),(0,h.1*s.2))],s.2*h.2,bg,#[o,U],η,λw u=>?_,λc M f i _ W H=>.inl ?_]
 ·erw[aV,dM,or_false] at u;rcases u with rfl |rfl |rfl |rfl
  ·show#[#[g,g,jC _,jC _,η,η],D,D]
  ·show#[#[g,sp,jC _,#[h.2,bg],η,by fail;grind],G,a.bl.mono]
  ·show#[#[g,l.pos,jC _,K39.low_dvd l,η,l.worth],G,V]
  ·show#[#[g,A,jC _,#[s.2,jO ..],η,by fail;grind],D,C.mono]
 ·have I:=λw u=>(H w u).symm;erw[aV,dM,or_false,forall_eq_or_imp,forall_eq] at I;let⟨b,d,j,e⟩:=I;clear H;erw[aN,cD];generalize f ((0,1,0,1),(0,0))=F at *;generalize f ((1,1,s.1,s.2),(s.2*h.2,s.1*h.2))=J at *;generalize f ((1,1,p,r),(s.2*h.2,s.1*h.2+h.1*s.2))=L at *;generalize f ((0,1,h.1,h.2),(0,h.1*s.2))=O at *;have eA:([F,J,L,O]).map (i8 c)=tE s h:=by
   rw[aN,aN,aN,aN,cD,b,d,j,e];rfl
  have P:=aW T sp;have X:∀q∈tE s h,¬j4 q (i8 c F):=by
   rw[b];intro q R;erw[tE,aV,dM,or_false] at R;rcases R with rfl |rfl |rfl |rfl <;> (unfold j4;fail;lia)
  have v:=λ{x y z:Pt} (h:0<eC (i8 c x) (i8 c y) (i8 c z))=>Ia i h;have k:=aW o P;show#[F,[J,L,O],W1 ((CY i).mp (by rw[b,e];show .inr #[bg,P])) ((CY i).mp (by rw[e,d];show .inl o)) ((CY i).mp (by rw[d,j];show .inr #[bg,by fail;lia])) (v (by rw[b,d,e];unfold eC;fail;grind)) (v (by rw[b,d,j];unfold eC;fail;grind)) (v (by rw[d,j,e];unfold eC;fail;grind)) (v (by rw[b,j,e];unfold eC;fail;grind)),λm Y zs N=>q Y zs (Bh i W eA X N)]
abbrev En:=Int×Lb
abbrev l7(e:En):D:=.tup [.int e.1,nr e.2]
abbrev za:=Int×Pt×Lb
abbrev rq(e:za):D:=.tup [.int e.1,pt e.2.1,.lst [nr e.2.2]]
def pk(b:Bool)(y t v:Pt):Prop:=match b with
 |true=>v=y
 |false=>j3 (y.1*t.2-t.1*y.2) (y.2*t.2) v.1 v.2
structure ud(gs:List Pt)(b:Bool)(x:Int)(y:Pt)(n:Nat)(e:En):Prop where
 ex:∃s t,gs[n]?=ψ s/\gs[n+1]?=ψ t/\Told (s.2*t.2) (pU s t b) e.2.1 e.2.2.1/\pk b y t e.2.2.2.2.2
 ky:e.1=n
 mv:e.2.2.2.1=1/\e.2.2.2.2.1=(x,1)
structure qc where
 row:L2.R2.Row
 u:Pt
 l:Pt
 W:Int
 a:Int
 b:Int
 c:Int
 d:Int
structure RX(gs:List Pt)(e:qc):Prop where
 hW:0<e.W
 bW:BL 400 e.W
 V:L2.R2.RowV e.W e.row e.a e.b e.c e.d
 lu:j3 (e.d-e.c) e.W e.u.1 e.u.2
 ll:j3 (e.b-e.a) e.W e.l.1 e.l.2
 mu:e.u∈gs
 ml:e.l∈gs
 ac:e.a<=e.c
 bd:e.b<=e.d
def RX.rs(h:RX gs e):K22.RowS (vJ e.row) e.u e.l:=#[e.row,e.W,e.a,e.b,e.c,e.d,bg,#[h.hW,h.bW],h.V,h.lu,h.ll]
structure sx where
 h:Pt
 bx:θ za
 op:θ En
 cl:θ En
structure rh(gs:List Pt)(e:qc)(p:sx):Prop where
 hh:j3 (min (e.c-e.a) (e.d-e.b)) e.W p.h.1 p.h.2
 b0:p.h.1=0->p.bx=[]
 b1:0<p.h.1->∃b:Lb,p.bx=[(((gs.idxOf e.l:Nat):Int),p.h,b)]/\Told (e.l.2*p.h.2) (tE e.l p.h) b.1 b.2.1/\b.2.2=(1,(e.row.x,1),e.row.l0)
 ol:p.op.length=gs.idxOf e.u-gs.idxOf e.l
 oe:∀i x,p.op[i]?=ψ x->ud gs ζ e.row.x e.row.u0 (gs.idxOf e.l+i) x
 cl':p.cl.length=gs.idxOf e.l-gs.idxOf e.u
 ce:∀i x,p.cl[i]?=ψ x->ud gs χ e.row.x e.row.u1 (gs.idxOf e.u+i) x
def Iy:FD:=λb Q=>∃(a:θ Pt)(e:qc),b=[vJ e.row,pts a,u_ a]/\(ph a/\RX a e)/\∀L:θ En,L.length=a.idxOf e.u-a.idxOf e.l->(∀i x,L[i]?=ψ x->ud a ζ e.row.x e.row.u0 (a.idxOf e.l+i) x)->Q (.lst (L.map l7))
def Iu:FD:=λb Q=>∃(a:θ Pt)(e:qc),b=[vJ e.row,pts a,u_ a]/\(ph a/\RX a e)/\∀L:θ En,L.length=a.idxOf e.l-a.idxOf e.u->(∀i x,L[i]?=ψ x->ud a χ e.row.x e.row.u1 (a.idxOf e.u+i) x)->Q (.lst (L.map l7))
def Yk{α:Type}{L:θ α}{x y:α}(h:(L++[x])[i]?=ψ y):L[i]?=ψ y\/(i=L.length/\y=x):=by
 by_cases k:i<L.length
 ·rw[dB k] at h;show .inl h
 ·rw[dJ ν] at h;have:i-L.length=0:=by have:=(bF.mp h).1;simp at this;lia
  rw[this] at h;show .inr #[ν,(cW h).symm]
def wZ{a:θ Pt}{k:Nat}{s:Pt}(b:a[k]?=ψ s){Q:D->Prop}(q:Q (pt s)):f8 (pts a) (.int (k:Int)) Q:=rS (qQ (by rw[bC,b];rfl)) q
abbrev yN(a b c:D)(L:θ En)(x y:Option L2.R2.S):L2.R2.En:=[ap a,ap b,ap c,ψ (.own (L.map l7)),x,y]
def k_{c:Int}{t:RS}(z:u<gs.length)(A:w<gs.length)
  (g:∀(n:Nat)(L:θ En)(y:Option L2.R2.S)(F:pd)(s r:Pt),gs[n]?=ψ s->gs[n+1]?=ψ r->L.length<=gs.length->(∀(e:En)(y:Option L2.R2.S),ud gs b c v n e->F.nx (yN RD (pts gs) PD (L++[e]) (ap (.int (n:Nat))) y))->t F (yN RD (pts gs) PD L (ap (.int (n:Nat))) y))
  (d:∀(L:θ En)(x y:Option L2.R2.S),L.length=w-u->(∀i x,L[i]?=ψ x->ud gs b c v (u+i) x)->E.nx (yN RD (pts gs) PD L x y)):WG (cA 4) t (lQ (u:Int) (((w:Nat):Int)-((u:Nat):Int)).toNat) E (yN RD (pts gs) PD [] ξ ξ):=by
 rw[show(((w:Nat):Int)-((u:Nat):Int)).toNat=w-u by lia];show uW _ _ (λi a=>∃(L:θ En)(x y:Option L2.R2.S),(L.length=i/\∀i x,L[i]?=ψ x->ud gs b c v (u+i) x)/\a=yN RD (pts gs) PD L x y) ?_ (λa ⟨L,x,y,⟨l,h⟩,e⟩=>e▸d L x y l h) _ #[[],ξ,ξ,#[bg,λi x h=>by simp at h],bg];rintro i a hi ⟨L,x,y,⟨f,k⟩,rfl⟩ F _ _ m _;erw[cA,yN,aH,aI];rw[show((u:Nat):Int)+(i:Int)=((u+i:Nat):Int) by lia];show g (u+i) L y F _ _ (aG ν) (aG ν) ν λe y o=>m _ #[L++[e],_,y,#[by rw[bI,f];rfl,λj x q=>?_],bg];rcases Yk q with h | ⟨rfl,rfl⟩
 ·show k j x h
 ·rw[f];show o
def Rg:ι Iy (GT K22.F_lslope (ZU ζ) F_shK K22.F_uslope) ["row","leans","places","told","number","piece"]:=by
 rintro E Q ⟨b,e,rfl,⟨G,X⟩,q⟩;have z:=zY X.mu;have A:=zY X.ml;have H:=G.len;have R:=X.rs;rw[cM 3 rfl];unfold GT;erw[gE,Ds,aN,cD,bK,bS];generalize B:vJ e.row=d at R⊢;generalize o:u_ b=f;show dN (yN d (pts b) f [] ξ ξ) (λK g=>by nofun;show g) ?_;show cV (λa=>∃(L:θ En)(x y:Option L2.R2.S),(L.length=b.idxOf e.u-b.idxOf e.l/\∀i x,L[i]?=ψ x->ud b ζ e.row.x e.row.u0 (b.idxOf e.l+i) x)/\a=yN d (pts b) f L x y) (λK g=>?_) ?_
 ·erw[iA,Rn,aE,aU,r2,cE,bH,yN,aA,aB];show#[d,e.u,e.l,bg,R,?_];rw[<-o];show WP X.ml #[d,e.u,e.l,bg,R,WP X.mu ?_];rw[o];show#[#[#[ν,ν],#[ν,ν]],k_ A z (λn L y F s t j m v w=>?_) λL x y l h=>g _ #[L,x,y,#[l,h],bg]];unfold zF;show cV (λa=>∃c zs,Told (s.2*t.2) (pU s t ζ) c zs/\a=yN d (pts b) f L (ap (.int (n:Nat))) (ap (pc c zs))) (λI C=>?_) ?_
  ·erw[dC,cE,aE,aU,r2,aQ,rC,kO,yN,aA,aB,aH,aI];show wZ j (wZ (k:=n+1) m #[s,t,bg,G.rise j m,λc zs T=>C _ #[c,zs,T,bg]])
  rintro a ⟨c,zs,T,rfl⟩;rw[<-B] at w⊢;erw[yB,gQ,cE,aE,aU,r2,bH,aQ,rC,yN,iT,Tz,aA,aB,aH,aI,aT,cK,aJ];have:=w ((n:Int),c,zs,1,(e.row.x,1),e.row.u0) (ap (pc c zs)) #[#[s,t,j,m,T,bg],bg,bg,bg];erw[yN,aX] at this;show#[e.row.x,_,bg,sz2,sz2,iY ν,this]
 rintro a ⟨L,x,y,⟨v,D⟩,rfl⟩;erw[sC,L2.R2.S.fz,eP,bH,yN,aA,aB,aH,aI];show q L v D
def Re:ι Iu (GP (ZU χ) K22.F_lslope kB F_shK K22.F_uslope) ["row","leans","places","told","number","piece"]:=by
 rintro M Q ⟨b,e,rfl,⟨G,X⟩,q⟩;have B:=zY X.mu;have C:=zY X.ml;have N:=G.len;have R:=X.rs;have V:=X.V;have bW:=X.bW;rw[cM 3 rfl];unfold GP;erw[gE,Ds,aN,cD,bK,bS];generalize D:vJ e.row=d at R⊢;generalize v:u_ b=g;show dN (yN d (pts b) g [] ξ ξ) (λK j=>by nofun;show j) ?_;show cV (λa=>∃(L:θ En)(x y:Option L2.R2.S),(L.length=b.idxOf e.l-b.idxOf e.u/\∀i x,L[i]?=ψ x->ud b χ e.row.x e.row.u1 (b.idxOf e.u+i) x)/\a=yN d (pts b) g L x y) (λK j=>?_) ?_
 ·erw[iA,Rn,aE,aU,r2,cE,bH,yN,aA,aB];show#[d,e.u,e.l,bg,R,?_];rw[<-v];show WP X.mu #[d,e.u,e.l,bg,R,WP X.ml ?_];rw[v];show#[#[#[ν,ν],#[ν,ν]],k_ B C (λn L y F s t m f w z=>?_) λL x y l h=>j _ #[L,x,y,#[l,h],bg]];have o:=G.each t (bJ f);unfold zE;show cV (λa=>∃c zs,Told (s.2*t.2) (pU s t χ) c zs/\a=yN d (pts b) g L (ap (.int (n:Nat))) (ap (pc c zs))) (λO E=>?_) ?_
  ·erw[dC,cE,aE,aU,r2,aQ,rC,kO,yN,aA,aB,aH,aI];show wZ m (wZ (k:=n+1) f #[s,t,bg,G.rise m f,λc zs T=>E _ #[c,zs,T,bg]])
  rintro a ⟨c,zs,T,rfl⟩;rw[<-D] at z⊢;have A:=V.u1.bl V.bd bW;erw[yB,gQ,cE,aE,aU,r2,bH,aQ,rC,kO,yN,iT,Ua,aA,aB,aH,aI,aT,cK,aJ];show wZ (k:=n+1) f #[_,_,_,_,bg,#[V.u1.pos,o.pos],#[A.1.mono,A.2.mono,o.bl.mono,o.bot.mono],λp H I=>?_];have:=z ((n:Int),c,zs,1,(e.row.x,1),(p,H)) (ap (pc c zs)) #[#[s,t,m,f,T,I],bg,bg,bg];erw[yN,aX] at this;show#[e.row.x,_,bg,sz2,sz2,iY ν,this]
 rintro a ⟨L,x,y,⟨w,J⟩,rfl⟩;erw[sC,L2.R2.S.fz,eP,bH,yN,aA,aB,aH,aI];show q L w J
def Iq:FD:=λc Q=>∃(a:θ Pt)(e:qc)(h:Pt),c=[vJ e.row,pt h,u_ a]/\(ph a/\RX a e)/\(0<h.2/\BL 400 h.2/\BL 500 h.1/\cP h.1 h.2=1/\0<=h.1) /\
 ∀L:θ za,(h.1=0->L=[])->(0<h.1->∃b:Lb,L=[(((a.idxOf e.l:Nat):Int),h,b)]/\Told (e.l.2*h.2) (tE e.l h) b.1 b.2.1/\b.2.2=(1,(e.row.x,1),e.row.l0))->Q (.lst (L.map rq))
def Rb:ι Iq (SG Sf K22.F_lslope F_shK) ["row","height","places","lean","bit"]:=by
 rintro A Q ⟨m,e,h,rfl,⟨G,X⟩,⟨n,o,s,b,B⟩,q⟩;have R:=X.rs;rw[cM 2 rfl];unfold SG;erw[gE,QO,aN,cD,bK,bS];generalize j:vJ e.row=f at R⊢;generalize v:u_ m=i;show dN [ap f,ap (pt h),ap i,ap (pt e.l),ξ] (λK c=>?_) ?_
 ·erw[dC,cE,aE,aU,bH,aA,aB,aH,aI];show#[f,e.u,e.l,bg,R,c]
 have g:k5 6 (pt h) (.tup [.int 0,.int 1])=ψ (decide (h=(0,1))):=ri 4 h (0,1);by_cases z:h=(0,1)
 ·rw[decide_eq_true z] at g;erw[cS,gN,cU,r2,gQ,aE,aU,aQ,rC,eP,nO,aA,aB,aT,cK,sz2,sz0,true_and];erw[Ca,g,if_true];show q [] (λ_=>rfl) (λk=>by rw[z] at k;show Ω k μ)
 rw[decide_eq_false z] at g;show dN [ap f,ap (pt h),ap i,ap (pt e.l),ξ] (λK c=>?_) ?_
 ·erw[gN,cU,r2,gQ,aE,aU,aQ,rC,fB,aA,aB,aT,cK,sz2,true_and];erw[Ca,g,aO,if_false];show c
 have w:h.1≠0:=λy=>z (by
  rw[y] at b;have:h.2.natAbs=1:= ~~~b
  show nX y (by show h.2=1;lia))
 show cV (λa=>∃d zs,Told (e.l.2*h.2) (tE e.l h) d zs/\a=[ap f,ap (pt h),ap i,ap (pt e.l),ap (nr (d,zs,1,(e.row.x,1),e.row.l0))]) (λK c=>?_) ?_
 ·rw[<-j];erw[dC,gQ,cE,aE,aU,r2,bH,aQ,rC,iT,jS,aA,aB,aH,aI,aT,cK];show#[e.l,h,bg,#[G.each e.l X.ml,#[n,o],s,ν],λd zs T=>#[e.row.x,_,bg,sz2,?_]];rw[j];show c _ #[d,zs,T,bg]
 rintro a ⟨d,zs,T,rfl⟩;erw[eP,nO,gQ,aE,aU,r2,bH,aA,aB,aT,cK];rw[<-v];show WP X.ml #[sz1,sz3,sz1,q [(_,h,_)] (λy=>Ω y w) (λ_=>#[_,bg,T,bg])]
inductive oq(gs:List Pt):List qc->List sx->Prop
 |nil:oq gs [] []
 |cons {e:qc} {p:sx} {es:List qc} {ps:List sx}:rh gs e p->oq gs es ps->oq gs (e::es) (p::ps)
def oq.snoc(h:oq gs es ps)(x:rh gs e p):oq gs (es++[e]) (ps++[p]):=by
 induction h with
 |nil=>show .cons x .nil
 |cons y _ a=>show .cons y a
abbrev rj(a:θ sx):θ za:=a.flatMap (·.bx)
abbrev vG(a:θ sx):θ En:=a.flatMap (·.op)
abbrev cls(a:θ sx):θ En:=a.flatMap (·.cl)
def Sv(a:θ sx)(p:sx):rj (a++[p])=rj a++p.bx:=by unfold rj;rw[nR];simp
def Wl(a:θ sx)(p:sx):vG (a++[p])=vG a++p.op:=by unfold vG;rw[nR];simp
def Tf(a:θ sx)(p:sx):cls (a++[p])=cls a++p.cl:=by unfold cls;rw[nR];simp
def rh.few{f:θ Pt}(G:ph f)(X:RX f e)(h:rh f e p):p.bx.length<=1/\p.op.length+p.cl.length<=15:=by
 have i:=zY X.mu;have j:=zY X.ml;have l:=G.len;have m:=h.ol;have n:=h.cl';show#[?_,ν];by_cases z:p.h.1=0
 ·rw[h.b0 z];show dZ _
 ·have:=X.ac;have:=X.bd;have w:=h.hh.worth;have o:=h.hh.pos;have g:=X.hW;have:0<=p.h.1:=by
   apply CB.mp;intro k;have q:=fV k g;have s:0<=min (e.c-e.a) (e.d-e.b)*p.h.2:=iJ ν ν;lia
  let⟨b,eb,_⟩:=h.b1 ν;rw[eb];show aY _
def oq.few{a:θ Pt}(G:ph a)(X:∀e∈es,RX a e)(h:oq a es ps):(rj ps).length<=es.length/\(vG ps).length+(cls ps).length<=15*es.length:=by
 induction h with
 |nil=>show#[aY _,aY _]
 | @cons e p es ps x _ b=>
  let⟨d,f⟩:=b λy c=>X y (.tail _ c);let⟨g,i⟩:=x.few G (X e (.head _));erw[rj,vG,cls,mY,bI,aT] at *;lia
def Iz:FD:=λd Q=>∃(a:θ Pt)(b:θ qc),d=[.lst (b.map λe=>vJ e.row),pts a]/\(ph a/\(∀e∈b,RX a e)/\b.length<=12)/\∀c:θ sx,oq a b c->Q (.tup [.lst ((rj c).map rq),.lst ((vG c).map l7),.lst ((cls c).map l7)])
def Vs{a b W p q d c:Int}(e:0<W)(x:j3 a W p q)(y:j3 b W d c):p*c<d*q↔a<b:=by
 have j:=x.worth;have k:=y.worth;have l:=x.pos;have m:=y.pos;have f:=aW l m;have g:p*c*W=a*(q*c):=by rw[show p*c*W=p*W*c by grind,j];grind
 have i:d*q*W=b*(q*c):=by rw[show d*q*W=d*W*q by grind,k];grind
 constructor
 ·intro h;have:=wQ h e;rw[g,i] at this;show xO this (dO f)
 ·intro h;have:=wQ h f;rw[<-g,<-i] at this;show xO this (dO e)
def WU{a W p q:Int}(b:0<W)(c:0<=a)(x:j3 a W p q):0<=p:=by
 apply CB.mp;intro k;have d:=fV k b;have e:0<=a*q:=iJ c (dO x.pos);have:=x.worth;lia
def Ri:ι Iz (Hm BW Iq Iu N0 Iy N5) ["rows","leans","places","boxes","openings","closings","row","height"]:=by
 rintro ds Q ⟨j,T,rfl,⟨G,E,l12⟩,q⟩;have gl:=G.len;rw[cM 6 rfl];unfold Hm;erw[gE,V8,aN,cD,bK,bS];generalize hR:D.lst (T.map λe=>vJ e.row)=n;generalize U:pts j=o;show dN [ap n,ap o,ap (u_ j),ξ,ξ,ξ,ξ,ξ] (λK s=>?_) ?_
 ·rw[<-U] at s⊢;erw[dC,Kx,oC,F6,bH,AX,QO,cD,cQ,aA,aB,aH,aI];unfold Am;rw[Nd 0 j];show#[iY (by rw[aJ];have:=Ψ jE (UM 0 j);simp at this;lia),nZ (λg=>∃a b,g=[a,b]) (λx:θ Int×D=>D.tup [x.2,.tup (x.1.map .int)]) pairD (y4 0 j) ?_ #[ξ,ξ,bg] ?_]
  ·rintro x _ g ⟨a,b,rfl⟩ H m;erw[kW,eG,kU,cA,gQ,aE,aU,bH,aT,cK,true_and,aA,aB,aH,aI];show#[sz2,m _ #[_,_,bg]]
  ·show#[y4 0 j,bg,?_,?_]
   ·rw[UM];show sT _ (λa b I e=>I (K22.ck_inj e)) G.nodup
   ·rw[UM,Nq];show s
 show dN [ap n,ap o,ap (u_ j),ψ (.own []),ξ,ξ,ξ,ξ] (λK s=>?_) ?_
 ·nofun;show s
 show dN [ap n,ap o,ap (u_ j),ψ (.own []),ψ (.own []),ξ,ξ,ξ] (λK s=>?_) ?_
 ·nofun;show s
 show dN [ap n,ap o,ap (u_ j),ψ (.own []),ψ (.own []),ψ (.own []),ξ,ξ] (λK s=>?_) ?_
 ·nofun;show s
 show cV (λg=>∃(f:θ sx)(x y:Option L2.R2.S),oq j T f/\g=[ap n,ap o,ap (u_ j),ψ (.own ((rj f).map rq)),ψ (.own ((vG f).map l7)),ψ (.own ((cls f).map l7)),x,y]) (λK s=>?_) ?_
 ·rw[<-hR];erw[iA,riL,bH,aA];rw[hR];show oN (λe=>vJ e.row) T (λY g=>∃(f:θ sx)(x y:Option L2.R2.S),oq j Y f/\g=[ap n,ap o,ap (u_ j),ψ (.own ((rj f).map rq)),ψ (.own ((vG f).map l7)),ψ (.own ((cls f).map l7)),x,y]) ?_ ?_ #[[],ξ,ξ,.nil,bg]
  ·rintro Y e td g Z ⟨f,x,y,P,rfl⟩ F hr I;have ld:Y.length<=11:=(by have:=Ψ jE Z;simp at this;lia);have X:=E e (by rw[Z];simp);let⟨f1,f2⟩:=P.few G λy hy=>E y (by rw[Z];simp[hy]);have v:=X.hW;have bW:=X.bW;have V:=X.V;have iu:=zY X.mu;have xn:=zY X.ml;unfold SI;erw[cA,aH,aI];show cV (λg=>∃h:Pt,j3 (e.c-e.a) e.W h.1 h.2/\g=[ap n,ap o,ap (u_ j),ψ (.own ((rj f).map rq)),ψ (.own ((vG f).map l7)),ψ (.own ((cls f).map l7)),ap (vJ e.row),ap (pt h)]) (λH m=>?_) ?_
   ·erw[dC,cE,aE,aU,bH,aA,aB,aH,aI];show#[e.W,e.row,e.a,e.b,e.c,e.d,bg,#[v,bW],V,λp A L=>m _ #[(p,A),L,bg]]
   rintro g ⟨h,w,rfl⟩;let⟨h2,J,N,hc⟩:=Vr v bW ((V.bc.sub V.ba).mono) w;show cV (λg=>∃h:Pt,j3 (min (e.c-e.a) (e.d-e.b)) e.W h.1 h.2/\g=[ap n,ap o,ap (u_ j),ψ (.own ((rj f).map rq)),ψ (.own ((vG f).map l7)),ψ (.own ((cls f).map l7)),ap (vJ e.row),ap (pt h)]) (λH m=>?_) ?_
   ·erw[gN,cU,cE,aE,aU,bH,aA,aB];show#[e.W,e.row,e.a,e.b,e.c,e.d,bg,#[v,bW],V,λp A L=>?_];let⟨z2,z3,z4,z5⟩:=Vr v bW ((V.bd.sub V.bb).mono) L;show#[p,A,h.1,h.2,bg,#[z4.mono,z3.mono,N.mono,J.mono],?_];have C:=Vs v L w;by_cases k:p*h.2<h.1*A
    ·erw[k,decide_true,if_true,dC,cE,aE,aU,bH,aA,aB,aH,aI];show#[e.W,e.row,e.a,e.b,e.c,e.d,bg,#[v,bW],V,λp A L=>m _ #[(p,A),?_,bg]];rw[show min (e.c-e.a) (e.d-e.b)=e.d-e.b by have:=C.mp k;lia];show L
    ·erw[k,decide_false,aO,if_false,fB];show m _ #[h,?_,bg];rw[show min (e.c-e.a) (e.d-e.b)=e.c-e.a by have:¬e.d-e.b<e.c-e.a:=λy=>k (C.mpr y);lia];show w
   clear hc N J h2 w h;rintro g ⟨h,w,rfl⟩;have nn:0<=min (e.c-e.a) (e.d-e.b):=(by have:=X.ac;have:=X.bd;lia);have bm:BL 450 (min (e.c-e.a) (e.d-e.b)):=by
    have k1:BL 450 (e.c-e.a):=(V.bc.sub V.ba).mono;have k2:BL 450 (e.d-e.b):=(V.bd.sub V.bb).mono;rcases Int.le_total (e.c-e.a) (e.d-e.b) with z |z
    ·rw[DH z];show k1
    ·rw[OS z];show k2
   let⟨h2,J,N,hc⟩:=Vr v bW bm w;have h0:=WU v nn w;show cV (λg=>∃B:θ za,((h.1=0->B=[])/\(0<h.1->∃b:Lb,B=[(((j.idxOf e.l:Nat):Int),h,b)]/\Told (e.l.2*h.2) (tE e.l h) b.1 b.2.1/\b.2.2=(1,(e.row.x,1),e.row.l0)))/\g=[ap n,ap o,ap (u_ j),ψ (.own ((rj f++B).map rq)),ψ (.own ((vG f).map l7)),ψ (.own ((cls f).map l7)),ap (vJ e.row),ap (pt h)]) (λH m=>?_) ?_
   ·erw[GC,cE,aE,aU,bH,aA,aB,aH,aI];show#[j,e,h,bg,#[G,X],#[h2,J,N,hc,h0],λL O R=>#[iY ?_,?_]]
    ·have:L.length<=1:=by
      by_cases z:h.1=0
      ·rw[O z];show dZ _
      ·let⟨b,eb,_⟩:=R ν;rw[eb];show aY _
     rw[aJ,aJ];lia
    ·rw[<-aX];show m _ #[L,#[O,R],bg]
   rintro g ⟨B,⟨O,R⟩,rfl⟩;show cV (λg=>∃L:θ En,(L.length=j.idxOf e.u-j.idxOf e.l/\∀i x,L[i]?=ψ x->ud j ζ e.row.x e.row.u0 (j.idxOf e.l+i) x)/\g=[ap n,ap o,ap (u_ j),ψ (.own ((rj f++B).map rq)),ψ (.own ((vG f++L).map l7)),ψ (.own ((cls f).map l7)),ap (vJ e.row),ap (pt h)]) (λH m=>?_) ?_
   ·erw[GC,cE,aE,aU,bH,aA,aB,aH,aI];rw[<-U] at m⊢;show#[j,e,bg,#[G,X],λL lL hL=>#[iY (by rw[aJ,aJ];lia),?_]];rw[<-aX];show m _ #[L,#[lL,hL],bg]
   rintro g ⟨L,⟨lL,hL⟩,rfl⟩;erw[GC,cE,aE,aU,bH,aA,aB,aH,aI];rw[<-U] at I⊢;show#[j,e,bg,#[G,X],λM lM hM=>#[iY (by rw[aJ,aJ];lia),?_]];rw[<-aX];show I _ #[f++[#[h,B,L,M]],ap (vJ e.row),ap (pt h),P.snoc #[w,O,R,lL,hL,lM,hM],?_];rw[Sv,Wl,Tf]
  ·rintro g ⟨f,x,y,P,rfl⟩;show s _ #[f,x,y,P,bg]
 rintro g ⟨f,x,y,P,rfl⟩;erw[sC,L2.R2.S.fz,eP,gQ,aE,aU,bH,aA,aB,aH,aI,aT,cK];show#[sz3,q f P]
def GB{k a x:Int}(b:0<k)(e:x=k*a):(0<x↔0<a)/\(0<=x↔0<=a):=by
 subst e;show#[#[λh=>?_,λh=>aW b h],#[λh=>?_,λh=>iJ (dO b) h]]
 ·apply sA.mp;intro n;have:=dP (dO b) n;lia
 ·apply CB.mp;intro n;have:=mU b n;lia
section
variable{s t h:Pt}{X Y W:Int}
def D6(R:uw s t):(ul (s.2*t.2) (pU s t ζ) X Y W↔0<s.2*Y-s.1*X/\0<W-X/\0<t.1*X-t.2*Y)/\(vn (s.2*t.2) (pU s t ζ) X Y W↔0<=s.2*Y-s.1*X/\0<=W-X/\0<=t.1*X-t.2*Y):=by
 have sp:=R.sp;have c:=R.tp;have b:=aW sp c;have g:0<t.1*s.2-s.1*t.2:=by have:=R.lt;lia
 have d:=GB (a:=s.2*Y-s.1*X) (aW b c) (x:=m8 (s.2*t.2) X Y W (0,0) (s.2*t.2,s.1*t.2)) (by unfold m8 KP qt;fail;grind);have e:=GB (a:=W-X) (aW b g) (x:=m8 (s.2*t.2) X Y W (s.2*t.2,s.1*t.2) (s.2*t.2,t.1*s.2)) (by unfold m8 KP qt;fail;grind);have f:=GB (a:=t.1*X-t.2*Y) (aW b sp) (x:=m8 (s.2*t.2) X Y W (s.2*t.2,t.1*s.2) (0,0)) (by unfold m8 KP qt;fail;grind);constructor
 ·show Ze.trans ?_;rw[d.1,e.1,f.1]
 ·show Ze.trans ?_;rw[d.2,e.2,f.2]
def Za(R:uw s t):(ul (s.2*t.2) (pU s t χ) X Y W↔0<t.2*Y-t.1*X/\0<(t.1*s.2-s.1*t.2)*W+s.1*t.2*X-s.2*t.2*Y/\0<X)/\(vn (s.2*t.2) (pU s t χ) X Y W↔0<=t.2*Y-t.1*X/\0<=(t.1*s.2-s.1*t.2)*W+s.1*t.2*X-s.2*t.2*Y/\0<=X):=by
 have sp:=R.sp;have f:=R.tp;have b:=aW sp f;have g:0<t.1*s.2-s.1*t.2:=by have:=R.lt;lia
 have c:=GB (a:=t.2*Y-t.1*X) (aW b sp) (x:=m8 (s.2*t.2) X Y W (0,0) (s.2*t.2,t.1*s.2)) (by unfold m8 KP qt;fail;grind);have d:=GB (a:=(t.1*s.2-s.1*t.2)*W+s.1*t.2*X-s.2*t.2*Y) b (x:=m8 (s.2*t.2) X Y W (s.2*t.2,t.1*s.2) (0,t.1*s.2-s.1*t.2)) (by unfold m8 KP qt;fail;grind);have e:=GB (a:=X) (aW b g) (x:=m8 (s.2*t.2) X Y W (0,t.1*s.2-s.1*t.2) (0,0)) (by unfold m8 KP qt;fail;grind);constructor
 ·show Ze.trans ?_;rw[c.1,d.1,e.1]
 ·show Ze.trans ?_;rw[c.2,d.2,e.2]
def Bv(sp:0<s.2)(hp:0<h.2)(i:0<h.1):(ul (s.2*h.2) (tE s h) X Y W↔0<s.2*Y-s.1*X/\0<W-X/\0<h.1*s.2*W+s.1*h.2*X-s.2*h.2*Y/\0<X)/\(vn (s.2*h.2) (tE s h) X Y W↔0<=s.2*Y-s.1*X/\0<=W-X/\0<=h.1*s.2*W+s.1*h.2*X-s.2*h.2*Y/\0<=X):=by
 have b:=aW sp hp;have c:=aW i sp;have d:=GB (a:=s.2*Y-s.1*X) (aW b hp) (x:=m8 (s.2*h.2) X Y W (0,0) (s.2*h.2,s.1*h.2)) (by unfold m8 KP qt;fail;grind);have e:=GB (a:=W-X) (aW b c) (x:=m8 (s.2*h.2) X Y W (s.2*h.2,s.1*h.2) (s.2*h.2,s.1*h.2+h.1*s.2)) (by unfold m8 KP qt;fail;grind);have f:=GB (a:=h.1*s.2*W+s.1*h.2*X-s.2*h.2*Y) b (x:=m8 (s.2*h.2) X Y W (s.2*h.2,s.1*h.2+h.1*s.2) (0,h.1*s.2)) (by unfold m8 KP qt;fail;grind);have g:=GB (a:=X) (aW b c) (x:=m8 (s.2*h.2) X Y W (0,h.1*s.2) (0,0)) (by unfold m8 KP qt;fail;grind);constructor
 ·show Z5.trans ?_;rw[d.1,e.1,f.1,g.1]
 ·show Z5.trans ?_;rw[d.2,e.2,f.2,g.2]
end
def ind(p:Prop)[Decidable p]:Int:=if p then 1 else 0
def sD{p q:Prop}[Decidable p][Decidable q](h:p↔q):ind p=ind q:=by unfold ind;erw[h]
def QR{e lo hi:Int}{X Y W:Int}(d:ul e A X Y W↔0<lo/\0<hi)(f:vn e A X Y W↔0<=lo/\0<=hi)(mono:lo<=0->0<hi)(ne:uk e A X Y W≠0):(if uk e A X Y W=1 then(1:Int) else 0)=ind (0<lo)-ind (hi<0):=by
 rcases Qn (sh:=e) (cs:=A) (X:=X) (Y:=Y) (W:=W) with⟨v,o⟩ | ⟨v,_,_⟩ | ⟨v,c,o⟩
 ·let⟨a,b⟩:=d.mp o;rw[υ v];unfold ind;rw[υ a,ω ν];rfl
 ·show Ω v ne
 ·have:¬(0<=lo/\0<=hi):=λz=>c (f.mpr z);rw[ω ν];unfold ind;by_cases z:0<lo
  ·rw[υ z,υ ν];rfl
  ·have:=mono ν;rw[ω z,ω ν];rfl
def fO(R Z:Int)(g:Pt):Int:=ind (g.1*R<g.2*Z)
def fC(R Z:Int)(g:Pt):Int:=ind (0<g.1*R+g.2*Z)
noncomputable abbrev vB (X Y V:Int) (b:Lb):Int:=oz ζ X Y V b
noncomputable abbrev Qs (X Y V:Int) (b:Lb):Int:=if vB X Y V b=1 then 1 else 0
def Yt{X Y V e:Int}{v:Pt}(a:0<e)(T:Told e A b.1 b.2.1)(c:b.2.2.1=1)(d:b.2.2.2.1=(x,1))(f:b.2.2.2.2=v):vB X Y V b=uk e A ((X-x*V)*v.2) (Y*v.2-v.1*V) (V*v.2):=by
 unfold vB oz bX bY bW;rw[υ rfl,c,d,f,Ov a T];fail;congr 1 <;> grind
section
variable{X Y V x W:Int}{gs:θ Pt}
def Wk{c:Int}{s t:Pt}(l:0<W)(m:j3 c W y.1 y.2)(G:ph gs)(o:ud gs ζ x y n e)(q:gs[n]?=ψ s)(u:gs[n+1]?=ψ t):
  (0<X-x*V->X-x*V<V->vB X Y V e.2≠0->Qs X Y V e.2=fO ((X-x*V)*W) (Y*W-c*V) s-fO ((X-x*V)*W) (Y*W-c*V) t)/\((X-x*V<0\/V<X-x*V)->vB X Y V e.2 = -1):=by
 let⟨K,L,v,w,T,d⟩:=o.ex;rw[q] at v;rw[u] at w;cases v;cases w;let⟨_,_,R⟩:=G.rise q u;have d:e.2.2.2.2.2=y:=d;have sp:=R.sp;have f:=R.tp;have lt:=R.lt;have A:=aW sp f;have a:=m.pos;have M:=m.worth;rw[Qs,Yt A T o.mv.1 o.mv.2 d];let⟨g,b⟩:=D6 (X:=(X-x*V)*y.2) (Y:=Y*y.2-y.1*V) (W:=V*y.2) R;generalize N:X-x*V=P at g b⊢;have B:V*y.2-P*y.2=(V-P)*y.2:=δ
 have h:W*(s.2*(Y*y.2-y.1*V)-s.1*(P*y.2))=y.2*(s.2*(Y*W-c*V)-s.1*(P*W)):=δ
 have i:W*(t.1*(P*y.2)-t.2*(Y*y.2-y.1*V))=y.2*(t.1*(P*W)-t.2*(Y*W-c*V)):=δ
 have C:=nG l a h;have D:=nG l a i;rw[B] at g b;have O:s.2*(t.1*(P*y.2)-t.2*(Y*y.2-y.1*V))+t.2*(s.2*(Y*y.2-y.1*V)-s.1*(P*y.2))=(t.1*s.2-s.1*t.2)*(P*y.2):=δ
 generalize s.2*(Y*y.2-y.1*V)-s.1*(P*y.2)=lo at *;generalize t.1*(P*y.2)-t.2*(Y*y.2-y.1*V)=hi at *;show#[λj E ne=>?_,λk=>?_]
 ·have F:0<(V-P)*y.2:=aW ν a;have Q:0<(t.1*s.2-s.1*t.2)*(P*y.2):=aW ν (aW j a);rw[QR (lo:=lo) (hi:=hi) (g.trans #[λz=>#[z.1,z.2.2],λz=>#[z.1,F,z.2]]) (b.trans #[λz=>#[z.1,z.2.2],λz=>#[z.1,ν,z.2]]) (λz=>?_) ne]
  ·unfold fO;rw[sD (C.1.trans (show _↔s.1*(P*W)<s.2*(Y*W-c*V) by lia)),sD (D.2.trans (show _↔t.1*(P*W)<t.2*(Y*W-c*V) by lia))]
  ·have U:=dP (dO f) z;have H:0<s.2*hi:=ν;show(GB sp rfl).1.mp H
 ·show HM λz=>?_;let⟨I,Z,J⟩:=b.mp z;have b1:=iJ (dO f) I;have b2:=iJ (dO sp) J;rcases k with j |E
  ·have:(t.1*s.2-s.1*t.2)*(P*y.2)<0:=mU ν (fV j a);lia
  ·have:(V-P)*y.2<0:=fV ν a;lia
def Te{s t:Pt}(j:0<W)(k:j3 d W y.1 y.2)(G:ph gs)(o:ud gs χ x y n e)(l:gs[n]?=ψ s)(m:gs[n+1]?=ψ t):
  (0<X-x*V->X-x*V<V->vB X Y V e.2≠0->Qs X Y V e.2=fC ((V-(X-x*V))*W) (Y*W-d*V) t-fC ((V-(X-x*V))*W) (Y*W-d*V) s)/\((X-x*V<0\/V<X-x*V)->vB X Y V e.2 = -1):=by
 let⟨J,K,q,u,T,b⟩:=o.ex;rw[l] at q;rw[m] at u;cases q;cases u;let⟨_,_,R⟩:=G.rise l m;generalize B:e.2.2.2.2.2=v at b;have b:j3 (y.1*t.2-t.1*y.2) (y.2*t.2) v.1 v.2:=b;have sp:=R.sp;have w:=R.tp;have lt:=R.lt;have C:=aW sp w;have L:=k.pos;have M:=k.worth;have a:=b.pos;have N:v.1*t.2*W=(d*t.2-t.1*W)*v.2:=by
  have O:=b.worth;have:y.2*(v.1*t.2*W)=y.2*((d*t.2-t.1*W)*v.2):=δ
  show fR ν this
 rw[Qs,Yt C T o.mv.1 o.mv.2 B];let⟨A,c⟩:=Za (X:=(X-x*V)*v.2) (Y:=Y*v.2-v.1*V) (W:=V*v.2) R;generalize Q:X-x*V=P at A c⊢;have f:W*(t.2*(Y*v.2-v.1*V)-t.1*(P*v.2))=v.2*(t.1*((V-P)*W)+t.2*(Y*W-d*V)):=δ
 have g:W*((t.1*s.2-s.1*t.2)*(V*v.2)+s.1*t.2*(P*v.2)-s.2*t.2*(Y*v.2-v.1*V))=v.2*t.2*(-(s.1*((V-P)*W)+s.2*(Y*W-d*V))):=δ
 have D:=nG j a f;have E:=nG j (aW a w) g;have U:((t.1*s.2-s.1*t.2)*(V*v.2)+s.1*t.2*(P*v.2)-s.2*t.2*(Y*v.2-v.1*V))+s.2*(t.2*(Y*v.2-v.1*V)-t.1*(P*v.2))=(t.1*s.2-s.1*t.2)*((V-P)*v.2):=δ
 generalize t.2*(Y*v.2-v.1*V)-t.1*(P*v.2)=lo at *;generalize (t.1*s.2-s.1*t.2)*(V*v.2)+s.1*t.2*(P*v.2)-s.2*t.2*(Y*v.2-v.1*V)=hi at *;show#[λh F ne=>?_,λi=>?_]
 ·have H:0<P*v.2:=aW h a;have Z:0<(t.1*s.2-s.1*t.2)*((V-P)*v.2):=aW ν (aW ν a);rw[QR (lo:=lo) (hi:=hi) (A.trans #[λz=>#[z.1,z.2.1],λz=>#[z.1,z.2,H]]) (c.trans #[λz=>#[z.1,z.2.1],λz=>#[z.1,z.2,ν]]) (λz=>?_) ne]
  ·unfold fC;rw[sD D.1,sD (E.2.trans (show _↔0<s.1*((V-P)*W)+s.2*(Y*W-d*V) by lia))]
  ·have a1:=dP (dO sp) z;lia
 ·show HM λz=>?_;let⟨I,z2,z3⟩:=c.mp z;have b1:=iJ (dO sp) I;rcases i with h |F
  ·have:P*v.2<0:=fV h a;lia
  ·have:(t.1*s.2-s.1*t.2)*((V-P)*v.2)<0:=mU ν (fV ν a);lia
def Su{l y h:Pt}(m:0<W)(n:j3 a W y.1 y.2)(o:j3 B W l.1 l.2)(q:j3 H W h.1 h.2)(s:0<h.1)(T:Told (l.2*h.2) (tE l h) b.1 b.2.1)(mv:b.2.2=(1,(x,1),y)):
  (0<X-x*V->X-x*V<V->vB X Y V b≠0->Qs X Y V b=ind (a*V+B*(X-x*V)<Y*W)-ind (a*V+H*V+B*(X-x*V)<Y*W))/\((X-x*V<0\/V<X-x*V)->vB X Y V b = -1):=by
 have d:=o.pos;have hp:=q.pos;have c:=n.pos;have u:=aW d hp;have F:=n.worth;have G:=o.worth;have I:=q.worth;rw[Qs,Yt u T (by rw[mv]) (by rw[mv]) (show b.2.2.2.2=y by rw[mv])];let⟨f,e⟩:=Bv (X:=(X-x*V)*y.2) (Y:=Y*y.2-y.1*V) (W:=V*y.2) d hp s;generalize J:X-x*V=P at f e⊢;have v:V*y.2-P*y.2=(V-P)*y.2:=δ
 rw[v] at f e;have g:W*(l.2*(Y*y.2-y.1*V)-l.1*(P*y.2))=y.2*l.2*(Y*W-(a*V+B*P)):=δ
 have i:W*(h.1*l.2*(V*y.2)+l.1*h.2*(P*y.2)-l.2*h.2*(Y*y.2-y.1*V))=y.2*l.2*h.2*((a*V+H*V+B*P)-Y*W):=δ
 have w:=nG m (aW c d) g;have A:=nG m (aW (aW c d) hp) i;have K:(h.1*l.2*(V*y.2)+l.1*h.2*(P*y.2)-l.2*h.2*(Y*y.2-y.1*V))+h.2*(l.2*(Y*y.2-y.1*V)-l.1*(P*y.2))=h.1*l.2*(V*y.2):=δ
 generalize l.2*(Y*y.2-y.1*V)-l.1*(P*y.2)=lo at *;generalize h.1*l.2*(V*y.2)+l.1*h.2*(P*y.2)-l.2*h.2*(Y*y.2-y.1*V)=hi at *;show#[λj C ne=>?_,λk=>?_]
 ·have D:0<P*y.2:=aW j c;have E:0<(V-P)*y.2:=aW ν c;have L:0<h.1*l.2*(V*y.2):=aW (aW s d) (aW ν c);rw[QR (lo:=lo) (hi:=hi) (f.trans #[λz=>#[z.1,z.2.2.1],λz=>#[z.1,E,z.2,D]]) (e.trans #[λz=>#[z.1,z.2.2.1],λz=>#[z.1,ν,z.2,ν]]) (λz=>?_) ne]
  ·rw[sD (w.1.trans (show _↔a*V+B*P<Y*W by lia)),sD (A.2.trans (show _↔a*V+H*V+B*P<Y*W by lia))]
  ·have M:=dP (dO hp) z;lia
 ·show HM λz=>?_;let⟨N,O,Q,R⟩:=e.mp z;rcases k with j |C
  ·have:P*y.2<0:=fV j c;lia
  ·have:(V-P)*y.2<0:=fV ν c;lia
end
end K32
namespace K39
open K34 K33 K22 K23
end K39
namespace K23
def Es(C:f6 ts hss n)(b:j<2*n)(a:k<ts.length){Q:D->Prop}(q:Q (pt (spot ts hss j k))):
  f8 (il ts) (.int (0+(k:Int))) λd=>f8 (vz hss) (.int (0+(k:Int))) λd1=>f8 d1 (.int (j:Int)) λd2=>Q (.tup [d,d2]):=by
 have e:(0:Int)+(k:Int)=(k:Int):=ν
 have c:=C.len;rw[e];show Nj (IL a) (Q0 (Si ν) (Nj (Lv C a b) q))
end K23
namespace K39
open K34 K33 K22 K23
open K34 K33 K22
def Jz(G:ph gs)(e:gs[k]?=ψ g)(hp:p∈gs):p.1*g.2<=g.1*p.2↔gs.idxOf p<=k:=by
 have b:=zY hp;have a:gs[gs.idxOf p]=p:=JX b;let⟨d,c⟩:=bF.mp e;rcases ML (gs.idxOf p) k with h |h |h
 ·have:=fW.mp G.inc _ _ b d h;rw[a,c] at this;show#[λ_=>by lia,λ_=>dO this]
 ·subst h;rw[c] at a;rw[a];show#[λ_=>aY _,λ_=>pX _]
 ·have:=fW.mp G.inc _ _ d b h;rw[a,c] at this;have this:g.1*p.2<p.1*g.2:=this;show#[λ_=>by lia,λ_=>by lia]
end K39
namespace K32
open K37 K36 K34 K33 K39
section
variable{X Y V x W:Int}{gs:θ Pt}
def cnt_cons(f:Lb->Int)(b:Lb)(l:θ Lb):cnt f (b::l)=(if f b=1 then 1 else 0)+cnt f l:=rfl
theorem Wj{c:Int}(f:0<W)(g:j3 c W y.1 y.2)(G:ph gs)(j:0<X-x*V)(k:X-x*V<V):∀(L:θ En)(n:Nat)(g0 g1:Pt),gs[n]?=ψ g0->gs[n+L.length]?=ψ g1->(∀i e,L[i]?=ψ e->ud gs ζ x y (n+i) e)->(∀e∈L,vB X Y V e.2≠0) ->
  cnt (oz ζ X Y V) (L.map (·.2))=fO ((X-x*V)*W) (Y*W-c*V) g0-fO ((X-x*V)*W) (Y*W-c*V) g1
 | [],n,g0,g1,b,a,_,_=>by
  rw[cK,MI,b] at a;cases a;show(0:Int)=_;lia
 |e::L,n,g0,g1,b,a,h,ne=>by
  rw[aT,show n+(L.length+1)=n+1+L.length by lia] at a;let⟨s,t,o,l,_⟩:=(h 0 e rfl).ex;have m:=Wj f g G j k L (n+1) t g1 l a (λi e d=>by rw[show n+1+i=n+(i+1) by lia];show h (i+1) e d) λe d=>ne e (.tail _ d);have v:=(Wk (X:=X) (Y:=Y) f g G (h 0 e rfl) b l).1 j k (ne e (.head _));rw[aN,cnt_cons,m];have v:(if oz ζ X Y V e.2=1 then(1:Int) else 0)=_:=v;rw[v];lia
theorem Td(f:0<W)(g:j3 d W y.1 y.2)(G:ph gs)(j:0<X-x*V)(k:X-x*V<V):∀(L:θ En)(n:Nat)(g0 g1:Pt),gs[n]?=ψ g0->gs[n+L.length]?=ψ g1->(∀i e,L[i]?=ψ e->ud gs χ x y (n+i) e)->(∀e∈L,vB X Y V e.2≠0) ->
  cnt (oz ζ X Y V) (L.map (·.2))=fC ((V-(X-x*V))*W) (Y*W-d*V) g1-fC ((V-(X-x*V))*W) (Y*W-d*V) g0
 | [],n,g0,g1,b,a,_,_=>by
  rw[cK,MI,b] at a;cases a;show(0:Int)=_;lia
 |e::L,n,g0,g1,b,a,h,ne=>by
  rw[aT,show n+(L.length+1)=n+1+L.length by lia] at a;let⟨s,t,o,l,_⟩:=(h 0 e rfl).ex;have m:=Td f g G j k L (n+1) t g1 l a (λi e c=>by rw[show n+1+i=n+(i+1) by lia];show h (i+1) e c) λe c=>ne e (.tail _ c);have v:=(Te (X:=X) (Y:=Y) f g G (h 0 e rfl) b l).1 j k (ne e (.head _));rw[aN,cnt_cons,m];have v:(if oz ζ X Y V e.2=1 then(1:Int) else 0)=_:=v;rw[v];lia
end
abbrev rD(p:sx):θ Lb:=p.bx.map (·.2.2)++p.op.map (·.2)++p.cl.map (·.2)
def HK{a:θ Pt}{g:Pt}(h:g∈a):a[a.idxOf g]?=ψ g:=by
 rw[aG (zY h),JX]
section
variable{X Y V:Int}{gs:θ Pt}
def RX.ord(G:ph gs)(x:RX gs e):gs.idxOf e.l<=gs.idxOf e.u↔e.b-e.a<=e.d-e.c:=by
 rw[<-Jz G (HK x.mu) x.ml];have:=Vs x.hW x.lu x.ll;lia
def W4(G:ph gs)(x:RX gs e)(h:rh gs e p)(i:0<X-e.row.x*V)(j:X-e.row.x*V<V)(ne:∀b∈rD p,vB X Y V b≠0):
  cnt (oz ζ X Y V) (rD p)=ind (e.a*V+(e.b-e.a)*(X-e.row.x*V)<Y*e.W)-ind (e.c*V+(e.d-e.c)*(X-e.row.x*V)<Y*e.W):=by
 have m:=x.hW;have E:=x.ord G;have F:=HK x.mu;have H:=HK x.ml;have J:=x.ll.worth;have K:=x.lu.worth;have I:=x.ll.pos;have g:=x.lu.pos;have L:=x.ac;have M:=x.bd;generalize f:X-e.row.x*V=P at i j⊢;have rj:cnt (oz ζ X Y V) (p.bx.map (·.2.2))=ind (e.a*V+(e.b-e.a)*P<Y*e.W)-ind (e.a*V+min (e.c-e.a) (e.d-e.b)*V+(e.b-e.a)*P<Y*e.W):=by
  by_cases z:p.h.1=0
  ·rw[h.b0 z];have w:=h.hh.worth;rw[z,Int.zero_mul] at w;have:min (e.c-e.a) (e.d-e.b)=0:=by
    rcases SX.mp w.symm with k |k
    ·show k
    ·have:=h.hh.pos;lia
   rw[this,Int.zero_mul,wP];show(0:Int)=_;lia
  ·have N:=WU m (show 0<=min (e.c-e.a) (e.d-e.b) by lia) h.hh;let⟨b,eb,T,mv⟩:=h.b1 ν;have v:=(Su (X:=X) (Y:=Y) (V:=V) m x.V.l0 x.ll h.hh ν T mv).1 (by rw[f];show i) (by rw[f];show j) (ne b (by unfold rD;rw[eb];simp));rw[f] at v;rw[eb,aN,cD,cnt_cons];have v:(if oz ζ X Y V b=1 then(1:Int) else 0)=_:=v;rw[v];show _+(0:Int)=_;lia
 have n:∀e∈p.op,vB X Y V e.2≠0:=λy o=>ne y.2 (by unfold rD;erw[bQ,bD];show .inl (.inr #[y,o,bg]));have s:∀e∈p.cl,vB X Y V e.2≠0:=λy o=>ne y.2 (by unfold rD;erw[bQ,bD];show .inr #[y,o,bg]);rw[rD,K37.cnt_append,K37.cnt_append,rj];by_cases k:gs.idxOf e.l<=gs.idxOf e.u
 ·have A:p.cl=[]:=gC.mp (by rw[h.cl'];lia);have os:=Wj (X:=X) (Y:=Y) m x.V.u0 G (by rw[f];show i) (by rw[f];show j) p.op (gs.idxOf e.l) e.l e.u H (by rw[h.ol,show gs.idxOf e.l+(gs.idxOf e.u-gs.idxOf e.l)=gs.idxOf e.u by lia];show F) h.oe n;rw[f] at os;rw[A,os];have B:min (e.c-e.a) (e.d-e.b)=e.c-e.a:=by have:=E.mp k;lia
  have C:fO (P*e.W) (Y*e.W-e.c*V) e.l=ind (e.a*V+min (e.c-e.a) (e.d-e.b)*V+(e.b-e.a)*P<Y*e.W):=by
   rw[B];have q:1*(e.l.2*(Y*e.W-e.c*V)-e.l.1*(P*e.W))=e.l.2*(Y*e.W-(e.a*V+(e.c-e.a)*V+(e.b-e.a)*P)):=δ;have:=nG μ I q;show sD ν
  have D:fO (P*e.W) (Y*e.W-e.c*V) e.u=ind (e.c*V+(e.d-e.c)*P<Y*e.W):=by
   have q:1*(e.u.2*(Y*e.W-e.c*V)-e.u.1*(P*e.W))=e.u.2*(Y*e.W-(e.c*V+(e.d-e.c)*P)):=δ;have:=nG μ g q;show sD ν
  rw[C,D];show _+_+(0:Int)=_;lia
 ·have A:p.op=[]:=gC.mp (by rw[h.ol];lia);have os:=Td (X:=X) (Y:=Y) m x.V.u1 G (by rw[f];show i) (by rw[f];show j) p.cl (gs.idxOf e.u) e.u e.l F (by rw[h.cl',show gs.idxOf e.u+(gs.idxOf e.l-gs.idxOf e.u)=gs.idxOf e.l by lia];show H) h.ce s;rw[f] at os;rw[A,os];have B:min (e.c-e.a) (e.d-e.b)=e.d-e.b:=by have:¬e.b-e.a<=e.d-e.c:=λy=>k (E.mpr y);lia
  have C:fC ((V-P)*e.W) (Y*e.W-e.d*V) e.l=ind (e.a*V+min (e.c-e.a) (e.d-e.b)*V+(e.b-e.a)*P<Y*e.W):=by
   rw[B];have q:1*(e.l.1*((V-P)*e.W)+e.l.2*(Y*e.W-e.d*V))=e.l.2*(Y*e.W-(e.a*V+(e.d-e.b)*V+(e.b-e.a)*P)):=δ;have:=nG μ I q;show sD ν
  have D:fC ((V-P)*e.W) (Y*e.W-e.d*V) e.u=ind (e.c*V+(e.d-e.c)*P<Y*e.W):=by
   have q:1*(e.u.1*((V-P)*e.W)+e.u.2*(Y*e.W-e.d*V))=e.u.2*(Y*e.W-(e.c*V+(e.d-e.c)*P)):=δ;have:=nG μ g q;show sD ν
  rw[C,D];show _+(0:Int)+_=_;lia
def F9(G:ph gs)(x:RX gs e)(h:rh gs e p)(g:X-e.row.x*V<0\/V<X-e.row.x*V):∀b∈rD p,vB X Y V b = -1:=by
 have j:=x.hW;intro b k;unfold rD at k;erw[bQ,bD] at k;rcases k with(⟨y,f,rfl⟩ | ⟨y,f,rfl⟩) | ⟨y,f,rfl⟩
 ·by_cases z:p.h.1=0
  ·rw[h.b0 z] at f;cases f
  ·have q:=WU j (show 0<=min (e.c-e.a) (e.d-e.b) by have:=x.ac;have:=x.bd;lia) h.hh;let⟨b,eb,T,mv⟩:=h.b1 ν;rw[eb] at f;rw[bR.mp f];show(Su (X:=X) (Y:=Y) (V:=V) j x.V.l0 x.ll h.hh ν T mv).2 g
 ·let⟨i,hi,l⟩:=dS f;have o:=h.oe i y (by rw[aG hi,l]);let⟨s,t,m,n,_⟩:=o.ex;show(Wk (X:=X) (Y:=Y) j x.V.u0 G o m n).2 g
 ·let⟨i,hi,l⟩:=dS f;have o:=h.ce i y (by rw[aG hi,l]);let⟨s,t,m,n,_⟩:=o.ex;show(Te (X:=X) (Y:=Y) j x.V.u1 G o m n).2 g
end
def qv(g:Pt):Rat:=(g.1:Rat) / (g.2:Rat)
def LI{a W:Int}(b:0<W)(l:j3 a W g.1 g.2):qv g=(a:Rat) / (W:Rat):=by
 have c:=qH b;have d:=qH l.pos;have e:=Ψ (λx:Int=>(x:Rat)) l.worth;erw[kZ] at e;unfold qv;grind
theorem CM:∀(a b:θ Lb),sy (a++b)=sy a+sy b
 | [],b=>by show sy b=0+sy b;grind
 |x::a,b=>by show uy x+sy (a++b)=uy x+sy a+sy b;rw[CM a b];grind
def H9(s t:Pt)(b:Bool):vE su (pU s t b)=s.2*t.2*(t.1*s.2-s.1*t.2):=by
 cases b <;> (erw[pU,vE,bK,bS,qj,su];grind)
def Yy(s h:Pt):vE su (tE s h)=2*(s.2*h.2)*(h.1*s.2):=by
 erw[tE,vE,bK,bS,qj,su];grind
def Zu{a:θ Pt}{s t:Pt}(G:ph a)(o:ud a b x y n e)(c:a[n]?=ψ s)(d:a[n+1]?=ψ t):uy e.2=qv t-qv s:=by
 let⟨h,i,f,g,T,_⟩:=o.ex;rw[c] at f;rw[d] at g;cases f;cases g;let⟨_,_,R⟩:=G.rise c d;have j:=qH R.sp;have k:=qH R.tp;unfold uy;rw[Os (aW R.sp R.tp) T,H9];unfold F_ qv;erw[kZ,vO];grind
def Mf{s h:Pt}(sp:0<s.2)(hp:0<h.2)(T:Told (s.2*h.2) (tE s h) b.1 b.2.1):uy b=2*qv h:=by
 have a:=qH sp;have c:=qH hp;unfold uy;rw[Os (aW sp hp) T,Yy];unfold F_ qv;erw[kZ];rw[show((2:Int):Rat)=2 from rfl];grind
theorem WA{c:θ Pt}(G:ph c):∀(L:θ En)(n:Nat)(g0 g1:Pt),c[n]?=ψ g0->c[n+L.length]?=ψ g1->(∀i e,L[i]?=ψ e->ud c b x y (n+i) e)->sy (L.map (·.2))=qv g1-qv g0
 | [],n,g0,g1,d,a,_=>by
  rw[cK,MI,d] at a;cases a;show(0:Rat)=_;grind
 |e::L,n,g0,g1,d,a,h=>by
  rw[aT,show n+(L.length+1)=n+1+L.length by lia] at a;let⟨s,t,k,f,_⟩:=(h 0 e rfl).ex;have g:=WA G L (n+1) t g1 f a (λi e j=>by rw[show n+1+i=n+(i+1) by lia];show h (i+1) e j);rw[aN];show uy e.2+sy (L.map (·.2))=_;rw[g,Zu G (h 0 e rfl) d f];grind
def Xz{f:θ Pt}(G:ph f)(x:RX f e)(h:rh f e p):sy (rD p)=qv e.row.u0+qv e.row.u1-qv e.row.l0-qv e.row.l1:=by
 have g:=x.hW;have j:=x.ord G;have m:=HK x.mu;have n:=HK x.ml;have v:=x.ac;have w:=x.bd;have A:=qH g;have o:=LI g x.ll;have q:=LI g x.lu;have s:=LI g h.hh;have rj:sy (p.bx.map (·.2.2))=2*qv p.h:=by
  by_cases z:p.h.1=0
  ·rw[h.b0 z];unfold qv;rw[z];show(0:Rat)=2*(((0:Int):Rat) / _);rw[show((0:Int):Rat)=0 from rfl];grind
  ·have B:=WU g (show 0<=min (e.c-e.a) (e.d-e.b) by lia) h.hh;let⟨b,eb,T,_⟩:=h.b1 ν;rw[eb];show uy b+0=_;rw[Mf x.ll.pos h.hh.pos T];grind
 rw[rD,CM,CM,rj,LI g x.V.u0,LI g x.V.u1,LI g x.V.l0,LI g x.V.l1];by_cases k:f.idxOf e.l<=f.idxOf e.u
 ·have i:p.cl=[]:=gC.mp (by rw[h.cl'];lia);rw[i,WA G p.op (f.idxOf e.l) e.l e.u n (by rw[h.ol,show f.idxOf e.l+(f.idxOf e.u-f.idxOf e.l)=f.idxOf e.u by lia];show m) h.oe,s,q,o];rw[show min (e.c-e.a) (e.d-e.b)=e.c-e.a by have:=j.mp k;lia];erw[vO];show _+_+(0:Rat)=_;grind
 ·have i:p.op=[]:=gC.mp (by rw[h.ol];lia);rw[i,WA G p.cl (f.idxOf e.u) e.u e.l m (by rw[h.cl',show f.idxOf e.u+(f.idxOf e.l-f.idxOf e.u)=f.idxOf e.l by lia];show n) h.ce,s,q,o];rw[show min (e.c-e.a) (e.d-e.b)=e.d-e.b by have:¬e.b-e.a<=e.d-e.c:=λy=>k (j.mpr y);lia];erw[vO];show _+(0:Rat)+_=_;grind
end K32
namespace K23
def f'(a:Bool)(n k:Nat):θ Nat:=((cF k).map λi=>if a then[i,2*n-1-i] else[2*i,2*i+1]).flatten
def Vc(a:Bool)(n k:Nat):f' a n (k+1)=f' a n k++(if a then[k,2*n-1-k] else[2*k,2*k+1]):=by
 unfold f';rw[fP,aX,jW];simp
def Zy(a:Bool)(h:1<=n/\n<=3):(f' a n n).Perm (cF (2*n)):=by
 have:n=1\/n=2\/n=3:=ν
 cases a <;> rcases this with rfl |rfl |rfl <;> decide
theorem Jr{f:D->D->Option Bool}:∀(xs:θ D),(∀x∈xs,f x x=ψ ζ)->pi f xs xs=ψ ζ
 | [],_=>rfl
 |x::xs,h=>by
  erw[pi,h x η,Jr xs λy a=>h y (by simp[a])];rfl
def K1(n:Nat)(i:Int):k5 (n+1) (.int i) (.int i)=ψ ζ:=by simp[k5]
end K23
namespace K31
open K22 K23
def F_hts:FD:=λb Q=>∃(x:Int)(m:Nat),b=[.int x,.int m,.int 6]/\m<=20/\∀a:θ Int,a.length=m->(∀h∈a,0<=h/\h<=6)->a.Pairwise (·<=·)->Q (il a)
def pure_law_hts:ι F_hts (zA Bn) ["_law_number","_law_many","_law_wide","_law_found","_law_k"]:=by
 rintro s Q ⟨x,m,rfl,v,q⟩;rw[cM 2 rfl];unfold zA;erw[gE,QO,aN,cD,bK,bS];show cV (λa=>a=[ap (.int x),ap (.int m),ap (.int 6),ψ (.own []),ξ]) (λK e=>?_) ?_
 ·nofun;show e _ rfl
 rintro a rfl;show cV (λa=>∃(b:θ Int)(u:Option S),(b.length=m/\∀h∈b,0<=h/\h<=6)/\a=[ap (.int x),ap (.int m),ap (.int 6),ψ (.own (b.map .int)),u]) (λK e=>?_) ?_
 ·nofun;show#[#[ν,ν],?_];rw[gF];show uW 0 m (λi a=>∃(b:θ Int)(u:Option S),(b.length=i/\∀h∈b,0<=h/\h<=6)/\a=[ap (.int x),ap (.int m),ap (.int 6),ψ (.own (b.map .int)),u]) ?_ ?_ _ #[[],ξ,#[bg,η],bg]
  ·rintro i a hi ⟨b,u,⟨f,g⟩,rfl⟩ F _ _ k _;unfold vH;erw[cA,aH,aI];nofun;show#[x,7,0+(i:Int),bg,#[μ,BL.const (n:=9000) μ],#[ν,ν],λd w y=>?_];show#[iY (by rw[aJ];lia),k _ #[b++[d],_,#[by simp[f],λh c=>?_],by rw[aX];rfl]];rcases bQ.mp c with c |c
   ·show g h c
   ·rw[bR.mp c];lia
  ·rintro a ⟨b,u,h,rfl⟩;show e _ #[b,u,h,bg]
 rintro a ⟨b,u,⟨f,g⟩,rfl⟩;erw[eP,XU,aQ,L2.R2.S.val,aA,aB];show#[b,bg,ν,λl j o=>q l (by rw[j.length_eq,f]) (λh c=>g h (j.mem_iff.mp c)) o]
structure hV(ts:List Int)(hss:List (List Int))(n:Nat)(R:List (List Pt)):Prop where
 cur:f6 ts hss n
 tl:ts.length<=3
 n2:n<=2
 lo:∀t∈ts,0<=t/\t<=6
 hi:∀hs∈hss,∀h∈hs,0<=h/\h<=6
 len:R.length=n
 each:∀g∈R,g.length<=10
 pts:∀g∈R,∀p∈g,0<=p.2/\p.2<=6
 px:∀g∈R,∀p∈g,p.1∈ts
 sides:(jM R).Perm (((cF (2*n)).map (csd ts hss)).flatten)
def F_sheet:FD:=λc Q=>∃b:θ Int,c=[il b,.int 3,.int 6]/\10<=b.length/\∀d a n R,hV d a n R->Q (sN R)
def head_ix(h:10<=xs.length){j:Nat}(a:j<10)(q:∀v,Q (.int v)):f8 (il xs) (.int (j:Int)) Q:=Nj (aG (show j<xs.length by lia)) (q _)
structure hY(ts:List Int)(i:Nat):Prop where
 len:ts.length=i+1
 step:∀(k:Nat) a b,ts[k]?=ψ a->ts[k+1]?=ψ b->1<=b-a/\b-a<=3
 lo:∀t∈ts,0<=t/\t<=3*i
def hY.thr(h:hY ts i)(hi:1<=i/\i<=2):yk ts:=by
 show#[by rw[h.len];lia,λx c=>?_,λk a b d e=>by have:=h.step k a b d e;lia,λx c y f=>by have:=h.lo x c;have:=h.lo y f;lia];have:=h.lo x c;show(BL.of_lt (m:=10) ν ν).mono
def pure_law_sheet:ι F_sheet (JF F_hts) ["_law_head","_law_most","_law_wide","_law_many","_law_xs","_law_k","_law_lines","_law_rings_here","_law_low","_law_up","_law_ring"]:=by
 rintro ds Q ⟨E,rfl,I,q⟩;rw[cM 8 rfl];unfold JF;erw[gE,Xs,aN,cD,bK,bS];show cV (λo=>∃n:Nat,(1<=n/\n<=2)/\o=[ap (il E),ap (.int 3),ap (.int 6),ap (.int ((2*n:Nat):Int)),ξ,ξ,ξ,ξ,ξ,ξ,ξ]) (λK B=>?_) ?_
 ·nofun;show head_ix I (j:=0) μ λv=>?_;nofun;let⟨a0,a1⟩:=gM (a:=v) (b:=2) μ;show#[pH,(BL.const (n:=20) μ).mulOk (n:=20) (BL.of_lt ν ν),?_];have:=B [ap (il E),ap (.int 3),ap (.int 6),ap (.int ((2*(1+v.fmod 2).toNat:Nat):Int)),ξ,ξ,ξ,ξ,ξ,ξ,ξ] #[_,#[ν,ν],bg];rw[show((2*(1+v.fmod 2).toNat:Nat):Int)=2*(1+v.fmod 2) by lia] at this;show this
 rintro o ⟨n,nn,rfl⟩;show cV (λo=>o=[ap (il E),ap (.int 3),ap (.int 6),ap (.int ((2*n:Nat):Int)),ψ (.own ([0].map D.int)),ξ,ξ,ξ,ξ,ξ,ξ]) (λK B=>?_) ?_
 ·nofun;show B _ rfl
 rintro o rfl;show cV (λo=>∃(f:θ Int)(m:Nat)(u:Option S),(hY f m/\1<=m/\m<=2)/\o=[ap (il E),ap (.int 3),ap (.int 6),ap (.int ((2*n:Nat):Int)),ψ (.own (f.map D.int)),u,ξ,ξ,ξ,ξ,ξ]) (λK B=>?_) ?_
 ·nofun;show head_ix I (j:=1) μ λv=>?_;nofun;let⟨a0,a1⟩:=gM (a:=v) (b:=2) μ;show#[pH,#[ν,ν],?_];have hm:((1+v.fmod 2).toNat:Int)=1+v.fmod 2:=ν
  generalize (1+v.fmod 2).toNat=m at hm;show uW 0 m (λi o=>∃(f:θ Int)(u:Option S),hY f i/\o=[ap (il E),ap (.int 3),ap (.int 6),ap (.int ((2*n:Nat):Int)),ψ (.own (f.map D.int)),u,ξ,ξ,ξ,ξ,ξ]) ?_ ?_ _ #[[0],ξ,#[bg,(λk a b L J=>by simp at J),η],bg]
  ·rintro i o hi ⟨f,u,h,rfl⟩ F _ _ hn _;unfold BQ;erw[cA,aH,aI];nofun;show P9 (by intro e;have:=h.len;rw[e] at this;simp at this) λw l e=>?_;nofun;show head_ix I (j:=1) μ λv=>?_;nofun;let⟨c0,c1⟩:=gM (a:=v.fdiv (2+3*(0+(i:Int)))) (b:=3) μ;generalize (v.fdiv (2+3*(0+(i:Int)))).fmod 3=y at c0 c1⊢;show#[(BL.const (n:=20) μ).mulOk (n:=20) (BL.of_lt ν ν),((BL.of_lt (m:=20) ν ν).mono).divOk ν,#[μ],iY (by have:=h.len;simp;lia),hn _ #[f++[w+1+y],_,#[by simp[h.len],λk a b L J=>?_,λt M=>?_],by rw[aX];rfl]]
   ·by_cases N:k+1<f.length
    ·rw[dB ν] at L;rw[dB N] at J;show h.step k a b L J
    ·have h2:=(bF.mp J).1;rw[bI,kE] at h2;have l8:k+1=f.length:=ν;rw[dJ ν,l8,Nat.sub_self] at J;have J:w+1+y=b:=cW J;rw[dB ν,e] at L;have:k=l.length:=(by have:=Ψ jE e;simp at this;lia);rw[this,dJ (aY _),Nat.sub_self] at L;have L:w=a:=cW L;lia
   ·rcases bQ.mp M with M |M
    ·have:=h.lo t M;lia
    ·have:=h.lo w (by rw[e];simp);rw[bR.mp M];lia
  ·rintro o ⟨f,u,h,rfl⟩;show B _ #[f,m,u,#[h,ν,ν],bg]
 rintro o ⟨f,m,u,⟨th,m1,m2⟩,rfl⟩;have tl:=th.len;show cV (λo=>∃hss:θ (θ Int),(hss.length=f.length/\∀A∈hss,A.length=2*n/\(∀h∈A,0<=h/\h<=6)/\A.Pairwise (·<=·))/\o=[ap (il E),ap (.int 3),ap (.int 6),ap (.int ((2*n:Nat):Int)),ψ (.own (f.map D.int)),u,ap (vz hss),ξ,ξ,ξ,ξ]) (λK B=>?_) ?_
 ·nofun;show#[#[by rw[aJ];lia,by rw[aJ];lia],iY (by rw[uP];simp;lia),?_];show Ep (R:=λo=>∃a,o=[a,ap (il E),ap (.int ((2*n:Nat):Int)),ap (.int 6)]) (P:=λd=>∃A:θ Int,d=il A/\A.length=2*n/\(∀h∈A,0<=h/\h<=6)/\A.Pairwise (·<=·)) _ _ _ #[_,bg] ?_ ?_
  ·rintro a ha o ⟨b,rfl⟩ K B;let⟨j,rfl,j0,j1⟩:=WW ha;rw[aJ,tl] at j1;nofun;have ej:(2+j)=((2+j.toNat:Nat):Int):=ν;rw[ej];show head_ix I (j:=2+j.toNat) ν λv=>?_;show#[v,2*n,bg,ν,λA l1 l2 l3=>B _ _ #[_,bg] #[A,bg,l1,l2,l3]]
  ·intro O U hp;obtain⟨hss,e,h1⟩:∃hss:θ (θ Int),O=hss.map il/\∀A∈hss,A.length=2*n/\(∀h∈A,0<=h/\h<=6)/\A.Pairwise (·<=·):=by
    clear U
    induction O with
    |nil=>show#[[],bg,η]
    |cons d O ih=>
     let⟨hss,e,h1⟩:=ih λd hd=>hp d (by simp[hd]);let⟨A,rfl,h2⟩:=hp d η;show#[A::hss,by rw[e];rfl,λx I=>?_];rcases aV.mp I with rfl |I
     ·show h2
     ·show h1 x I
   rw[uP,aJ,gF,e,aJ] at U;rw[bS,e];show B _ #[hss,#[U,h1],bg]
 rintro o ⟨hss,⟨U,V⟩,rfl⟩;have C:f6 f hss n:=#[th.thr #[m1,m2],U,#[nn.1,ν],λA h=>(V A h).1,λA h x I=>by
  have:=(V A h).2.1 x I;show(BL.of_lt (m:=10) ν ν).mono,λA h=>(V A h).2.2]
 have v8:∀{j k:Nat},j<2*n->k<f.length->(0<=(spot f hss j k).2/\(spot f hss j k).2<=6)/\(spot f hss j k).1∈f:=λ{j k} N T=>
  #[(V _ (bJ (Si (hss:=hss) (z:=k) ν))).2.1 _ (bJ (Lv C T N)),bJ (IL T)]
 show cV (λo=>o=[ap (il E),ap (.int 3),ap (.int 6),ap (.int ((2*n:Nat):Int)),ψ (.own (f.map D.int)),u,ap (vz hss),ψ (.own []),ξ,ξ,ξ]) (λK B=>?_) ?_
 ·nofun;show B _ rfl
 rintro o rfl;show cV (λo=>∃(R:θ (θ Pt))(a b c d e:Option S),hV f hss n R/\o=[ap (il E),ap (.int 3),ap (.int 6),ap (.int ((2*n:Nat):Int)),a,b,ap (vz hss),ψ (.own (R.map pts)),c,d,e]) (λK B=>?_) ?_
 ·nofun;walk_at "sides";have J:(((2*n:Nat):Int)).fdiv 2=(n:Int):=by
   rw[show((2*n:Nat):Int)=(n:Int)*2 by lia];show HW _ μ
  rw[J];show#[#[ν,ν],?_];rw[gF];have W:E[0]?=ψ (E[0]'ν):=aG _;generalize E[0]'ν=h0 at W;generalize X:decide ((h0.fdiv 2).fmod 3=1)=Y;show uW 0 n (λk o=>∃(R:θ (θ Pt))(s:S)(b c d e:Option S),(R.length=k/\(∀g∈R,g.length<=10/\∀p∈g,(0<=p.2/\p.2<=6)/\p.1∈f)/\(jM R).Perm (((f' Y n k).map (csd f hss)).flatten))/\(s = .own (f.map D.int)\/s = .d (il f))/\o=[ap (il E),ap (.int 3),ap (.int 6),ap (.int ((2*n:Nat):Int)),ψ s,b,ap (vz hss),ψ (.own (R.map pts)),c,d,e]) ?_ ?_ _ #[[],_,u,ξ,ξ,ξ,#[bg,(λg h=>by cases h),.refl _],.inl rfl,bg]
  ·rintro k o T ⟨R,s,b,c,d,e,⟨w1,w2,w3⟩,A,rfl⟩ F _ _ hn _;have e0:(0:Int)+(k:Int)=(k:Int):=ν;have mo:∀{P:Prop},P->(MulOk 2 (k:Int)/\P):=λp=>#[(BL.const (n:=20) μ).mulOk (n:=20) (BL.of_lt ν ν),p];unfold BO;erw[cA,aH,aI];rw[e0];show cV (λo=>o=[ap (il E),ap (.int 3),ap (.int 6),ap (.int ((2*n:Nat):Int)),ψ s,ap (.int k),ap (vz hss),ψ (.own (R.map pts)),ap (.int (2*(k:Int))),d,e]) (λK B=>?_) ?_
   ·nofun;show mo (B _ rfl)
   rintro o rfl;show cV (λo=>o=[ap (il E),ap (.int 3),ap (.int 6),ap (.int ((2*n:Nat):Int)),ψ s,ap (.int k),ap (vz hss),ψ (.own (R.map pts)),ap (.int (2*(k:Int))),ap (.int (2*(k:Int)+1)),e]) (λK B=>?_) ?_
   ·nofun;show mo (B _ rfl)
   rintro o rfl;show cV (λo=>∃lo G:Nat,((lo<2*n/\G<2*n)/\(if Y then[k,2*n-1-k] else[2*k,2*k+1])=[lo,G])/\o=[ap (il E),ap (.int 3),ap (.int 6),ap (.int ((2*n:Nat):Int)),ψ s,ap (.int k),ap (vz hss),ψ (.own (R.map pts)),ap (.int (lo:Nat)),ap (.int (G:Nat)),e]) (λK B=>?_) ?_
   ·nofun;show Nj (i:=0) W ?_;nofun;walk_at "sides";by_cases hb:(h0.fdiv 2).fmod 3=1
    ·have en:Y=ζ:=(by rw[<-X];show decide_eq_true hb);rw[υ hb];have:=B [ap (il E),ap (.int 3),ap (.int 6),ap (.int ((2*n:Nat):Int)),ψ s,ap (.int k),ap (vz hss),ψ (.own (R.map pts)),ap (.int ((k:Nat):Int)),ap (.int ((2*n-1-k:Nat):Int)),e] #[k,2*n-1-k,#[#[ν,ν],by rw[en];rfl],bg];rw[show((2*n-1-k:Nat):Int)=((2*n:Nat):Int)-1-(k:Int) by lia] at this;show this
    ·have en:Y=χ:=(by rw[<-X];show decide_eq_false hb);rw[ω hb];have:=B [ap (il E),ap (.int 3),ap (.int 6),ap (.int ((2*n:Nat):Int)),ψ s,ap (.int k),ap (vz hss),ψ (.own (R.map pts)),ap (.int ((2*k:Nat):Int)),ap (.int ((2*k+1:Nat):Int)),e] #[2*k,2*k+1,#[#[ν,ν],by rw[en];rfl],bg];rw[show((2*k:Nat):Int)=2*(k:Int) by lia,show((2*k+1:Nat):Int)=2*(k:Int)+1 by lia] at this;show this
   rintro o ⟨lo,G,⟨⟨P_,Z⟩,q4⟩,rfl⟩;show cV (λo=>o=[ap (il E),ap (.int 3),ap (.int 6),ap (.int ((2*n:Nat):Int)),ap (il f),ap (.int k),ap (vz hss),ψ (.own (R.map pts)),ap (.int (lo:Nat)),ap (.int (G:Nat)),ψ (.own ((s9 f hss lo).map pt))]) (λK B=>?_) ?_
   ·have go:∀o:En,o=[ap (il E),ap (.int 3),ap (.int 6),ap (.int ((2*n:Nat):Int)),ap (il f),ap (.int k),ap (vz hss),ψ (.own (R.map pts)),ap (.int (lo:Nat)),ap (.int (G:Nat)),e]->(oY 10 (oC (AB (aE (r1 nE (aQ 4)) aU)) 1 [4,6,8] (cA 0) (gQ (aE (r2 f8 (aQ 1) (aQ 0)) (aE (r2 f8 (r2 f8 (aQ 2) (aQ 0)) (aQ 3)) aU))))) {nx:=K,rt:=F.rt,bk:=F.bk,ct:=F.ct} o:=by
     rintro o rfl;nofun;show#[#[by rw[aJ];lia,by rw[aJ];lia],iY (by rw[uP,aJ];lia),?_];rw[aJ,gF];unfold lQ;show nZ (λo=>∃u,o=[u,ap (il f),ap (vz hss),ap (.int lo)]) (λk:Nat=>D.int (0+(k:Int))) (λk=>pt (spot f hss lo k)) (cF f.length) ?_ #[_,bg] ?_
     ·rintro k T o ⟨u,rfl⟩ K' qg;nofun;show Es C P_ (cT.mp T) (Q:=λd=>K' _ d) (qg _ #[_,bg])
     ·have e:(cF f.length).map (λk=>pt (spot f hss lo k))=(s9 f hss lo).map pt:=(by unfold s9;rw[cO];rfl);rw[e];show B _ rfl
    rcases A with rfl |rfl
    ·show go _ rfl
    ·show go _ rfl
   rintro o rfl;erw[sC,S.fz,aA,aB,aH,aI];nofun;erw[Le];nofun;show#[#[ν,by rw[aJ];lia],iY (by rw[lE,uP,aJ];lia),?_];rw[aJ,gF];unfold lQ;rw[<-AM];show nZ (λo=>∃u,o=[u,ap (il f),ap (vz hss),ap (.int G)]) (λk:Nat=>D.int (0+(k:Int))) (λk=>pt (spot f hss G k)) (cF f.length).reverse ?_ #[_,bg] ?_
   ·rintro k T o ⟨u,rfl⟩ K' qg;nofun;show Es C Z (cT.mp (uJ.mp T)) (Q:=λd=>K' _ d) (qg _ #[_,bg])
   ·have e:(cF f.length).reverse.map (λk=>pt (spot f hss G k))=((s9 f hss G).reverse).map pt:=(by unfold s9;rw[<-AM,cO];rfl);rw[e];have gl:(s9 f hss lo++(s9 f hss G).reverse).length=2*f.length:=(by simp[s9];lia);show#[iY (by simp[s9];lia),iY (by rw[aJ];lia),?_];rw[show D.lst ((s9 f hss lo).map pt++((s9 f hss G).reverse).map pt)=pts (s9 f hss lo++(s9 f hss G).reverse) by show _=D.lst ((s9 f hss lo++(s9 f hss G).reverse).map pt);rw[aX]];show hn _ #[R++[s9 f hss lo++(s9 f hss G).reverse],.d (il f),ap (.int k),ap (.int lo),ap (.int G),ψ (.own ((s9 f hss lo).map pt)),#[by simp[w1],λg H=>?_,?_],.inr rfl,by rw[aX];rfl]
    ·rcases bQ.mp H with H |H
     ·show w2 g H
     ·rw[bR.mp H];show#[ν,λp hp=>?_];rcases bQ.mp hp with hp |hp
      ·let⟨j,N,rfl⟩:=bD.mp hp;show v8 P_ (cT.mp N)
      ·let⟨j,N,rfl⟩:=bD.mp (uJ.mp hp);show v8 Z (cT.mp N)
    ·rw[Vc,q4];erw[jM,aX,jW,aN,cD,iW,List.flatten_nil,cQ];show List.Perm.append w3 (Lf (hss:=hss) C.thr lo G)
  ·rintro o ⟨R,s,b,c,d,e,⟨r1,r2,r3⟩,_,rfl⟩;show B _ #[R,ψ s,b,c,d,e,#[C,ν,nn.2,λt M=>by have:=th.lo t M;lia,λA h=>(V A h).2.1,r1,λg H=>(r2 g H).1,λg H p hp=>((r2 g H).2 p hp).1,λg H p hp=>((r2 g H).2 p hp).2,r3.trans ((Zy Y C.n1).map (csd f hss)).flatten],bg]
 rintro o ⟨R,a,b,c,d,e,h,rfl⟩;erw[sC,S.fz,eP,bH,aA,aB,aH,aI];show q f hss n R h
def v6(a b k:Int)(p:Pt):Pt:=(p.1+a,p.2*k+b)
section
variable{f:Pt->Pt}
def W9(c:∀a b:Pt,(f a).1<(f b).1↔a.1<b.1)(a b:Pt):sd (f a) (f b)=(sd a b).map λs=>(f s.1,f s.2):=by
 unfold sd;by_cases d:a.1<b.1
 ·rw[υ d,υ ((c a b).mpr d)];rfl
 ·rw[ω d,ω λz=>d ((c a b).mp z)];by_cases e:b.1<a.1
  ·rw[υ e,υ ((c b a).mpr e)];rfl
  ·rw[ω e,ω λz=>e ((c b a).mp z)];rfl
theorem Bl(c:∀a b:Pt,(f a).1<(f b).1↔a.1<b.1):∀(r:θ Pt)(a:Pt),jU (f a) (r.map f)=(jU a r).map λs=>(f s.1,f s.2)
 | [],_=>rfl
 |b::r,a=>by
  show sd (f a) (f b)++jU (f b) (r.map f)=pY _ (sd a b++jU b r);rw[W9 c,Bl c r b,aX]
def Rs(c:∀a b:Pt,(f a).1<(f b).1↔a.1<b.1)(g:θ Pt):oD (g.map f)=(oD g).map λs=>(f s.1,f s.2):=by
 cases g with
 |nil=>rfl
 |cons a r=>
  show jU (f a) (r.map f++[f a])=(jU a (r++[a])).map _;rw[<-Bl c,aX];rfl
def all_map(c:∀a b:Pt,(f a).1<(f b).1↔a.1<b.1)(R:θ (θ Pt)):jM (R.map λg=>g.map f)=(jM R).map λs=>(f s.1,f s.2):=by
 unfold jM;rw[cO,OW,cO];congr 1;show gW λg _=>Rs c g
end
def hV.put(h:hV ts hss n R)(U:-200<=fx/\fx<=200)(G:BL 110 fy)(H:0<k)(bk:BL 70 k):
  f6 (ts.map (· + fx)) (hss.map λhs=>hs.map λy=>y*k+fy) n/\Cloth (ts.map (· + fx)) (hss.map λhs=>hs.map λy=>y*k+fy) n (R.map λg=>g.map (v6 fx fy k))/\T (ts.map (· + fx)) ((ts.map (· + fx)).length-1)-T (ts.map (· + fx)) 0<=6:=by
 have C:=h.cur;have I:=C.thr.len;have v:∀z,z<ts.length->T (ts.map (· + fx)) z=T ts z+fx:=λz e=>ft (by rw[bC,IL e];rfl);have E:∀z j,z<ts.length->j<2*n->Hh (hss.map λhs=>hs.map λy=>y*k+fy) z j=Hh hss z j*k+fy:=λz j e l=>by
  have V:=C.len;have w:(hss.map λhs=>hs.map λy=>y*k+fy).getD z []=(hss.getD z []).map λy=>y*k+fy:=by
   rw[cC,bC,Si (hss:=hss) (z:=z) ν];rfl
  unfold Hh;rw[w,cC,bC,Lv C e l];rfl
 have J:f6 (ts.map (· + fx)) (hss.map λhs=>hs.map λy=>y*k+fy) n:=by
  show#[#[by rw[aJ];show I,λx o=>?_,λi a b w F=>?_,λx o y A=>?_],by rw[aJ,aJ];show C.len,C.n1,λhs q=>?_,λhs q x o=>?_,λhs q=>?_]
  ·let⟨t,B,rfl⟩:=bD.mp o;have:=h.lo t B;show(BL.of_lt (m:=10) ν ν).mono
  ·rw[bC] at w F;let⟨K,L,rfl⟩:=lJ.mp w;let⟨M,N,rfl⟩:=lJ.mp F;have:=C.thr.step i K M L N;lia
  ·let⟨t,B,rfl⟩:=bD.mp o;let⟨u,O,rfl⟩:=bD.mp A;have:=C.thr.wide t B u O;lia
  ·let⟨g,d,rfl⟩:=bD.mp q;rw[aJ];show C.each g d
  ·let⟨g,d,rfl⟩:=bD.mp q;let⟨y,A,rfl⟩:=bD.mp o;have:=h.hi g d y A;show(((BL.of_lt (m:=10) ν ν).mul bk).add G).mono
  ·let⟨g,d,rfl⟩:=bD.mp q;show gG.mpr ((C.up g d).imp λ{a b} P=>?_);have:=dI P (dO H);lia
 show#[J,#[by rw[aJ,h.len];have:=h.n2;lia,λg d=>?_,[],?_,(λs h=>by cases h),λc=>dZ _],?_]
 ·let⟨Q,D,rfl⟩:=bD.mp d;rw[aJ];show h.each Q D
 ·rw[cQ,cQ,all_map (f:=v6 fx fy k) λa b=>by unfold v6;fail;lia];show(h.sides.map _).trans ?_;rw[OW,cO];show List.Perm.of_eq ?_;congr 1;show gW λj l=>?_;have l:=cT.mp l;show(csd ts hss j).map _=csd _ _ j;unfold csd;rw[cO,aJ];show gW λz e=>?_;have e:=cT.mp e;show(v6 fx fy k (spot ts hss j z),v6 fx fy k (spot ts hss j (z+1)))=(spot _ _ j z,spot _ _ j (z+1));unfold spot v6;fail;rw[v z ν,v (z+1) ν,E z j ν l,E (z+1) j ν l]
 ·rw[aJ,v _ ν,v _ ν];have W:=h.lo _ (bJ (IL (ts:=ts) (i:=ts.length-1) ν));have X:=h.lo _ (bJ (IL (ts:=ts) (i:=0) ν));lia
def F_put:FD:=λc Q=>∃(R:θ (θ Pt))(a b k:Int),c=[sN R,.tup [.int a,.int b],.int k]/\(R.length<=4/\(∀g∈R,g.length<=10)/\(∀g∈R,∀p∈g,0<=p.2/\p.2<=6)/\BL 70 k)/\Q (sN (R.map λg=>g.map (v6 a b k)))
def pure_law_put:ι F_put SE ["_law_rings_here","_law_far","_law_by","_law_found","_law_ring"]:=by
 rintro w Q ⟨R,b,c,k,rfl,⟨y,h,j,bk⟩,q⟩;rw[cM 2 rfl];unfold SE;erw[gE,QO,aN,cD,bK,bS];show cV (λa=>a=[ap (sN R),ap (.tup [.int b,.int c]),ap (.int k),ψ (.own []),ξ]) (λK d=>?_) ?_
 ·nofun;show d _ rfl
 rintro a rfl;show cV (λa=>∃u,a=[ap (sN R),ap (.tup [.int b,.int c]),ap (.int k),ψ (.own ((R.map λg=>g.map (v6 b c k)).map pts)),u]) (λK d=>?_) ?_
 ·erw[iA,riL,bH,aA];show WH _ (λi a=>∃u,a=[ap (sN R),ap (.tup [.int b,.int c]),ap (.int k),ψ (.own (((R.take i).map λg=>g.map (v6 b c k)).map pts)),u]) ?_ ?_ _ #[ξ,bg]
  ·rintro i x a e ⟨u,rfl⟩ F _ _ n _;rw[bC] at e;cases er:R[i]? with
   |none=>rw[er] at e;cases e
   |some g=>
    rw[er] at e;cases e;have f:=bJ er;have o:R.take (i+1)=R.take i++[g]:=(by rw[gD,er];rfl);have z:(R.take i).length<=R.length:=(by rw[jF];show OZ ..);unfold GN;erw[cA,aH,aI];nofun;show#[iY (by rw[aJ];have:=h g f;lia),?_];show nZ (λa=>∃u v,a=[u,v,ap (.tup [.int b,.int c]),ap (.int k)]) pt (λp=>pt (v6 b c k p)) g ?_ #[_,_,bg] ?_
    ·rintro p hp a ⟨u,v,rfl⟩ A s;nofun;have:=j g f p hp;show#[(BL.of_lt (m:=10) ν ν).mulOk bk,s _ #[_,_,bg]]
    ·show#[iY (by rw[aJ,aJ];lia),?_];rw[show((R.take i).map λg=>g.map (v6 b c k)).map pts++[D.lst (g.map λp=>pt (v6 b c k p))]=((R.take (i+1)).map λg=>g.map (v6 b c k)).map pts by
      rw[o,aX,aX,aN,cD,aN,cD];show _=_++[D.lst ((g.map (v6 b c k)).map pt)];rw[cO (l:=g)];rfl]
     show n _ #[_,bg]
  ·rintro a ⟨u,rfl⟩;rw[aJ,jH];show d _ #[u,bg]
 rintro a ⟨u,rfl⟩;erw[sC,S.fz,eP,bH,aA,aB,aH,aI];show q
end K31
namespace K32
open K37 K36 K34 K33 K39
abbrev vw(e:qc):K22.Ent3:=(vJ e.row,e.u,e.l)
def zo(ts:θ Int)(hss:θ (θ Int))(z:Nat)(k:Int)(i:Nat):qc:=
 #[#[K23.T ts z+k,K22.lowOf (K23.pr2 ts hss z k i).1.1 (K23.Wd ts z),K22.lowOf (K23.pr2 ts hss z k i).1.2 (K23.Wd ts z),K22.lowOf (K23.pr2 ts hss z k i).2.1 (K23.Wd ts z),K22.lowOf (K23.pr2 ts hss z k i).2.2 (K23.Wd ts z)],K22.slp ts hss z (2*i+1),K22.slp ts hss z (2*i),K23.Wd ts z,(K23.pr2 ts hss z k i).1.1,(K23.pr2 ts hss z k i).1.2,(K23.pr2 ts hss z k i).2.1,(K23.pr2 ts hss z k i).2.2]
def rz(ts:θ Int)(hss:θ (θ Int))(z:Nat)(k:Int):Nat->θ qc
 | 0=>[]
 |i+1=>rz ts hss z k i++if(K23.pr2 ts hss z k i).1=(K23.pr2 ts hss z k i).2 then[] else[zo ts hss z k i]
def rZ(ts:θ Int)(hss:θ (θ Int))(n z:Nat):Nat->θ qc
 | 0=>[]
 |m+1=>rZ ts hss n z m++rz ts hss z m n
def rA(ts:θ Int)(hss:θ (θ Int))(n:Nat):Nat->θ qc
 | 0=>[]
 |m+1=>rA ts hss n m++rZ ts hss n m (K23.Wd ts m).toNat
structure zh(e:qc):Prop where
 W:e.W<=40
 a:BL 230 e.a
 b:BL 230 e.b
 c:BL 230 e.c
 d:BL 230 e.d
 x:BL 300 e.row.x
def zl(X Y V:Int)(s:lF):Int:=(Y-s.1.2*V)*(s.2.1-s.1.1)-(s.2.2-s.1.2)*(X-s.1.1*V)
def c1(X Y V:Int)(s:lF):Int:=ind (s.1.1*V<X/\X<s.2.1*V/\0<zl X Y V s)
def sS(X Y V:Int):θ lF->Int
 | []=>0
 |s::l=>c1 X Y V s+sS X Y V l
def vR(X Y V:Int)(e:qc):Int:=if 0<X-e.row.x*V/\X-e.row.x*V<V then ind (e.a*V+(e.b-e.a)*(X-e.row.x*V)<Y*e.W)-ind (e.c*V+(e.d-e.c)*(X-e.row.x*V)<Y*e.W) else 0
def sR(X Y V:Int):θ qc->Int
 | []=>0
 |e::l=>vR X Y V e+sR X Y V l
def rs(f:Nat->Int):Nat->Int
 | 0=>0
 |m+1=>rs f m+f m
theorem OF{f:Nat->Int}:∀{m:Nat},(∀z,z<m->f z=0)->rs f m=0
 | 0,_=>rfl
 |m+1,h=>by
  show rs f m+f m=0;rw[OF λz a=>h z ν,h m ν];rfl
theorem Lg{f:Nat->Int}:∀{m:Nat},z0<m->(∀z,z<m->z≠z0->f z=0)->rs f m=f z0
 | 0,h,_=>by lia
 |m+1,h,k=>by
  show rs f m+f m=f z0;by_cases e:z0=m
  ·subst e;rw[OF λz a=>k z ν ν];lia
  ·rw[Lg (z0:=z0) ν λz a=>k z ν,k m ν ν];lia
theorem Ho{f g:Nat->Int}:∀{m:Nat},(∀z,z<m->f z=g z)->rs f m=rs g m
 | 0,_=>rfl
 |m+1,h=>by
  show rs f m+f m=rs g m+g m;rw[Ho λz a=>h z ν,h m ν]
section
variable{X Y V:Int}
theorem sK:∀a b:θ lF,sS X Y V (a++b)=sS X Y V a+sS X Y V b
 | [],b=>by show sS X Y V b=0+_;lia
 |s::a,b=>by show c1 X Y V s+sS X Y V (a++b)=c1 X Y V s+sS X Y V a+_;rw[sK a b];lia
def G0(p:a.Perm b):sS X Y V a=sS X Y V b:=by
 induction p with
 |nil=>rfl
 |cons x _ c=>show _+sS X Y V _=_+sS X Y V _;rw[c]
 |swap x y l=>show c1 X Y V y+(c1 X Y V x+sS X Y V l)=c1 X Y V x+(c1 X Y V y+sS X Y V l);lia
 |trans _ _ d e=>show d.trans e
theorem HQ:∀a b:θ qc,sR X Y V (a++b)=sR X Y V a+sR X Y V b
 | [],b=>by show sR X Y V b=0+_;lia
 |s::a,b=>by show vR X Y V s+sR X Y V (a++b)=vR X Y V s+sR X Y V a+_;rw[HQ a b];lia
variable{ts:θ Int}{hss:θ (θ Int)}
theorem Yb:∀i,(rz ts hss z k i).map vw=K22.ez ts hss z k i
 | 0=>rfl
 |i+1=>by
  unfold rz K22.ez;rw[aX,Yb i];split <;> rfl
theorem Xl:∀m,(rZ ts hss n z m).map vw=K22.eZ ts hss n z m
 | 0=>rfl
 |m+1=>by
  unfold rZ K22.eZ;rw[aX,Xl m,Yb]
theorem Kv:∀m,(rA ts hss n m).map vw=K22.eA ts hss n m
 | 0=>rfl
 |m+1=>by
  unfold rA K22.eA;rw[aX,Kv m,Xl]
theorem Yc:∀{i},e∈rz ts hss z k i->∃j,j<i/\e=zo ts hss z k j
 | 0,h=>by cases h
 |i+1,h=>by
  unfold rz at h;rcases bQ.mp h with h |h
  ·let⟨j,a,e⟩:=Yc h;show#[j,ν,e]
  ·split at h
   ·cases h
   ·show#[i,ν,bR.mp h]
theorem Xm:∀{m:Nat},e∈rZ ts hss n z m->∃(k:Nat)(j:Nat),(k<m/\j<n)/\e=zo ts hss z k j
 | 0,h=>by cases h
 |m+1,h=>by
  unfold rZ at h;rcases bQ.mp h with h |h
  ·let⟨k,j,a,e⟩:=Xm h;show#[k,j,#[ν,a.2],e]
  ·let⟨j,a,e⟩:=Yc h;show#[m,j,#[ν,a],e]
theorem Xf:∀{m:Nat},e∈rA ts hss n m->∃(z:Nat)(k:Nat)(j:Nat),(z<m/\(k:Int)+1<=K23.Wd ts z/\j<n)/\e=zo ts hss z k j
 | 0,h=>by cases h
 |m+1,h=>by
  unfold rA at h;rcases bQ.mp h with h |h
  ·let⟨z,k,j,a,e⟩:=Xf h;show#[z,k,j,#[ν,a.2],e]
  ·let⟨k,j,a,e⟩:=Xm h;show#[m,k,j,#[ν,ν,a.2],e]
def O8(C:f6 ts hss n)(hz:z+1<ts.length)(hi:i<n)(l:0<=k)(v:k+1<=K23.Wd ts z)(w:K22.slp ts hss z (2*i+1)∈gs)(y:K22.slp ts hss z (2*i)∈gs):RX gs (zo ts hss z k i)/\zh (zo ts hss z k i):=by
 let⟨c,D⟩:=K23.Wd_pos C hz;have d:=K22.H_bl C (z:=z) (j:=2*i) ν ν;have e:=K22.H_bl C (z:=z) (j:=2*i+1) ν ν;have f:=K22.H_bl C (z:=z+1) (j:=2*i) ν ν;have g:=K22.H_bl C (z:=z+1) (j:=2*i+1) ν ν;have h:∀{j:Int}{a b:Int},0<=j->j<=40->BL 210 a->BL 210 b->BL 230 (sk (K23.Wd ts z) j a b):=λ{j a b} H I E F=>
  ((E.mul (n:=10) (BL.of_lt ν ν)).add (F.mul (n:=10) (BL.of_lt ν ν))).mono
 have A:=h l ν d f;have B:=h (j:=k+1) ν ν d f;have o:=h l ν e g;have q:=h (j:=k+1) ν ν e g;have s:=K23.Hh_mono C (show z<ts.length by lia) (show 2*i<2*i+1 by lia) ν;have u:=K23.Hh_mono C hz (show 2*i<2*i+1 by lia) ν;have G:BL 300 (K23.T ts z+k):=((K23.bl_T C (show z<ts.length by lia)).add (BL.of_lt (m:=10) ν ν)).mono;show#[#[c,(BL.of_lt (m:=10) (by show _<K23.Wd ts z;lia) (by show K23.Wd ts z<_;lia)).mono,#[oP c,oP c,oP c,oP c,A.mono,B.mono,o.mono,q.mono],?_,?_,w,y,K23.lin_mono l ν s u,K23.lin_mono ν v s u],#[D,A,B,o,q,G]]
 ·have:=K22.slp_low hss c (2*i+1);rw[<-K22.lin_step (K23.Wd ts z) k] at this;show this
 ·have:=K22.slp_low hss c (2*i);rw[<-K22.lin_step (K23.Wd ts z) k] at this;show this
abbrev g1(X Y V:Int)(ts:θ Int)(hss:θ (θ Int))(z j:Nat):Int:=ind (0<zl X Y V (K23.sdz ts hss z j))
def UN(z j:Nat)(k:Int):ind (sk (K23.Wd ts z) k (K23.Hh hss z j) (K23.Hh hss (z+1) j)*V+(sk (K23.Wd ts z) (k+1) (K23.Hh hss z j) (K23.Hh hss (z+1) j)-sk (K23.Wd ts z) k (K23.Hh hss z j) (K23.Hh hss (z+1) j))*(X-(K23.T ts z+k)*V)<Y*K23.Wd ts z)=g1 X Y V ts hss z j:=by
 rw[K22.lin_step];show sD ?_;have e:zl X Y V (K23.sdz ts hss z j)=Y*K23.Wd ts z-(sk (K23.Wd ts z) k (K23.Hh hss z j) (K23.Hh hss (z+1) j)*V+(K23.Hh hss (z+1) j-K23.Hh hss z j)*(X-(K23.T ts z+k)*V)):=by
  unfold zl K23.sdz K23.spot sk K23.Wd;fail;grind
 rw[e];lia
abbrev j8(X V t:Int):Prop:=0<X-t*V/\X-t*V<V
def Zt(z i:Nat)(k:Int):vR X Y V (zo ts hss z k i)=if j8 X V (K23.T ts z+k) then g1 X Y V ts hss z (2*i)-g1 X Y V ts hss z (2*i+1) else 0:=by
 have a:=UN (X:=X) (Y:=Y) (V:=V) (ts:=ts) (hss:=hss) z (2*i) k;have b:=UN (X:=X) (Y:=Y) (V:=V) (ts:=ts) (hss:=hss) z (2*i+1) k;rw[<-a,<-b];rfl
def pS(X Y V:Int)(ts:θ Int)(hss:θ (θ Int))(z:Nat):Nat->Int
 | 0=>0
 |i+1=>pS X Y V ts hss z i+(g1 X Y V ts hss z (2*i)-g1 X Y V ts hss z (2*i+1))
theorem Yd(z:Nat)(k:Int):∀i,sR X Y V (rz ts hss z k i)=if j8 X V (K23.T ts z+k) then pS X Y V ts hss z i else 0
 | 0=>by show(0:Int)=_;split <;> rfl
 |i+1=>by
  unfold rz;rw[HQ,Yd z k i];by_cases e:(K23.pr2 ts hss z k i).1=(K23.pr2 ts hss z k i).2
  ·rw[υ e];have a:=UN (X:=X) (Y:=Y) (V:=V) (ts:=ts) (hss:=hss) z (2*i) k;have b:=UN (X:=X) (Y:=Y) (V:=V) (ts:=ts) (hss:=hss) z (2*i+1) k;have c:sk (K23.Wd ts z) k (K23.Hh hss z (2*i)) (K23.Hh hss (z+1) (2*i))=sk (K23.Wd ts z) k (K23.Hh hss z (2*i+1)) (K23.Hh hss (z+1) (2*i+1)):=Ψ AS e;have d:sk (K23.Wd ts z) (k+1) (K23.Hh hss z (2*i)) (K23.Hh hss (z+1) (2*i))=sk (K23.Wd ts z) (k+1) (K23.Hh hss z (2*i+1)) (K23.Hh hss (z+1) (2*i+1)):=Ψ MM e;rw[c,d,b] at a;rw[show pS X Y V ts hss z (i+1)=pS X Y V ts hss z i+(g1 X Y V ts hss z (2*i)-g1 X Y V ts hss z (2*i+1)) from rfl];show _+(0:Int)=_;split
   ·lia
   ·rfl
  ·rw[ω e];show _+(vR X Y V (zo ts hss z k i)+0)=_;rw[Zt,show pS X Y V ts hss z (i+1)=pS X Y V ts hss z i+(g1 X Y V ts hss z (2*i)-g1 X Y V ts hss z (2*i+1)) from rfl];split <;> lia
theorem Xn(f:0<V)(e:∀t:Int,X≠t*V)(z:Nat):∀m:Nat,sR X Y V (rZ ts hss n z m)=if K23.T ts z*V<X/\X<(K23.T ts z+m)*V then pS X Y V ts hss z n else 0
 | 0=>by
  show(0:Int)=_;rw[ω (by rintro⟨a,b⟩;rw[show K23.T ts z+((0:Nat):Int)=K23.T ts z by lia] at b;lia)]
 |m+1=>by
  unfold rZ;rw[HQ,Xn f e z m,Yd];have h:=e (K23.T ts z+m);have g:(K23.T ts z+((m+1:Nat):Int))*V=(K23.T ts z+m)*V+V:=by rw[show K23.T ts z+((m+1:Nat):Int)=K23.T ts z+m+1 by lia];grind
  have i:(K23.T ts z+m)*V=K23.T ts z*V+m*V:=QW ..;have mv:0<=(m:Int)*V:=iJ ν ν;rw[g];unfold j8;generalize (K23.T ts z+m)*V=P at *;by_cases c:X<P
  ·rw[ω (show ¬(0<X-P/\X-P<V) by lia)];by_cases d:K23.T ts z*V<X
   ·rw[υ #[d,c],υ #[d,ν]];lia
   ·rw[ω (λk=>d k.1),ω (λk=>d k.1)];rfl
  ·rw[ω (show ¬(K23.T ts z*V<X/\X<P) by lia)];by_cases d:X<P+V
   ·rw[υ #[ν,ν],υ #[ν,d]];lia
   ·rw[ω ν,ω ν];rfl
abbrev y_(X V:Int)(ts:θ Int)(z:Nat):Prop:=K23.T ts z*V<X/\X<K23.T ts (z+1)*V
theorem Xg(C:f6 ts hss n)(a:0<V)(b:∀t:Int,X≠t*V):∀m:Nat,m<ts.length->sR X Y V (rA ts hss n m)=rs (λz=>if y_ X V ts z then pS X Y V ts hss z n else 0) m
 | 0,_=>rfl
 |m+1,c=>by
  unfold rA;let⟨d,_⟩:=K23.Wd_pos C (z:=m) c;rw[HQ,Xg C a b m ν,Xn a b,show K23.T ts m+((K23.Wd ts m).toNat:Int)=K23.T ts (m+1) by unfold K23.Wd at *;lia];rfl
theorem Mj(j:Nat):∀m:Nat,sS X Y V ((cF m).map λz=>K23.sdz ts hss z j)=rs (λz=>if y_ X V ts z then g1 X Y V ts hss z j else 0) m
 | 0=>rfl
 |m+1=>by
  rw[fP,aX,sK,Mj j m];show _+(c1 X Y V (K23.sdz ts hss m j)+0)=_+_;have:c1 X Y V (K23.sdz ts hss m j)=if y_ X V ts m then g1 X Y V ts hss m j else 0:=by
   unfold c1 g1 ind y_;by_cases h:K23.T ts m*V<X/\X<K23.T ts (m+1)*V
   ·rw[υ h];by_cases b:0<zl X Y V (K23.sdz ts hss m j)
    ·rw[υ b,υ #[h.1,h.2,b]]
    ·rw[ω b,ω λk=>b k.2.2]
   ·rw[ω h,ω λk=>h #[k.1,k.2.1]]
  rw[this,wP]
theorem Mb(m:Nat):∀J:Nat,sS X Y V (((cF J).map λj=>(cF m).map λz=>K23.sdz ts hss z j).flatten)=rs (λj=>rs (λz=>if y_ X V ts z then g1 X Y V ts hss z j else 0) m) J
 | 0=>rfl
 |J+1=>by
  rw[fP,aX,jW,sK,Mb m J];show _+sS X Y V (_++[])=_+_;rw[cQ,Mj]
def Cm(C:f6 ts hss n)(hz:z+1<ts.length)(a:i<j)(b:j<2*n)(Z:y_ X V ts z):g1 X Y V ts hss z j<=g1 X Y V ts hss z i:=by
 have c:=K23.Hh_mono C (show z<ts.length by lia) a b;have d:=K23.Hh_mono C hz a b;have f:0<=X-K23.T ts z*V:=by have:=Z.1;lia
 have g:0<=K23.T ts (z+1)*V-X:=by have:=Z.2;lia
 have h:=dI c g;have k:=dI d f;have e:∀j,zl X Y V (K23.sdz ts hss z j)=Y*(K23.T ts (z+1)-K23.T ts z)-(K23.Hh hss z j*(K23.T ts (z+1)*V-X)+K23.Hh hss (z+1) j*(X-K23.T ts z*V)):=λj=>by
  unfold zl K23.sdz K23.spot;fail;grind
 unfold g1 ind;rw[e i,e j];generalize K23.Hh hss z j*(K23.T ts (z+1)*V-X)=l at *;generalize K23.Hh hss z i*(K23.T ts (z+1)*V-X)=m at *;generalize K23.Hh hss (z+1) j*(X-K23.T ts z*V)=o at *;generalize K23.Hh hss (z+1) i*(X-K23.T ts z*V)=q at *;split <;> split <;> lia
def Ni(z j:Nat):0<=g1 X Y V ts hss z j/\g1 X Y V ts hss z j<=1:=by unfold g1 ind;split <;> lia
def Ya(C:f6 ts hss n)(K:K23.Cloth ts hss n R)(q:n<=2)(e:0<V)(m:∀t:Int,X≠t*V):sR X Y V (rA ts hss n (ts.length-1))=(sS X Y V (jM R)).fmod 2:=by
 have s:=C.thr.len;have u:=C.n1;let⟨I,p,_⟩:=K.sides;rw[Xg C e m _ ν,G0 p,sK,sK,mE _ μ];have o:=Mb (X:=X) (Y:=Y) (V:=V) (ts:=ts) (hss:=hss) (ts.length-1) (2*n);have f:sS X Y V (((cF (2*n)).map (K23.csd ts hss)).flatten)=_:=o;rw[f];generalize sS X Y V I=d;by_cases h:∃a,a<ts.length-1/\y_ X V ts a
 ·let⟨a,i,Z⟩:=h;have un:∀z,z<ts.length-1->z≠a->¬y_ X V ts z:=λz b c l=>by
   rcases Nat.lt_or_gt_of_ne c with k |k
   ·have:=K23.mono_T C.thr (show z+1<=a by lia) ν;have:=dI this (dO e);have:=l.2;have:=Z.1;lia
   ·have:=K23.mono_T C.thr (show a+1<=z by lia) ν;have:=dI this (dO e);have:=Z.2;have:=l.1;lia
  rw[Lg i λz b c=>ω (un z b c),υ Z,Ho (g:=λj=>g1 X Y V ts hss a j) λj _=>by rw[Lg i λz b c=>ω (un z b c),υ Z]];have v:=Ni (X:=X) (Y:=Y) (V:=V) (ts:=ts) (hss:=hss) a 0;have w:=Ni (X:=X) (Y:=Y) (V:=V) (ts:=ts) (hss:=hss) a 1;have y:=Ni (X:=X) (Y:=Y) (V:=V) (ts:=ts) (hss:=hss) a 2;have A:=Ni (X:=X) (Y:=Y) (V:=V) (ts:=ts) (hss:=hss) a 3;have B:=Cm (Y:=Y) C (show a+1<ts.length by lia) (show 0<1 by lia) ν Z;rcases (show n=1\/n=2 by lia) with rfl |rfl
  ·show 0+(g1 X Y V ts hss a 0-g1 X Y V ts hss a 1)=(0+g1 X Y V ts hss a 0+g1 X Y V ts hss a 1+(d+d)) % 2;lia
  ·have D:=Cm (Y:=Y) C (show a+1<ts.length by lia) (show 1<2 by lia) ν Z;have E:=Cm (Y:=Y) C (show a+1<ts.length by lia) (show 2<3 by lia) ν Z;show 0+(g1 X Y V ts hss a 0-g1 X Y V ts hss a 1)+(g1 X Y V ts hss a 2-g1 X Y V ts hss a 3)=(0+g1 X Y V ts hss a 0+g1 X Y V ts hss a 1+g1 X Y V ts hss a 2+g1 X Y V ts hss a 3+(d+d)) % 2;lia
 ·have un:∀z,z<ts.length-1->¬y_ X V ts z:=λz b Z=>h #[z,b,Z];rw[OF λz b=>ω (un z b),OF λj _=>OF λz b=>ω (un z b)];lia
end
abbrev allB(a:θ sx):θ Lb:=(rj a).map (·.2.2)++(vG a).map (·.2)++(cls a).map (·.2)
section
variable{X Y V:Int}{gs:θ Pt}
def Ma(h:b∈rD p\/b∈allB ps):b∈allB (p::ps):=by
 erw[allB,rD,rj,vG,cls,mY,bQ,aX] at h⊢;rcases h with((h |h) |h) | (h |h) |h
 ·show .inl (.inl (.inl h))
 ·show .inl (.inr (.inl h))
 ·show .inr (.inl h)
 ·show .inl (.inl (.inr h))
 ·show .inl (.inr (.inr h))
 ·show .inr (.inr h)
def Tg(G:ph gs)(l:0<V)(f:∀t:Int,X≠t*V)(P:oq gs es ps):(∀e∈es,RX gs e)->(∀b∈allB ps,vB X Y V b≠0)->cnt (oz ζ X Y V) (allB ps)=sR X Y V es:=by
 induction P with
 |nil=>intro _ _;rfl
 | @cons e p es ps x _ c=>
  intro E ne;have c:=c (λy h=>E y (.tail _ h)) λb a=>ne b (Ma (.inr a));have r:=E e (.head _);have i:∀b∈rD p,vB X Y V b≠0:=λb a=>ne b (Ma (.inl a));have one:cnt (oz ζ X Y V) (rD p)=vR X Y V e:=by
   unfold vR;by_cases k:0<X-e.row.x*V/\X-e.row.x*V<V
   ·rw[υ k];show W4 G r x k.1 k.2 i
   ·rw[ω k];have j:=f e.row.x;have g:=f (e.row.x+1);rw[QW,Int.one_mul] at g;have d:X-e.row.x*V<0\/V<X-e.row.x*V:=(by revert k j g;generalize e.row.x*V=q;lia);show cnt_none λb a=>?_;have:=F9 (X:=X) (Y:=Y) (V:=V) G r x d b a;show vB X Y V b≠1;lia
  show _=vR X Y V e+sR X Y V es;rw[<-one,<-c];erw[allB,rD,rj,vG,cls,mY,aX,K37.cnt_append];lia
def wA:θ qc->Rat
 | []=>0
 |e::l=>qv e.row.u0+qv e.row.u1-qv e.row.l0-qv e.row.l1+wA l
theorem Oy:∀(l:θ qc)(e:qc),wA (l++[e])=wA l+(qv e.row.u0+qv e.row.u1-qv e.row.l0-qv e.row.l1)
 | [],e=>by show _+(0:Rat)=0+_;grind
 |x::l,e=>by show _+wA (l++[e])=_+wA l+_;rw[Oy l e];grind
def Pd(G:ph gs)(P:oq gs es ps):(∀e∈es,RX gs e)->sy (allB ps)=wA es:=by
 induction P with
 |nil=>intro _;rfl
 | @cons e p es ps x _ a=>
  intro E;have a:=a (λy b=>E y (.tail _ b));have one:=Xz G (E e (.head _)) x;show _=qv e.row.u0+qv e.row.u1-qv e.row.l0-qv e.row.l1+wA es;rw[<-one,<-a];erw[allB,rD,rj,vG,cls,mY,aX,CM];grind
def kb{v:Pt}(a:BL 300 x)(b:0<v.2)(c:cP v.1 v.2=1)(d:BL 400 v.1)(e:BL 400 v.2):dr (1,(x,1),v):=
 #[.inl rfl,Int.one_pos,b,by show cP x 1=1;show Int.gcd_one_right ..,c,a.mono,(BL.const (n:=2) (i:=1) μ).mono,d,e]
def O0(h0:0<a)(h:a<=40):BL 6 a:=BL.of_lt (m:=6) ν ν
def jt{s t:Pt}(a:vo s)(c:vo t)(b:Bool):BL 300 (s.2*t.2)/\∀z∈pU s t b,BL 300 z.1/\BL 300 z.2:=by
 have d:BL 300 0:=(BL.const (n:=2) μ).mono;have e:=(a.bot.mul c.bot).mono (show 6+6<=300 by decide);have p:=(a.bl.mul c.bot).mono (show 250+6<=300 by decide);have q:=(c.bl.mul a.bot).mono (show 250+6<=300 by decide);have r:=((c.bl.mul a.bot).sub (a.bl.mul c.bot)).mono (show _<=300 by decide);show#[e,λz f=>?_];cases b <;> (unfold pU at f;erw[aV,dM,or_false] at f;rcases f with rfl |rfl |rfl)
 ·show#[d,d]
 ·show#[e,q]
 ·show#[d,r]
 ·show#[d,d]
 ·show#[e,p]
 ·show#[e,q]
def Ou(a:0<e)(c:ou A)(T:Told e A b.1 b.2.1)(g:BL 300 e)(h:∀z∈A,BL 300 z.1/\BL 300 z.2)(l:A.length<=14)(i:dr b.2.2):xw b:=by
 let⟨j,d⟩:=G7 a T g h;show#[G9 a T c,j.mono,λz f=>#[(d z f).1.mono,(d z f).2.mono],by rw[Yp T];show l,i]
def S4{m:Mv}{x:Int}(d:m.1=1)(e:m.2.1=(x,1)):m=(1,(x,1),m.2.2):=by
 let⟨a,b,c⟩:=m;dsimp only at d e;rw[d,e]
def J9(G:ph gs)(d:BL 300 x)(g:0<y.2)(h:cP y.1 y.2=1)(f:BL 230 y.1)(c:BL 10 y.2)(o:ud gs b x y n e):xw e.2:=by
 let⟨s,t,i,j,T,a⟩:=o.ex;let⟨k,lt,R⟩:=G.rise i j;let⟨l,m⟩:=jt k lt b;show Ou (aW R.sp R.tp) (Bk R b) T l m (by cases b <;> (show 3<=14;decide)) ?_;rw[S4 o.mv.1 o.mv.2];cases b with
 |true=>
  have a:e.2.2.2.2.2=y:=a;rw[a];show kb d g h (f.mono) (c.mono)
 |false=>
  have a:j3 _ _ e.2.2.2.2.2.1 e.2.2.2.2.2.2:=a;let⟨q,u⟩:=a.bl (n:=400) (((f.mul lt.bot).sub (lt.bl.mul c)).mono) ((c.mul lt.bot).mono);show kb d a.pos a.cop q u
structure gV(gs:List Pt)(e:za):Prop where
 lb:xw e.2.2
 ix:∃(k:Nat)(s:Pt),gs[k]?=ψ s/\e.1=k/\Told (s.2*e.2.1.2) (tE s e.2.1) e.2.2.1 e.2.2.2.1
 h1:0<e.2.1.1
 h2:0<e.2.1.2
 cop:cP e.2.1.1 e.2.1.2=1
 b1:BL 240 e.2.1.1
 b2:BL 10 e.2.1.2
 sg:e.2.2.2.2.1=1
def Z2(G:ph gs)(r:RX gs e)(f:zh e)(h:rh gs e p):∀x∈p.bx,gV gs x:=by
 intro x i;have s:=r.hW;have bW:BL 10 e.W:=(O0 s f.W).mono;have C:=WU s (show 0<=min (e.c-e.a) (e.d-e.b) by have:=r.ac;have:=r.bd;lia) h.hh;by_cases z:p.h.1=0
 ·rw[h.b0 z] at i;cases i
 let⟨b,eb,T,mv⟩:=h.b1 ν;rw[eb] at i;rw[bR.mp i];have g:=G.each e.l r.ml;have y:BL 240 (min (e.c-e.a) (e.d-e.b)):=by
  rcases Int.le_total (e.c-e.a) (e.d-e.b) with k |k
  ·rw[DH k];show(f.c.sub f.a).mono
  ·rw[OS k];show(f.d.sub f.b).mono
 have u:BL 240 p.h.1:=y.le h.hh.lea;have j:BL 10 p.h.2:=bW.le h.hh.leb;have hp:=h.hh.pos;have m:BL 300 0:=(BL.const (n:=2) μ).mono;have o:=(g.bot.mul j).mono (show 6+10<=300 by decide);have v:=(g.bl.mul j).mono (show 250+10<=290 by decide);have w:=(u.mul g.bot).mono (show 240+6<=290 by decide);show#[Ou (aW g.pos hp) (Pe g.pos hp ν) T o (λz q=>?_) (show 4<=14 by decide) ?_,#[_,e.l,HK r.ml,bg,T],by show 0<p.h.1;lia,hp,h.hh.cop,u,j,by show b.2.2.1=1;rw[mv]]
 ·unfold tE at q;erw[aV,dM,or_false] at q;rcases q with rfl |rfl |rfl |rfl
  ·show#[m,m]
  ·show#[o,v.mono]
  ·show#[o,(v.add w).mono]
  ·show#[m,w.mono]
 ·show dr b.2.2;rw[mv];let⟨A,B⟩:=r.V.l0.bl (n:=230) f.a (bW.mono);show kb f.x r.V.l0.pos r.V.l0.cop (A.mono) (B.mono)
structure hC(gs:List Pt)(b:Bool)(e:En):Prop where
 lb:xw e.2
 ix:∃(k:Nat)(s t:Pt),gs[k]?=ψ s/\gs[k+1]?=ψ t/\e.1=k/\Told (s.2*t.2) (pU s t b) e.2.1 e.2.2.1
 sg:e.2.2.2.1=1
def ud.f(o:ud gs b x y n e)(l:xw e.2):hC gs b e:=by
 let⟨s,t,a,c,T,_⟩:=o.ex;show#[l,#[n,s,t,a,c,o.ky,T],o.mv.1]
def oq.facts(G:ph gs)(P:oq gs es ps):(∀e∈es,RX gs e/\zh e)->(∀x∈rj ps,gV gs x)/\(∀x∈vG ps,hC gs ζ x)/\∀x∈cls ps,hC gs χ x:=by
 induction P with
 |nil=>intro _;show#[λx h=>by (cases h),λx h=>by (cases h),λx h=>by (cases h)]
 | @cons e p es ps x _ j=>
  intro E;let⟨k,l,m⟩:=j λy a=>E y (.tail _ a);let⟨r,b⟩:=E e (.head _);have bW:BL 10 e.W:=(O0 r.hW b.W).mono;erw[rj,vG,cls,mY,bQ];show#[λy a=>a.elim (Z2 G r b x y) (k y),λy a=>a.elim (λa=>?_) (l y),λy a=>a.elim (λa=>?_) (m y)]
  ·let⟨i,hi,g⟩:=dS a;have o:=x.oe i y (by rw[aG hi,g]);show o.f (J9 G b.x r.V.u0.pos r.V.u0.cop (b.c.le r.V.u0.lea) (bW.le r.V.u0.leb) o)
  ·let⟨i,hi,g⟩:=dS a;have o:=x.ce i y (by rw[aG hi,g]);show o.f (J9 G b.x r.V.u1.pos r.V.u1.cop (b.d.le r.V.u1.lea) (bW.le r.V.u1.leb) o)
def nP(k:Nat)(l:θ En):Int:=(l.filter λe=>decide (e.1=(k:Int))).length
theorem Kf:∀(L:θ En)(n:Nat),(∀i e,L[i]?=ψ e->e.1=((n+i:Nat):Int))->nP k L=ind (n<=k/\k<n+L.length)
 | [],n,_=>by unfold nP ind;rw[ω (by rw[cK];lia)];rfl
 |e::L,n,h=>by
  have a:=Kf (k:=k) L (n+1) λi e b=>by rw[show n+1+i=n+(i+1) by lia];show h (i+1) e b
  have f:=h 0 e rfl;unfold nP ind at *;rw[nS,aT];by_cases c:e.1=(k:Int)
  ·rw[υ (~~~c),aT,υ ν];rw[ω ν] at a;lia
  ·rw[ω (~~~c),a];by_cases d:n+1<=k/\k<n+1+L.length
   ·rw[υ d,υ ν]
   ·rw[ω d,ω ν]
def Av(k:Nat)(a b:θ En):nP k (a++b)=nP k a+nP k b:=by unfold nP;rw[fZ,bI];lia
def sL(g:Pt):θ qc->Int
 | []=>0
 |e::l=>ind (e.l.1*g.2<=g.1*e.l.2)-ind (e.u.1*g.2<=g.1*e.u.2)+sL g l
theorem On(g:Pt):∀(l:θ qc)(e:qc),sL g (l++[e])=sL g l+(ind (e.l.1*g.2<=g.1*e.l.2)-ind (e.u.1*g.2<=g.1*e.u.2))
 | [],e=>by show _+(0:Int)=0+_;lia
 |x::l,e=>by show _+sL g (l++[e])=_+sL g l+_;rw[On g l e];lia
def Pn(G:ph gs)(m:gs[k]?=ψ g)(P:oq gs es ps):(∀e∈es,RX gs e)->nP k (vG ps)-nP k (cls ps)=sL g es:=by
 induction P with
 |nil=>intro _;rfl
 | @cons e p es ps x _ j=>
  intro E;have j:=j λy d=>E y (.tail _ d);have r:=E e (.head _);have o:=Kf (k:=k) p.op (gs.idxOf e.l) λi y d=>(x.oe i y d).ky;have c:=Kf (k:=k) p.cl (gs.idxOf e.u) λi y d=>(x.ce i y d).ky;rw[x.ol] at o;rw[x.cl'] at c;have n:=sD (Jz G m r.ml);have q:=sD (Jz G m r.mu);show nP k (p.op++vG ps)-nP k (p.cl++cls ps)=ind (e.l.1*g.2<=g.1*e.l.2)-ind (e.u.1*g.2<=g.1*e.u.2)+sL g es;rw[Av,Av,o,c,n,q,<-j];generalize gs.idxOf e.l=a;generalize gs.idxOf e.u=b;unfold ind;by_cases f:a<=k <;> by_cases h:b<=k
  ·rw[ω ν,ω ν,υ f,υ h];lia
  ·rw[υ ν,ω ν,υ f,ω h];lia
  ·rw[ω ν,υ ν,ω f,υ h];lia
  ·rw[ω ν,ω ν,ω f,ω h];lia
end
def A9{k a b:Int}(c:0<k):a<=b↔a*k<=b*k:=#[λh=>dI h (dO c),λh=>xN h c]
def Ie{a b W:Int}{p q l g:Pt}(c:0<W)(P:j3 a W p.1 p.2)(Q:j3 b W q.1 q.2)(L:j3 (b-a) W l.1 l.2):(q.1*p.2-p.1*q.2)*g.2<=g.1*p.2*q.2↔l.1*g.2<=g.1*l.2:=by
 have j:=P.worth;have k:=Q.worth;have m:=L.worth;have d:=aW P.pos Q.pos;rw[A9 c,A9 (a:=l.1*g.2) c];have e:(q.1*p.2-p.1*q.2)*g.2*W=(b-a)*g.2*(p.2*q.2):=δ
 have f:g.1*p.2*q.2*W=g.1*W*(p.2*q.2):=δ
 have h:l.1*g.2*W=(b-a)*g.2*l.2:=δ
 have i:g.1*l.2*W=g.1*W*l.2:=δ
 rw[e,f,h,i,<-A9 d,<-A9 L.pos]
def Ja:FD:=λa Q=>∃p q g:Pt,a=[pt p,pt q,pt g]/\(BL 300 p.1/\BL 300 p.2/\BL 300 q.1/\BL 300 q.2/\BL 300 g.1/\BL 300 g.2)/\Q (.bl (decide ((q.1*p.2-p.1*q.2)*g.2<=g.1*p.2*q.2)))
def Rk:ι Ja wN ["_law_one","_law_other","_law_lean","_law_rise"]:=by
 rintro f Q ⟨p,h,g,rfl,⟨c,a,d,b,c1,e⟩,q⟩;rw[cM 1 rfl];unfold wN;nofun;show#[d.mulOk a,c.mulOk b,((d.mul a).sub (c.mul b)).mulOk e,c1.mulOk a,(c1.mul a).mulOk b,q]
def zh.pts(f:zh e)(r:RX gs e):∀y:Pt,y=e.row.l0\/y=e.row.l1\/y=e.row.u0\/y=e.row.u1->0<y.2/\BL 230 y.1/\BL 230 y.2:=by
 have bW:BL 230 e.W:=(O0 r.hW f.W).mono;rintro y (rfl |rfl |rfl |rfl)
 ·show#[r.V.l0.pos,r.V.l0.bl f.a bW]
 ·show#[r.V.l1.pos,r.V.l1.bl f.b bW]
 ·show#[r.V.u0.pos,r.V.u0.bl f.c bW]
 ·show#[r.V.u1.pos,r.V.u1.bl f.d bW]
abbrev kP(es:θ qc):D:=.lst (es.map λe=>vJ e.row)
abbrev WF(a:θ sx):D:=.tup [.lst ((rj a).map rq),.lst ((vG a).map l7),.lst ((cls a).map l7)]
structure w8(gs:List Pt)(es:List qc)(ps:List sx):Prop where
 G:ph gs
 E:∀e∈es,RX gs e/\zh e
 P:oq gs es ps
 l12:es.length<=12
def Nl(p:Prop)[Decidable p]:(if decide p=ζ then(1:Int) else 0)=ind p:=by unfold ind;erw[decide_eq_true_eq]
def ON:FD:=λd Q=>∃(a:θ Pt)(b:θ qc)(c:θ sx),d=[WF c,kP b,pts a]/\w8 a b c/\Q (.bl ζ)
def Dj:ι ON (GG Ja) ["_law_found","_law_rows","_law_leans","_law_place","_law_number","_law_x","_law_low0","_law_low1","_law_up0","_law_up1","_law_openings"]:=by
 rintro U Q ⟨b,A,s,rfl,L,q⟩;have G:=L.G;have gl:=G.len;have fw:=L.P.few G λe C=>(L.E e C).1;have l12:=L.l12;rw[cM 8 rfl];unfold GG;erw[gE,Xs,aN,cD,bK,bS];unfold WF;generalize hB:D.lst ((rj s).map rq)=u;generalize W:D.lst ((vG s).map l7)=y;generalize X:D.lst ((cls s).map l7)=v;generalize Y:kP A=w;show cV (λ_=>True) (λK c=>?_) (λj _=>by nofun;show q);erw[iA,AB,aE,aU,r2,r1,iR,nE,Hr,aQ,rC,L2.R2.S.val,aA,aB,aJ];show#[#[ν,ν],?_];show uW 0 ((b.length:Int)-1).toNat (λi j=>∃Z a4 H I J M N z:Option L2.R2.S,j=[ap (.tup [u,y,v]),ap w,ap (pts b),Z,a4,H,I,J,M,N,z]) ?_ (λj _=>c j trivial) _ #[ξ,ξ,ξ,ξ,ξ,ξ,ξ,ξ,bg];rintro i j hi ⟨Z,a4,H,I,J,M,N,z,rfl⟩ F fr fb fn _;have hk:i<b.length:=ν
 have O:b[i]?=ψ b[i]:=aG hk;generalize b[i]=g at O;have lg:=G.each g (bJ O);have g1:BL 300 g.1:=lg.bl.mono;have g2:BL 300 g.2:=lg.bot.mono;have dg:∀{Q:D->Prop},Q (pt g)->f8 (pts b) (.int (i:Int)) Q:=λh=>rS (qQ (by rw[bC,O];rfl)) h;unfold yZ;erw[cA,aH,aI];rw[show(0:Int)+(i:Int)=(i:Int) by lia];show dN [ap (.tup [u,y,v]),ap w,ap (pts b),ap (.int i),ap (.int 0),H,I,J,M,N,z] (λK c=>by nofun;show c) ?_;show cV (λj=>∃f k m n o:Option L2.R2.S,j=[ap (.tup [u,y,v]),ap w,ap (pts b),ap (.int i),ap (.int (sL g A)),f,k,m,n,o,z]) (λK c=>?_) ?_
 ·rw[<-Y];erw[iA,riL,bH,aA,aB];rw[Y];show oN (λe=>vJ e.row) A (λR j=>∃(f k m n o:Option L2.R2.S),j=[ap (.tup [u,y,v]),ap w,ap (pts b),ap (.int i),ap (.int (sL g R)),f,k,m,n,o,z]) ?_ ?_ #[H,I,J,M,N,bg]
  ·rintro R e td j ec ⟨f,k,m,n,o,rfl⟩ F2 hr hn;let⟨r,rb⟩:=L.E e (by rw[ec];simp);have T:=rb.pts r;let⟨_,p1,p2⟩:=T _ (.inl rfl);let⟨_,p3,p4⟩:=T _ (.inr (.inl rfl));let⟨_,p5,p6⟩:=T _ (.inr (.inr (.inl rfl)));let⟨_,p7,p8⟩:=T _ (.inr (.inr (.inr rfl)));have u1:=sD (Ie (g:=g) r.hW r.V.l0 r.V.l1 r.ll);have u2:=sD (Ie (g:=g) r.hW r.V.u0 r.V.u1 r.lu);unfold yY;erw[kW,eG,kU,cA,aT,cK,true_and,aH,aI];show dN [ap (.tup [u,y,v]),ap w,ap (pts b),ap (.int i),ap (.int (sL g R+ind (e.l.1*g.2<=g.1*e.l.2))),ap (.int e.row.x),ap (pt e.row.l0),ap (pt e.row.l1),ap (pt e.row.u0),ap (pt e.row.u1),z] (λK n5=>?_) ?_
   ·erw[dC,r2,rCB,cE,aE,aU,bH,aQ,L2.R2.S.val,aA,aB,aH,aI];show dg #[e.row.l0,e.row.l1,g,bg,#[p1.mono,p2.mono,p3.mono,p4.mono,g1,g2],?_];erw[VU,kO,Nl];rw[u1];show n5
   ·erw[dC,r2,rCB,cE,aE,aU,bH,aQ,L2.R2.S.val,aA,aB,aH,aI];show dg #[e.row.u0,e.row.u1,g,bg,#[p5.mono,p6.mono,p7.mono,p8.mono,g1,g2],?_];erw[VU,iR,Nl];rw[u2];rw[LZ,<-On g R e];show hn _ #[_,_,_,_,_,bg]
  ·rintro j ⟨f,k,m,n,o,rfl⟩;show c _ #[f,k,m,n,o,bg]
 rintro j ⟨f,k,m,n,o,rfl⟩;have cp:=Pn G O L.P λe C=>(L.E e C).1;have B:∀{L':θ En}{Q:D->Prop},L'.length<=400->Q (.int (nP i L'))->Sz L'.length/\lK (cA 0) (cU (r2 zn (c5 0 0) (aQ 1))) (bH 0) (L'.map l7) [ξ,ap (.int (i:Int))] [] λU=>nE (.lst U) Q:=λ{L' Q} l q=>by
  show#[iY ν,?_];show PL (λj=>∃a,j=[a,ap (.int (i:Int))]) l7 l7 (λe=>decide (e.1=(i:Int))) L' (λe C j hρ K c=>?_) _ [] #[ξ,bg] ?_
  ·let⟨a,rfl⟩:=hρ;erw[cA,cU,r2,rC,aQ,L2.R2.S.val,aH,aA,aB];rw[show l7 e = .tup [.int e.1,nr e.2] from rfl,iT,Ca,jp 5];show c _ #[_,bg] λK2 k2=>k2
  ·rw[bS];erw[nE,Hr,aJ];show q
 show dN [ap (.tup [u,y,v]),ap w,ap (pts b),ap (.int i),ap (.int (sL g A)),f,k,m,n,o,ap (.int (nP i (vG s)))] (λK c=>?_) ?_
 ·rw[<-W];erw[dC,r1,r2,AA,riL,aQ,rC,AX,jS,L2.R2.S.val,aA,aB,aH,aI,aJ];have:=B (L':=vG s) (Q:=λd=>K [ap (.tup [u,.lst ((vG s).map l7),v]),ap w,ap (pts b),ap (.int i),ap (.int (sL g A)),f,k,m,n,o,ap d]) ν (by rw[W];show c);show this
 rw[<-X];erw[gN,cU,r1,r2,AA,riL,aQ,rC,AX,rH,L2.R2.S.val,aA,aB,aH,aI,aJ];show B (L':=cls s) ν ?_;erw[iR,qR,cp,decide_true,uR,dX,aO,if_false,fB];show fn _ #[_,_,_,_,_,_,_,_,by rw[X]]
def VB:FD:=λb Q=>∃(c:θ Pt)(a:θ qc),b=[kP a]/\((∀e∈a,RX c e/\zh e)/\a.length<=12)/\∀N M,(BL 200000 N/\BL 200000 M)->(0<M/\(N:Rat) / (M:Rat)=wA a)->Q (.tup [.int N,.int M])
structure wx(n:Nat)(N M:Int)(v:Rat):Prop where
 bN:BL n N
 bM:BL n M
 pos:0<M
 eq:(N:Rat) / (M:Rat)=v
def wx.add(a:wx n N M v)(b:wx m N' M' w)(h:n+m+1<=k):wx k (N*M'+N'*M) (M*M') (v+w):=by
 have c:=qH a.pos;have d:=qH b.pos;show#[((a.bN.mul b.bM).add (b.bN.mul a.bM)).mono ν,(a.bM.mul b.bM).mono ν,aW a.pos b.pos,?_];rw[<-a.eq,<-b.eq];erw[kZ,TJ];grind
def wx.neg(a:wx n N M v):wx n (0-N) M (0-v):=by
 have b:=qH a.pos;show#[by rw[Int.zero_sub];show a.bN.neg,a.bM,a.pos,?_];rw[<-a.eq];erw[vO];rw[show((0:Int):Rat)=0 from rfl];grind
def Hf:ι VB (vI F_added7) ["_law_rows","_law_total","_law_x","_law_low0","_law_low1","_law_up0","_law_up1"]:=by
 rintro Z Q ⟨gs,F,rfl,⟨E,W⟩,q⟩;rw[cM 6 rfl];unfold vI;erw[gE,V8,aN,cD,bK,bS];generalize P:kP F=B;show dN [ap B,ap (.tup [.int 0,.int 1]),ξ,ξ,ξ,ξ,ξ] (λK G=>by nofun;show G) ?_;show cV (λc=>∃(N M:Int)(g j k l m:Option L2.R2.S),wx 200000 N M (wA F)/\c=[ap B,ap (.tup [.int N,.int M]),g,j,k,l,m]) (λK G=>?_) ?_
 ·rw[<-P];erw[iA,riL,bH,aA,aB];rw[P];show oN (λe=>vJ e.row) F (λC c=>∃(N M:Int)(g j k l m:Option L2.R2.S),wx (1000*(C.length+1)) N M (wA C)/\c=[ap B,ap (.tup [.int N,.int M]),g,j,k,l,m]) ?_ ?_ #[0,1,ξ,ξ,ξ,ξ,ξ,#[(BL.const (n:=2) (i:=0) μ).mono,(BL.const (n:=2) (i:=1) μ).mono,μ,by show((0:Int):Rat) / ((1:Int):Rat)=0;rw[show((0:Int):Rat)=0 from rfl];grind],bg]
  ·rintro C e td c R ⟨N,M,g,j,k,l,m,A,rfl⟩ F2 hr X;have ld:C.length+1<=12:=(by have:=Ψ jE R;simp at this;lia);let⟨r,Y⟩:=E e (by rw[R];simp);have H:=Y.pts r;have b:∀y:Pt,y=e.row.l0\/y=e.row.l1\/y=e.row.u0\/y=e.row.u1->wx 230 y.1 y.2 (qv y):=λy I=>#[(H y I).2.1,(H y I).2.2,(H y I).1,bg];have T:=b _ (.inl rfl);have U:=b _ (.inr (.inl rfl));have J:=b _ (.inr (.inr (.inl rfl)));have L:=b _ (.inr (.inr (.inr rfl)));have D:=A.add (J.add L (aY _)) (aY _);have z:=D.add T.neg (aY _);have d:=z.add U.neg (aY _);have f:∀{n:Nat}{N M:Int}{v:Rat},wx n N M v->n<=7000000->BL 7000000 N/\BL 7000000 M:=λa h=>#[a.bN.mono h,a.bM.mono h];unfold sJ;erw[kW,eG,kU,cA,aT,cK,true_and,aH,aI];show dN [ap B,ap (.tup [.int (N*(e.row.u0.2*e.row.u1.2)+(e.row.u0.1*e.row.u1.2+e.row.u1.1*e.row.u0.2)*M),.int (M*(e.row.u0.2*e.row.u1.2))]),ap (.int e.row.x),ap (pt e.row.l0),ap (pt e.row.l1),ap (pt e.row.u0),ap (pt e.row.u1)] (λK O=>?_) ?_
   ·erw[dC,cE,aE,aU,bH,aA,aB,aH,aI];let⟨o,s⟩:=f J μ;let⟨u,w⟩:=f L μ;show#[_,_,_,_,bg,#[o,s,u,w],?_];let⟨o,s⟩:=f A ν;let⟨u,w⟩:=f (J.add L (aY _)) μ;show#[_,_,_,_,bg,#[o,s,u,w],O]
   generalize N*(e.row.u0.2*e.row.u1.2)+(e.row.u0.1*e.row.u1.2+e.row.u1.1*e.row.u0.2)*M=V at D z d⊢;generalize M*(e.row.u0.2*e.row.u1.2)=M1 at D z d⊢;show dN [ap B,ap (.tup [.int (V*e.row.l0.2+(0-e.row.l0.1)*M1),.int (M1*e.row.l0.2)]),ap (.int e.row.x),ap (pt e.row.l0),ap (pt e.row.l1),ap (pt e.row.u0),ap (pt e.row.u1)] (λK O=>?_) ?_
   ·erw[dC,cE,aE,aU,gQ,r2,bH,aQ,rC,iR,iT,jS,L2.R2.S.val,aA,aB,aH,aI,aT,cK];let⟨o,s⟩:=f D ν;let⟨u,w⟩:=f T.neg μ;show#[sz2,_,_,_,_,bg,#[o,s,u,w],O]
   generalize V*e.row.l0.2+(0-e.row.l0.1)*M1=N2 at z d⊢;generalize M1*e.row.l0.2=M2 at z d⊢;erw[dC,cE,aE,aU,gQ,r2,bH,aQ,rC,iR,iT,jS,L2.R2.S.val,aA,aB,aH,aI,aT,cK];let⟨o,s⟩:=f z ν;let⟨u,w⟩:=f U.neg μ;show#[sz2,_,_,_,_,bg,#[o,s,u,w],X _ #[_,_,_,_,_,_,_,#[d.bN.mono (by rw[bI];simp;lia),d.bM.mono (by rw[bI];simp;lia),d.pos,?_],bg]];rw[d.eq,Oy];grind
  ·rintro c ⟨N,M,g,j,k,l,m,A,rfl⟩;show G _ #[N,M,g,j,k,l,m,#[A.bN.mono ν,A.bM.mono ν,A.pos,A.eq],bg]
 rintro c ⟨N,M,g,j,k,l,m,A,rfl⟩;nofun;show q N M #[A.bN,A.bM] #[A.pos,A.eq]
def Bp:FD:=λa Q=>∃(n:Int)(s h:Pt),a=[.int n,pt s,pt h]/\(vo s/\0<h.1/\0<h.2/\BL 240 h.1/\BL 10 h.2)/\∀X Y W,ul (s.2*h.2) (tE s h) X Y W->(BL 400 X/\BL 400 Y/\BL 400 W)->Q (pb X Y W)
def Ks:ι Bp DY ["_law_cell_here","_law_s","_law_h","_law_number","_law_x","_law_y","_law_share"]:=by
 rintro I Q ⟨n,s,h,rfl,⟨z,A,o,u,j⟩,q⟩;rw[cM 4 rfl];unfold DY;erw[gE,Xq,aN,cD,bK,bS];show cV (λd=>∃k:Int,(0<=k/\k<2147483629)/\d=[ap (.int n),ap (pt s),ap (pt h),ap (.int k),ξ,ξ,ξ]) (λK D=>?_) ?_
 ·let⟨J,L⟩:=gM (a:=n) (b:=1000000000) μ;have C:BL 41 (n.fmod 1000000000+7):=BL.of_lt (m:=41) ν ν;have l:BL 41 (n.fmod 1000000000+31):=BL.of_lt (m:=41) ν ν;let⟨E,c1⟩:=gM (a:=(n.fmod 1000000000+7)*(n.fmod 1000000000+31)*48271) (b:=2147483629) μ;nofun;show#[QI,pH,QI,pH,C.mulOk l,(C.mul l).mulOk (BL.const (n:=20) μ),pH,D _ #[_,#[E,c1],bg]]
 rintro d ⟨k,M,rfl⟩;have bk:BL 40 k:=BL.of_lt (m:=40) ν ν;let⟨N,O⟩:=gM (a:=k) (b:=1008) μ;let⟨P,R⟩:=gM (a:=(k*69621).fmod 2147483587) (b:=9972) μ;have v:=z.bl;have c:=z.bot;have g:=z.pos;have f:BL 11 (1+k.fmod 1008):=BL.of_lt (m:=11) ν ν;have w:BL 14 (1+((k*69621).fmod 2147483587).fmod 9972):=BL.of_lt (m:=14) ν ν;have i:BL 14 9973:=BL.const μ;have B:BL 14 1009:=BL.const μ;have kk:BL 30 10062757:=BL.const μ;nofun;show#[pH,bk.mulOk (BL.const (n:=20) μ),pH,pH,(BL.const (n:=20) μ).mulOk (BL.const (n:=20) μ),kk.mulOk c,(kk.mul c).mulOk j,f.mulOk i,(f.mul i).mulOk c,((f.mul i).mul c).mulOk j,f.mulOk v,(f.mul v).mulOk i,((f.mul v).mul i).mulOk j,w.mulOk u,(w.mul u).mulOk B,((w.mul u).mul B).mulOk c,?_];have F:=(((f.mul i).mul c).mul j).mono (show _<=400 by decide);have G:=((((f.mul v).mul i).mul j).add (((w.mul u).mul B).mul c)).mono (show _<=400 by decide);have H:=((kk.mul c).mul j).mono (show _<=400 by decide);have p:0<1+k.fmod 1008/\0<1009-(1+k.fmod 1008):=#[ν,ν];have r:0<1+((k*69621).fmod 2147483587).fmod 9972/\0<9973-(1+((k*69621).fmod 2147483587).fmod 9972):=#[ν,ν];generalize 1+k.fmod 1008=x at *;generalize 1+((k*69621).fmod 2147483587).fmod 9972=y at *;show q _ _ _ ((Bv g o A).1.mpr #[?_,?_,?_,?_]) #[F,G,H]
 ·have e:s.2*(x*s.1*9973*h.2+y*h.1*1009*s.2)-s.1*(x*9973*s.2*h.2)=1009*(y*h.1*(s.2*s.2)):=δ
  have:=aW (aW r.1 A) (aW g g);lia
 ·have e:10062757*s.2*h.2-x*9973*s.2*h.2=9973*((1009-x)*(s.2*h.2)):=δ
  have:=aW p.2 (aW g o);lia
 ·have e:h.1*s.2*(10062757*s.2*h.2)+s.1*h.2*(x*9973*s.2*h.2)-s.2*h.2*(x*s.1*9973*h.2+y*h.1*1009*s.2)=1009*((9973-y)*(h.1*h.2*(s.2*s.2))):=δ
  have:=aW r.2 (aW (aW A o) (aW g g));lia
 ·have e:x*9973*s.2*h.2=9973*(x*(s.2*h.2)):=δ
  have:=aW p.1 (aW g o);lia
def OO:FD:=λc Q=>∃(a:θ Pt)(B:θ za)(d:θ Int),c=[.lst (B.map rq),pts a,il d]/\(ph a/\∀b∈B,gV a b)/\Q (.bl ζ)
def Dk:ι OO (BK F_many7 Bp) ["_law_boxes","_law_leans","_law_cells","_law_place","_law_height","_law_bits_here","_law_cell"]:=by
 rintro ds Q ⟨l,B,g,rfl,⟨G,hB⟩,q⟩;rw[cM 4 rfl];unfold BK;erw[gE,Xq,aN,cD,bK,bS];show cV (λ_=>True) (λK I=>?_) (λd _=>by nofun;show q);erw[iA,riL,bH,aA];generalize J:D.lst (B.map rq)=m;show oN rq B (λL d=>∃(n o u a:Option L2.R2.S),d=[ap m,ap (pts l),ap (il g),n,o,u,a]) ?_ (λd _=>I d trivial) #[ξ,ξ,ξ,ξ,bg];rintro L b e d M ⟨n,o,u,a,rfl⟩ F hr N;have f:=hB b (by rw[M];simp);let⟨k,s,w,A,T⟩:=f.ix;have C:=G.each s (bJ w);unfold wJ;erw[kW,eG,kU,cA,aT,cK,true_and,aH,aI,iA,riL,bH,aA,aB];show mQ (λE d=>∃(a:Option L2.R2.S),(∃e:θ Int,E=e.map D.int)/\d=[ap m,ap (pts l),ap (il g),ap (.int b.1),ap (pt b.2.1),ap (.lst [nr b.2.2]),a]) ?_ (λd h=>?_) _ _ #[a,#[g,bg],bg]
 ·rintro y E d ⟨a,⟨e,H⟩,rfl⟩ F2 O _ i _;cases e with
  |nil=>cases H
  |cons c e=>
   cases H;unfold wI;erw[cA,gN,cU,r2,cE,aE,aU,nO,bH,aQ,rC,L2.R2.S.val,aA,aB,aH,aI,aT,cK];rw[A];show wZ w #[c,s,b.2.1,bg,#[C,f.h1,f.h2,f.b1,f.b2],λX Y W P R=>?_];let⟨U,V,Z⟩:=R;have v:oz χ X Y W b.2.2=1:=by
    unfold oz;rw[ω μ,Ov (aW C.pos f.h2) T];show UQ P
   show#[[b.2.2],X,Y,W,χ,bg,#[show 1<=640 by decide,λx j=>by rw[bR.mp j];show f.lb],#[U.mono,V.mono,Z.mono],?_,?_]
   ·rintro⟨x,j,z⟩;rw[bR.mp j,v] at z;show Ω z μ
   ·intro _;have:cnt (oz χ X Y W) [b.2.2]=1:=(by show(if oz χ X Y W b.2.2=1 then(1:Int) else 0)+0=1;rw[υ v];rfl);rw[this];show#[sz2,bg,?_];erw[decide_true,dX,aO,if_false,fB];show i _ #[_,#[e,bg],by rw[A]]
 ·let⟨a,_,rfl⟩:=h;show N _ #[_,_,_,_,bg]
def Ir:FD:=λc Q=>∃(a:θ Pt)(b:za),c=[rq b,pts a]/\(ph a/\gV a b)/\Q (.bl ζ)
def Oi{N M a b:Int}(c:0<M)(d:0<b)(h:(N:Rat) / (M:Rat)=(a:Rat) / (b:Rat)):N*b=a*M:=by
 have e:=qH c;have f:=qH d;have:((N*b:Int):Rat)=((a*M:Int):Rat):=by erw[kZ];grind
 show TK.mp this
def Rc:ι Ir (SB F_areas7 F_bits7 F_inbox7 F_isfr BY) ["_law_box_here","_law_leans","_law_bit","_law_total"]:=by
 rintro U Q ⟨i,b,rfl,⟨G,f⟩,q⟩;let⟨k,s,m,B,T⟩:=f.ix;have V:=(bF.mp m).1;have d:=G.each s (bJ m);have C:=f.h1;rw[cM 2 rfl];unfold SB;erw[gE,QO,aN,cD,bK,bS];unfold rq;rw[B];generalize j:nr b.2.2=c;show dN [ap (.tup [.int (k:Int),pt b.2.1,.lst [c]]),ap (pts i),ξ,ξ] (λK g=>?_) ?_
 ·nofun;show#[_,bg,?_];nofun;show#[b.2.1,bg,#[f.h2,f.cop],?_];nofun;show g
 show dN [ap (.tup [.int (k:Int),pt b.2.1,.lst [c]]),ap (pts i),ξ,ξ] (λK g=>?_) ?_
 ·nofun;rw[ω ν,ω (by rw[aJ];lia),ω ν];show#[[b.2.2],by rw[<-j];rfl,λx n=>by rw[bR.mp n];show f.lb,?_];nofun;show g
 show cV (λa=>∃u,a=[ap (.tup [.int (k:Int),pt b.2.1,.lst [c]]),ap (pts i),u,ξ]) (λK g=>?_) ?_
 ·erw[iA,riL,r2,aQ,rC,rH,aA];show mQ (λo a=>∃u,(o=[c]\/o=[])/\a=[ap (.tup [.int (k:Int),pt b.2.1,.lst [c]]),ap (pts i),u,ξ]) ?_ (λa h=>by let⟨u,_,rfl⟩:=h;show g _ #[u,bg]) _ _ #[ξ,.inl rfl,bg];rintro y o a ⟨u,h,rfl⟩ F W D E _;rcases h with h |h
  ·cases h;let⟨H,v,w,X,Y⟩:=f.lb;unfold GF;erw[cA,gN,oR,cU,r2,cE,aE,aU,aQ,rC,iT,jS,L2.R2.S.val,aA,aB,aH,aI];rw[<-j];unfold nr;erw[iT];show wZ m #[b.2.2.1,b.2.2.2.1,s,b.2.1,bg,#[v.mono,λz l=>#[(w z l).1.mono,(w z l).2.mono],d.bl.mono,d.bot.mono,f.b1.mono,f.b2.mono],ν,λz l=>?_,?_]
   ·have I:=(Ot (aW d.pos f.h2) T).mp (T4 H l);let⟨c1,Z,c3,J⟩:=(Bv d.pos f.h2 C).2.mp I;show#[#[J,ν],?_,?_]
    ·rw[jO z.2,jO z.1];show c1
    ·have e:(z.2*s.2-z.1*s.1)*b.2.1.2=s.2*b.2.1.2*z.2-s.1*b.2.1.2*z.1:=δ;lia
   ·erw[dX,aO,if_false,fB];show E _ #[ap c,.inr rfl,by rw[<-j];rfl]
  ·cases h
 rintro a ⟨u,rfl⟩;erw[cS,dC,eP,r2,cE,aE,aU,bH,aQ,rC,iT,jS,rH,fI,L2.R2.S.val,aA,aB,aH,aI];show#[[b.2.2],by rw[<-j];rfl,#[show 1<=640 by decide,λx n=>by rw[bR.mp n];show f.lb],λN M ⟨L,O⟩ ⟨P,A⟩=>?_];erw[iT,jS,fI,qR];have two:BL 3 2:=BL.const μ;show#[L.mulOk f.b2,two.mulOk f.b1,(two.mul f.b1).mulOk O,?_];have R:sy [b.2.2]=((2*b.2.1.1:Int):Rat) / (b.2.1.2:Rat):=by
  show uy b.2.2+0=_;rw[Mf d.pos f.h2 T];have n2:=qH f.h2;unfold qv;erw[kZ];rw[show((2:Int):Rat)=2 from rfl];grind
 rw[R] at A;rw[Oi P f.h2 A,decide_eq_true rfl];show q
def VA:FD:=λc Q=>∃(s t:Pt)(b:Bool),c=[pt s,pt t,.bl b]/\(vo s/\vo t)/\∀a zs,Told (s.2*t.2) (pU s t b) a zs->Q (pc a zs)
def He:ι VA (JG Lu) ["_law_s","_law_t","_law_opening","_law_share","_law_low","_law_high"]:=by
 rintro n Q ⟨s,t,b,rfl,⟨f,g⟩,q⟩;rw[cM 3 rfl];unfold JG;erw[gE,Ds,aN,cD,bK,bS];have sp:0<s.2*t.2:=aW f.pos g.pos;have l:BL 100 (s.2*t.2):=(f.bot.mul g.bot).mono;show dN [ap (pt s),ap (pt t),ap (.bl b),ap (.int (s.2*t.2)),ξ,ξ] (λK h=>by nofun;show#[f.bot.mulOk g.bot,h]) ?_;show dN [ap (pt s),ap (pt t),ap (.bl b),ap (.int (s.2*t.2)),ap (.int (s.1*t.2)),ξ] (λK h=>by nofun;show#[f.bl.mulOk g.bot,h]) ?_;show dN [ap (pt s),ap (pt t),ap (.bl b),ap (.int (s.2*t.2)),ap (.int (s.1*t.2)),ap (.int (t.1*s.2))] (λK h=>by nofun;show#[g.bl.mulOk f.bot,h]) ?_;have i:∀a k c:Pt,pU s t b=[a,k,c]->Lu [.int (s.2*t.2),pts [a,k,c]] Q:=λa k c e=>#[_,_,bg,#[sp,l],#[η,η],λm o zs j d=>q _ _ (by rw[e];show Ux d)];cases b with
 |true=>
  nofun;show i (0,0) (s.2*t.2,s.1*t.2) (s.2*t.2,t.1*s.2) rfl
 |false=>
  nofun;show i (0,0) (s.2*t.2,t.1*s.2) (0,t.1*s.2-s.1*t.2) rfl
def OR:FD:=λc Q=>∃(a:θ Pt)(L:θ En)(b:Bool),c=[.lst (L.map l7),pts a,.bl b]/\(ph a/\∀e∈L,hC a b e)/\Q (.bl ζ)
def Do:ι OR (GO F_isbit7 VA BY) ["_law_wedges_here","_law_leans","_law_opening","_law_wedge_here"]:=by
 rintro H Q ⟨d,L,b,rfl,⟨G,m⟩,q⟩;rw[cM 1 rfl];unfold GO;erw[gE,Ld,aN,cD,bK,bS];have n:Cq "list" (.lst (L.map l7))=ψ ζ:=rfl;show dN [ap (.lst (L.map l7)),ap (pts d),ap (.bl b),ξ] (λK c=>?_) ?_
 ·nofun;erw[n];nofun;show c
 show cV (λ_=>True) (λK c=>?_) (λa _=>by nofun;show q);erw[iA,riL,bH,aA];generalize o:D.lst (L.map l7)=g;show oN l7 L (λv a=>∃(u:Option L2.R2.S),a=[ap g,ap (pts d),ap (.bl b),u]) ?_ (λa _=>c a trivial) #[ξ,bg];rintro v e I a w ⟨u,rfl⟩ F J y;have f:=m e (by rw[w];simp);let⟨k,s,t,i,h,z,T⟩:=f.ix;have M:=(bF.mp h).1;let⟨A,lt,R⟩:=G.rise i h;unfold zD;erw[cA,aH,aI];unfold l7;rw[z];generalize j:nr e.2=l;show dN [ap g,ap (pts d),ap (.bl b),ap (.tup [.int (k:Int),l])] (λK c=>?_) ?_
 ·nofun;show#[_,bg,?_];nofun;show#[e.2,by rw[j],f.lb,?_];nofun;show c
 show dN [ap g,ap (pts d),ap (.bl b),ap (.tup [.int (k:Int),l])] (λK c=>?_) ?_
 ·nofun;rw[ω ν,ω (by rw[aJ];lia)];show c
 erw[gN,cU,r2,cE,aE,aU,bH,aQ,rC,iT,jS,kO,L2.R2.S.val,aA,aB];rw[<-j];unfold nr;erw[iT];rw[show(k:Int)+1=((k+1:Nat):Int) by lia];show wZ i (wZ h #[s,t,b,bg,#[A,lt],λN zs B=>?_]);let⟨C,E⟩:=T.same B (aW R.sp R.tp) (aW R.sp R.tp) rfl (Bk R b).nodup;subst C E;erw[dNe];rw[P4 2];erw[dX,aO,if_false,fB];show y _ #[_,bg]
def Ip:FD:=λc Q=>∃(b:θ Pt)(d:θ qc)(a:θ sx),c=[WF a,pts b]/\w8 b d a/\Q (.lst ((allB a).map nr))
def Ra:ι Ip (BH Ir OR) ["_law_found","_law_leans","_law_bits_here","_law_box_here"]:=by
 rintro W Q ⟨f,X,i,rfl,L,q⟩;have G:=L.G;let⟨s,v,w⟩:=L.P.facts G L.E;have Y:=L.P.few G λe y=>(L.E e y).1;have M:=L.l12;rw[cM 2 rfl];unfold BH;erw[gE,QO,aN,cD,bK,bS];have N:∀b∈allB i,b.2.2.1=1:=λb j=>by
  erw[allB,bQ,bD] at j;rcases j with(⟨x,k,rfl⟩ | ⟨x,k,rfl⟩) | ⟨x,k,rfl⟩
  ·show(s x k).sg
  ·show(v x k).sg
  ·show(w x k).sg
 have Z:(allB i).length<=192:=by erw[allB,bI,aJ];lia
 unfold WF allB at *;generalize rj i=B at *;generalize vG i=O at *;generalize cls i=C at *;have R:Cq "list" (.lst (B.map rq))=ψ ζ:=rfl;show dN [ap (.tup [.lst (B.map rq),.lst (O.map l7),.lst (C.map l7)]),ap (pts f),ξ,ξ] (λK c=>?_) ?_
 ·nofun;erw[R];nofun;show c
 show dN [ap (.tup [.lst (B.map rq),.lst (O.map l7),.lst (C.map l7)]),ap (pts f),ap (.lst []),ξ] (λK c=>by nofun;show c) ?_;show cV (λd=>∃u,d=[ap (.tup [.lst (B.map rq),.lst (O.map l7),.lst (C.map l7)]),ap (pts f),ap (.lst ((B.map (·.2.2)).map nr)),u]) (λK c=>?_) ?_
 ·erw[iA,riL,r2,aQ,rC,iT,aA];generalize m:D.lst (B.map rq)=z;generalize n:D.lst (O.map l7)=H;generalize o:D.lst (C.map l7)=I;show oN rq B (λh d=>∃(u:Option L2.R2.S),d=[ap (.tup [z,H,I]),ap (pts f),ap (.lst ((h.map (·.2.2)).map nr)),u]) ?_ ?_ #[ξ,bg]
  ·rintro h b td d J ⟨u,rfl⟩ F hr T;have ld:h.length<=12:=(by have:=Ψ jE J;simp at this;lia);unfold wH;erw[cA,aH,aI];show dN [ap (.tup [z,H,I]),ap (pts f),ap (.lst ((h.map (·.2.2)).map nr)),ap (rq b)] (λK U=>?_) ?_
   ·erw[gN,oR,cU,cE,aE,aU,bH,aA,aB];show#[f,b,bg,#[G,s b (by rw[J];simp)],?_];erw[dX,aO,if_false,fB];show U
   erw[dC,r2,aQ,rC,rH,qD,L2.R2.S.val,aA,aB,aH,aI];show#[iY (by erw[aJ,aT,cK];lia),?_];rw[show(h.map (·.2.2)).map nr++[nr b.2.2]=((h++[b]).map (·.2.2)).map nr by simp];show T _ #[_,bg]
  ·rintro d ⟨u,rfl⟩;show c _ #[u,by rw[m,n,o]]
 rintro d ⟨u,rfl⟩;show dN [ap (.tup [.lst (B.map rq),.lst (O.map l7),.lst (C.map l7)]),ap (pts f),ap (.lst ((B.map (·.2.2)).map nr)),u] (λK c=>?_) ?_
 ·erw[gN,rOr,oR,cU,cE,aE,aU,r2,bH,aQ,rC,jS,rH,L2.R2.S.val,aA,aB];show#[f,O,ζ,bg,#[G,v],?_];erw[dX,aO,if_false];show#[f,C,χ,bg,#[G,w],?_];erw[dX,aO,if_false,fB];show c
 have g:∀{E:θ En}{Q:θ D->Prop},E.length<=400->Q ((E.map (·.2)).map nr)->Sz (E.map l7).length/\yS (cA 0) (c5 0 1) (E.map l7) [ξ] [] Q:=λ{E Q} l q=>by
  show#[iY (by rw[aJ];lia),nZ (λd=>∃u,d=[u]) l7 (λe=>nr e.2) E ?_ #[ξ,bg] (by rw[cO] at q;show q)];rintro e y d ⟨u,rfl⟩ K c;erw[cA,r2,aQ,rC,jS,L2.R2.S.val,aH,aA];show c _ #[_,bg]
 show dN [ap (.tup [.lst (B.map rq),.lst (O.map l7),.lst (C.map l7)]),ap (pts f),ap (.lst ((B.map (·.2.2)++O.map (·.2)++C.map (·.2)).map nr)),u] (λK c=>?_) ?_
 ·erw[dC,r2,oC,riL,aQ,rC,AX,jS,rH,L2.R2.S.val,aA,aB,aH,aI,cD,cQ];show g ν ?_;erw[qD];show#[iY (by erw[aJ];lia),g ν ?_];show#[iY (by erw[aJ,bI];lia),?_];rw[<-aX,<-aX];show c
 generalize B.map (·.2.2)++O.map (·.2)++C.map (·.2)=A at *;show dN [ap (.tup [.lst (B.map rq),.lst (O.map l7),.lst (C.map l7)]),ap (pts f),ap (.lst (A.map nr)),u] (λK c=>?_) ?_
 ·erw[gN,cU,r1,r2,AA,riL,bH,aQ,rC,AX,L2.R2.S.val,aA,aB,cD,cQ];show#[iY (by rw[aJ];lia),?_];show PL (λd=>∃a,d=[a]) nr nr (λb=>decide (b.2.2.1=1)) A (λb j d hρ K c=>?_) _ [] #[ξ,bg] ?_
  ·let⟨a,rfl⟩:=hρ;erw[cA,cU,r2,rC,aQ,L2.R2.S.val,aH,aA];unfold nr yb;erw[iT,jS,qR,xK];show c _ #[_,bg] λK2 V=>V
  ·rw[bS,List.filter_eq_self.mpr λb j=>decide_eq_true (N b j)];erw[nE,Hr,mK,aJ];rw[decide_eq_false ν];erw[aO,if_false,fB];show c
 nofun;show q
theorem PM:∀(r:θ Pt)(a:Pt)(j:Nat),j<=r.length->(a::r)[j]?=ψ (AY a (r.take j))
 |r,a,0,_=>by rw[mG];rfl
 | [],a,j+1,h=>by simp at h
 |b::r,a,j+1,h=>by
  show(b::r)[j]?=ψ (AY b (r.take j));show PM r b j (~~~h)
theorem PQ:∀(r:θ Pt)(a:Pt),(a::r).getLast? = ψ (AY a r)
 | [],a=>rfl
 |b::r,a=>by rw[List.getLast?_cons_cons];show PQ r b
section
variable{X Y V:Int}
def pz(X Y V:Int):θ Pt->Nat->Int
 | [],_=>0
 |_::_,0=>0
 |a::r,k+1=>sS X Y V (sd (AY a r) a)+sS X Y V (jU a (r.take k))
def F1{g:θ Pt}{k:Nat}(h:k<g.length):∃x y,qe (g.map pt) ((k:Int)-1)=ψ (pt x)/\x∈g/\g[k]?=ψ y/\pz X Y V g (k+1)=pz X Y V g k+sS X Y V (sd x y):=by
 cases g with
 |nil=>cases h
 |cons a r=>
  cases k with
  |zero=>
   show#[AY a r,a,Sn (by rw[List.getLast?_map,PQ];rfl),List.mem_of_getLast? (PQ r a),bg,?_];show _+sS X Y V (jU a (r.take 0))=0+_;rw[mG];show _+(0:Int)=_;lia
  |succ j=>
   have b:j<r.length:=(~~~h);show#[AY a (r.take j),r[j],So (j:=j) ν (by rw[bC,PM r a j ν];rfl),bJ (PM r a j ν),by rw[aB,aG b],?_];show _+sS X Y V (jU a (r.take (j+1)))=_+sS X Y V (jU a (r.take j))+_;rw[gD,aG b,K23.walk_app,sK];show _+(_+sS X Y V (sd _ _++[]))=_;rw[cQ];lia
def V4(g:θ Pt):pz X Y V g g.length=sS X Y V (oD g):=by
 cases g with
 |nil=>rfl
 |cons a r=>
  show _+sS X Y V (jU a (r.take r.length))=sS X Y V (jU a (r++[a]));rw[jH,K23.walk_app,sK];show _=_+sS X Y V (sd _ _++[]);rw[cQ];lia
end
def ag{a b:Pt}(h:a.1≠b.1):HT.lexLt [a.1,a.2] [b.1,b.2]=decide (a.1<b.1):=by
 rw[HT.lexLt_cons,ω h]
def mm(x y:Pt):∃o p:Pt,(if NN χ [y.1,y.2] [x.1,x.2]=ζ then[y.1,y.2] else[x.1,x.2])=[o.1,o.2]/\(if NN ζ [y.1,y.2] [x.1,x.2]=ζ then[y.1,y.2] else[x.1,x.2])=[p.1,p.2]/\((o=x\/o=y)/\(p=x\/p=y))/\(sd x y=[(o,p)]\/(sd x y=[]/\o.1=p.1)):=by
 by_cases h:x.1=y.1
 ·rw[K23.sd_same h];show#[if NN χ [y.1,y.2] [x.1,x.2]=ζ then y else x,if NN ζ [y.1,y.2] [x.1,x.2]=ζ then y else x,by split <;> rfl,by split <;> rfl,#[by split <;> simp,by split <;> simp],.inr #[bg,?_]];split <;> split <;> lia
 ·rw[show NN χ [y.1,y.2] [x.1,x.2]=_ from ag (Ne.symm h),show NN ζ [y.1,y.2] [x.1,x.2]=_ from ag h];by_cases k:x.1<y.1
  ·have a:¬y.1<x.1:=ν;erw[k,a,decide_true,decide_false,if_true,if_false,aO];show#[x,y,bg,bg,#[.inl rfl,.inr rfl],.inl (by unfold sd;rw[υ k])]
  ·have a:y.1<x.1:=ν;erw[k,a,decide_true,decide_false,if_true,if_false,aO];show#[y,x,bg,bg,#[.inr rfl,.inl rfl],.inl (by unfold sd;rw[ω k,υ a])]
structure ja(R:List (List Pt)):Prop where
 len:R.length<=5
 each:∀g∈R,g.length<=10
 bl:∀g∈R,∀z∈g,BL 300 z.1/\BL 300 z.2
def Ix:FD:=λa Q=>∃(R:θ (θ Pt))(X Y V:Int),a=[sN R,pb X Y V]/\(ja R/\BL 400 X/\BL 400 Y/\BL 20 V)/\Q .non/\Q (.int ((sS X Y V (jM R)).fmod 2))
def Rf:ι Ix SD ["_law_rings","_law_spot","_law_many_here","_law_ring","_law_k","_law_one","_law_other","_law_right","_law_rise","_law_above"]:=by
 rintro ds Q ⟨R,X,Y,V,rfl,⟨H,bX,bY,s⟩,q0,q1⟩;rw[cM 8 rfl];unfold SD;erw[gE,Xs,aN,cD,bK,bS];generalize w:sN R=n;show dN [ap n,ap (pb X Y V),ap (.int 0),ξ,ξ,ξ,ξ,ξ,ξ,ξ] (λK I=>by nofun;show I) ?_;show cV (λd=>∃q j l f a b c:Option L2.R2.S,d=[ap n,ap (pb X Y V),ap (.int (sS X Y V (jM R))),q,j,l,f,a,b,c]) (λK I=>?_) ?_
 ·rw[<-w];erw[iA,riL,bH,aA];rw[w];show oN pts R (λu d=>∃(q j l f a b c:Option L2.R2.S),d=[ap n,ap (pb X Y V),ap (.int (sS X Y V (jM u))),q,j,l,f,a,b,c]) ?_ ?_ #[ξ,ξ,ξ,ξ,ξ,ξ,ξ,bg]
  ·rintro u g td d ec ⟨q,j,l,f,a,b,c,rfl⟩ F hr hn;have J:g∈R:=(by rw[ec];simp);have gl:=H.each g J;unfold GM;erw[cA,iA,AB,aE,aU,r1,nE,Hr,aQ,L2.R2.S.val,aA,aB,aH,aI,aJ];show#[#[ν,ν],?_];rw[gF];show uW 0 g.length (λi d=>∃j l f a b c:Option L2.R2.S,d=[ap n,ap (pb X Y V),ap (.int (sS X Y V (jM u)+pz X Y V g i)),ap (pts g),j,l,f,a,b,c]) ?_ ?_ _ #[j,l,f,a,b,c,by rw[show pz X Y V g 0=0 by cases g <;> rfl,wP]]
   ·rintro i d hi ⟨j,l,f,a,b,c,rfl⟩ F2 L _ M _;let⟨x,y,hx,y3,hy,es⟩:=F1 (X:=X) (Y:=Y) (V:=V) hi;obtain⟨o,p,eo,ep,⟨io,ip⟩,A⟩:=mm x y;have hy':=bJ hy;obtain⟨m,N⟩:BL 300 o.1/\BL 300 o.2:=(by rcases io with rfl |rfl <;> show H.bl g J _ ‹_›);obtain⟨c3,c4⟩:BL 300 p.1/\BL 300 p.2:=(by rcases ip with rfl |rfl <;> show H.bl g J _ ‹_›);have ix:∀{Q:D->Prop},Q (pt x)->f8 (pts g) (.int ((i:Int)-1)) Q:=λh=>rS hx h;have iy:∀{Q:D->Prop},Q (pt y)->f8 (pts g) (.int (i:Int)) Q:=λh=>rS (qQ (by rw[bC,hy];rfl)) h;unfold GL;erw[cA,aH,aI];rw[show(0:Int)+(i:Int)=(i:Int) by lia];generalize O:sS X Y V (jM u)+pz X Y V g i=E;show dN [ap n,ap (pb X Y V),ap (.int E),ap (pts g),ap (.int i),ap (pt o),f,a,b,c] (λK2 P=>?_) ?_
    ·erw[dC,rCB,aE,aU,r2,aQ,rC,iR,L2.R2.S.val,aA,aB,aH,aI];show ix (iy #[[x.1,x.2],[y.1,y.2],bg,?_]);rw[eo];show P
    show dN [ap n,ap (pb X Y V),ap (.int E),ap (pts g),ap (.int i),ap (pt o),ap (pt p),a,b,c] (λK2 P=>?_) ?_
    ·erw[dC,rCB,aE,aU,r2,aQ,rC,iR,L2.R2.S.val,aA,aB,aH,aI];show ix (iy #[[x.1,x.2],[y.1,y.2],bg,?_]);rw[ep];show P
    have go:∀(v:Int)(T U W:Option L2.R2.S),v=sS X Y V (sd x y)->F2.nx [ap n,ap (pb X Y V),ap (.int (E+v)),ap (pts g),ap (.int i),ap (pt o),ap (pt p),T,U,W]:=λv T U W Z=>M _ #[_,_,_,T,U,W,by rw[es,<-Z,<-O,Int.add_assoc]];have B:¬(o.1*V<X/\X<p.1*V)->F2.nx [ap n,ap (pb X Y V),ap (.int E),ap (pts g),ap (.int i),ap (pt o),ap (pt p),a,b,c]:=λh=>by
     have:=go 0 a b c (by
      rcases A with e | ⟨e,_⟩
      ·rw[e];show(0:Int)=c1 X Y V (o,p)+0;unfold c1 ind;rw[ω λk=>h #[k.1,k.2.1]];rfl
      ·rw[e];rfl)
     rwa [wP] at this
    erw[gN,QM,cU,r2,aQ,rC,fI,mK,iT,rH,L2.R2.S.val,aA,aB];show#[m.mulOk s,?_];by_cases C:o.1*V<X
    ·erw[C,decide_true,if_true];show#[c3.mulOk s,?_];by_cases G:X<p.1*V
     ·erw[G,decide_true,if_true];have e:sd x y=[(o,p)]:=by
       rcases A with e | ⟨_,e⟩
       ·show e
       ·rw[e] at C;lia
      have br:BL 500 (X-o.1*V):=(bX.sub (m.mul s)).mono;have bd:BL 310 (p.2-o.2):=(c4.sub N).mono;have be:BL 310 (p.1-o.1):=(c3.sub m).mono;have bf:BL 500 (Y-o.2*V):=(bY.sub (N.mul s)).mono;nofun;show#[m.mulOk s,bd.mulOk br,N.mulOk s,bf.mulOk be,?_];by_cases z:(Y-o.2*V)*(p.1-o.1)-(p.2-o.2)*(X-o.1*V)=0
      ·erw[z,decide_true,if_true];rw[L,hr];show q0
      ·erw[z,decide_false,aO,if_false];have Z:(if decide (0<(Y-o.2*V)*(p.1-o.1)-(p.2-o.2)*(X-o.1*V))=ζ then(1:Int) else 0)=sS X Y V (sd x y):=by
        rw[e];show _=c1 X Y V (o,p)+0;unfold c1 ind zl;fail;erw[C,G,true_and,decide_eq_true_eq];split <;> rfl
       have:=go _ (ap (.int (X-o.1*V))) (ap (.int ((p.2-o.2)*(X-o.1*V)))) (ap (.int ((Y-o.2*V)*(p.1-o.1)-(p.2-o.2)*(X-o.1*V)))) Z;erw[decide_eq_true_eq] at this⊢;show this
     ·erw[G,decide_false,aO,if_false,fB];show B λk=>G k.2
    ·erw[C,decide_false,aO,if_false,fB];show B λk=>C k.1
   ·rintro d ⟨j,l,f,a,b,c,rfl⟩;rw[V4,show sS X Y V (jM u)+sS X Y V (oD g)=sS X Y V (jM (u++[g])) by
     unfold jM;rw[aX,jW,sK];show _=_+sS X Y V (oD g++[]);rw[cQ]]
    show hn _ #[_,_,_,_,_,_,_,bg]
  ·rintro d ⟨q,j,l,f,a,b,c,rfl⟩;show I _ #[q,j,l,f,a,b,c,bg]
 rintro d ⟨q,j,l,f,a,b,c,rfl⟩;nofun;show#[pH,q1]
end K32
namespace K22
open K23
def P1(n:Nat)(p q:Int):k5 (n+2) (fr p q) (fr p q)=ψ ζ:=by
 show pi (k5 (n+1)) _ _=_;show Jr _ λx a=>?_;erw[aV,dM,or_false] at a;rcases a with rfl |rfl <;> show K1 n _
def eqF_row(n:Nat)(r:Row):k5 (n+3) (vJ r) (vJ r)=ψ ζ:=by
 show pi (k5 (n+2)) _ _=_;show Jr _ λx a=>?_;erw[aV,dM,or_false] at a;rcases a with rfl |rfl |rfl |rfl |rfl
 ·show K1 _ _
 all_goals show P1 n _ _
end K22
namespace K31
open K22 K23
structure ShtR(L:List IP)(es:List Ent3):Prop where
 len:L.length<=8
 each:∀p∈L,0<p.2/\p.2<=40/\cP p.1 p.2=1/\BL 250 p.1
 ok:K22.EsOk L es
 few:es.length<=12
end K31
def Pp(h:x∈cutD xs l u):x∈xs:=by
 unfold cutD at h;show EW (qA h)
namespace K39
open K34 K33 K22 K23
open K34 K33 K22 K23 K31
def af:∀ds Q,Y3 ds Q->UU ds Q:=by
 rintro ds Q ⟨a,b,rfl,⟨c,d⟩,bl,q⟩;show#[a,b,bg,#[c,d],bl,λl e f g h=>q l e f g ?_];show pB (aW c d) (h _ (Int.dvd_mul_right ..) (AJ ..))
def F_lowK:FD:=λb Q=>∃a:θ Int,b=[il a]/\a.length<=24/\(∀w∈a,0<w/\w<=40)/\∀B,0<B->(∀w∈a,w∣B)->B<=((40 ^ a.length:Nat):Int)->Q (.int B)
def pure_lowK:ι F_lowK (yD UU) ["numbers","multiple","number"]:=by
 rintro J Q ⟨c,rfl,k,s,q⟩;rw[cM 2 rfl];unfold yD;show cV (λa=>a=[ap (il c),ap (.int 1),ξ]) (λK j=>?_) ?_
 ·nofun;show j _ rfl
 rintro a rfl;show cV (λa=>∃(B:Int)(u:Option L2.R2.S),(0<B/\(∀w∈c,w∣B)/\B<=((40 ^ c.length:Nat):Int))/\a=[ap (il c),ap (.int B),u]) (λK j=>?_) ?_
 ·erw[iA,riL,bH,aA];show mQ (λm a=>∃done b:θ Int,c=done++b/\m=b.map .int/\∃(B:Int)(u:Option L2.R2.S),(0<B/\(∀w∈done,w∣B)/\B<=((40 ^ done.length:Nat):Int))/\a=[ap (il c),ap (.int B),u]) ?_ ?_ _ _ #[[],c,bg,bg,1,ξ,#[μ,(λw h=>by cases h),μ],bg]
  ·rintro x m a ⟨done,b,e,d,B,u,⟨f,g,h3⟩,rfl⟩ F L M y N;cases b with
   |nil=>cases d
   |cons w b=>
    rw[aN] at d;injection d with ex d;subst ex d;let⟨n,o⟩:=s w (by rw[e];show cN _ (.head _));have dl:done.length<=23:=(by rw[e] at k;simp at k;lia);have z:((40 ^ done.length:Nat):Int)<=((40 ^ 23:Nat):Int):=Int.ofNat_le.mpr (EZ μ dl);have A:BL 140 B:=BL.of_lt ν (mF (BZ h3 z) μ);have C:BL 140 w:=BL.of_lt ν (mF o μ);unfold uC;erw[cA,dC,cE,aE,aU,bH,aA,aB,aH,aI];show af _ _ #[B,w,bg,#[f,n],#[A.mono,C.mono],λl D E G le=>?_];show y _ #[done++[w],b,by rw[e];simp,bg,l,ap (.int w),#[D,λv i=>?_,?_],bg]
    ·rcases bQ.mp i with i |i
     ·show kK (g v i) E
     ·rw[bR.mp i];show G
    ·rw[bI,kE,Nat.pow_succ,SY];have H:=dI h3 (dO n);have I:=Int.mul_le_mul_of_nonneg_left o (xP (40 ^ done.length));show BZ le (BZ H I)
  ·rintro a ⟨done,b,e,d,B,u,⟨f,g,h3⟩,rfl⟩;have:b=[]:=(by cases b with |nil=>rfl |cons _ _=>cases d);subst this;rw[cQ] at e;subst e;show j _ #[B,u,#[f,g,h3],bg]
 rintro a ⟨B,u,⟨f,g,h3⟩,rfl⟩;nofun;show q B f g h3
def Vq(h0:0<B)(h:B<=((40 ^ m:Nat):Int))(a:m<=n)(b:40 ^ n<2 ^ k):BL k B:=
 BL.of_lt (by have:=xP (2 ^ k);lia) (mF h (Int.ofNat_lt.mpr (sB (EZ μ a) b)))
def pure_colK:ι K23.F_colB (vY F_lowK K23.F_ordH pK Dz) ["sides","column","bottom","heights","rows","low","up","edges"]:=K23.pure_column_bands_G λ_ _ ⟨c,e,l,h,q⟩=>#[c,e,ν,h,λB a d b=>q B a d (Vq a b l μ)]
def pure_risK:ι K22.F_rising (QN F_lowK) ["ones","bottom"]:=K22.pure_rising_G λ_ _ ⟨c,e,l,h,q⟩=>#[c,e,l,h,λB a d b=>q B a d (Vq a b l μ)]
end K39
namespace K32
open K37 K36 K34 K33 K39
abbrev N4:FD:=ZU ζ
abbrev N3:FD:=ZU χ
def UZ:FD:=λc Q=>∃R:θ (θ Pt),c=[sN R]/\(ja R/\∃g∈R,g≠[])/\∀a b:Pt,(BL 300 a.1/\BL 300 a.2/\BL 300 b.1/\BL 300 b.2)->Q (.tup [pt a,pt b])
abbrev CL(f:Pt->Int)(R:θ (θ Pt)):θ Int:=(R.map λg=>g.map f).flatten
theorem VN(f:Pt->Int):∀R:θ (θ Pt),(∀g∈R,g.length<=10)->(CL f R).length<=10*R.length
 | [],_=>aY _
 |g::R,h=>by
  have:=VN f R λx a=>h x (.tail _ a);have:=h g (.head _);erw[CL,aN,iW,bI,aJ,aT] at *;lia
def ZY(f:Pt->Int)(R:θ (θ Pt))(g:θ Pt):CL f (R++[g])=CL f R++g.map f:=by simp[CL]
def Hd:ι UZ JE ["_law_rings","_law_xs","_law_ys","_law_ring"]:=by
 rintro ds Q ⟨R,rfl,⟨s,ne⟩,q⟩;rw[cM 3 rfl];unfold JE;erw[gE,Ds,aN,cD,bK,bS];have I:=s.len;have n:∀{g:θ Pt}{f:Pt->Int}{C:RE}{Q:θ D->Prop},g.length<=10->(∀(z:Pt)(K:D->Prop),K (.int (f z))->C [ap (.int z.1),ap (.int z.2)] K)->Q ((g.map f).map D.int)->Sz (g.map pt).length/\yS (kW 2 (eG (cA 0) (eG (cA 1) kU))) C (g.map pt) [ξ,ξ] [] Q:=λ{g f C Q} l W q=>by
  show#[iY (by rw[aJ];lia),nZ (λi=>∃u v,i=[u,v]) pt (λz=>D.int (f z)) g ?_ #[ξ,ξ,bg] (by rw[cO] at q;show q)];rintro z J i ⟨u,v,rfl⟩ K m;erw[kW,eG,kU,cA,aT,cK,true_and,aH,aI];show W z _ (m _ #[_,_,bg])
 show dN [ap (sN R),ap (il (0::1::CL (·.1) [])),ξ,ξ] (λK m=>by nofun;show m) ?_;show dN [ap (sN R),ap (il (0::1::CL (·.1) [])),ap (il (0::CL (·.2) [])),ξ] (λK m=>by nofun;show m) ?_;show cV (λi=>∃u,i=[ap (sN R),ap (il (0::1::CL (·.1) R)),ap (il (0::CL (·.2) R)),u]) (λK m=>?_) ?_
 ·erw[iA,riL,bH,aA];generalize E:sN R=L;show oN pts R (λo i=>∃(u:Option L2.R2.S),i=[ap L,ap (il (0::1::CL (·.1) o)),ap (il (0::CL (·.2) o)),u]) ?_ ?_ #[ξ,bg]
  ·rintro o g td i y ⟨u,rfl⟩ F hr X;have M:=s.each g (by rw[y];simp);have ld:o.length<=5:=(by have:=Ψ jE y;simp at this;lia);have lx:=VN (·.1) o λx G=>s.each x (by rw[y];simp[G]);have ly:=VN (·.2) o λx G=>s.each x (by rw[y];simp[G]);unfold BN;erw[cA,aH,aI];show dN [ap L,ap (il (0::1::CL (·.1) (o++[g]))),ap (il (0::CL (·.2) o)),ap (pts g)] (λK N=>?_) ?_
   ·erw[dC,r2,oC,riL,bH,aQ,AX,QO,L2.R2.S.val,cD,cQ,aA,aB,aH,aI];show n (f:=(·.1)) M (λz K k=>k) ?_;erw[qD];show#[iY (by erw[aJ,aT];lia),?_];rw[<-aX];rw[ZY] at N;show N
   ·erw[dC,r2,oC,riL,bH,aQ,AX,QO,L2.R2.S.val,cD,cQ,aA,aB,aH,aI];show n (f:=(·.2)) M (λz K k=>k) ?_;erw[qD];show#[iY (by erw[aJ,aT];lia),?_];rw[<-aX];show X _ #[_,by rw[ZY (·.2)];rfl]
  ·rintro i ⟨u,rfl⟩;show m _ #[u,by rw[E]]
 rintro i ⟨u,rfl⟩;have bl:∀{f:Pt->Int},(∀z,f z=z.1\/f z=z.2)->∀a∈CL f R,BL 300 a:=λ{f} Y a H=>by
  let⟨l,I,h⟩:=lV.mp H;let⟨g,w,rfl⟩:=bD.mp I;let⟨z,J,rfl⟩:=bD.mp h;have:=s.bl g w z J;rcases Y z with e |e <;> rw[e]
  ·show this.1
  ·show this.2
 have O:∀f:Pt->Int,CL f R≠[]:=λf e=>by
  let⟨g,w,Z⟩:=ne;cases g with
  |nil=>show Z rfl
  |cons z g=>
   have:f z∈CL f R:=lV.mpr #[_,eD w,η];rw[e] at this;cases this
 have P:=bl (f:=(·.1)) λz=>.inl rfl;have T:=bl (f:=(·.2)) λz=>.inr rfl;have U:=O (·.1);have V:=O (·.2);generalize CL (·.1) R=A at *;generalize CL (·.2) R=B at *;have nz:(R.map pts).isEmpty=χ:=by
  let⟨g,w,_⟩:=ne;cases R with
  |nil=>cases w
  |cons _ _=>rfl
 have e1:cutD ((0::1::A).map D.int) (ψ (2:Int)) ξ=A.map D.int:=xC (j:=2) η;have e2:cutD ((0::B).map D.int) (ψ (1:Int)) ξ=B.map D.int:=xC (j:=1) η;show dN [ap (sN R),ap (il A),ap (il B),u] (λK m=>?_) ?_
 ·erw[gN,cU,r2,nO,aU,aQ,L2.R2.S.val,aA,Zj,nz,lZ,if_true,cK];show#[sz0,?_];erw[cS,dC,LJ,tL,lP,aQ,rC,L2.R2.S.val,aA,aB,aH,aI];rw[e1,e2];show m
 erw[eP,gQ,aE,aU,r1,aQ,L2.R2.S.val,aA,aB,aT,cK];show#[A,bg,U,λa H _=>#[B,bg,V,λb hb _=>#[sz2,A,bg,U,λc hc _=>#[B,bg,V,λd hd _=>#[sz2,sz2,q (a,b) (c,d) #[P a H,T b hb,P c hc,T d hd]]]]]]
def UY:FD:=λc Q=>∃(n:Int)(a b:Pt),c=[.int n,pt a,pt b]/\(BL 300 a.1/\BL 300 a.2/\BL 300 b.1/\BL 300 b.2)/\∀X Y,(∀t:Int,X≠t*1009)->(BL 400 X/\BL 400 Y)->Q (pb X Y 1009)
def Hc:ι UY JD ["_law_cell","_law_low","_law_high","_law_number","_law_x","_law_y"]:=by
 rintro A Q ⟨n,a,b,rfl,⟨d,h,l,u⟩,q⟩;rw[cM 3 rfl];unfold JD;erw[gE,Ds,aN,cD,bK,bS];show cV (λe=>∃k:Int,BL 40 k/\e=[ap (.int n),ap (pt a),ap (pt b),ap (.int k),ξ,ξ]) (λK c=>?_) ?_
 ·let⟨B,d⟩:=gM (a:=n) (b:=1000000000) μ;have o:BL 41 (n.fmod 1000000000+7):=BL.of_lt (m:=41) ν ν;have f:BL 41 (n.fmod 1000000000+31):=BL.of_lt (m:=41) ν ν;let⟨C,c1⟩:=gM (a:=(n.fmod 1000000000+7)*(n.fmod 1000000000+31)*48271) (b:=2147483629) μ;nofun;show#[QI,pH,QI,pH,o.mulOk f,(o.mul f).mulOk (BL.const (n:=20) μ),pH,c _ #[_,BL.of_lt (m:=40) ν ν,bg]]
 rintro e ⟨k,bk,rfl⟩;have kk:BL 11 1009:=BL.const μ;have v:BL 320 (1009*(b.1-a.1)-1):=((kk.mul (l.sub d)).sub (BL.const (n:=2) (i:=1) μ)).mono;show cV (λe=>∃x:Int,BL 365 x/\e=[ap (.int n),ap (pt a),ap (pt b),ap (.int k),ap (.int x),ξ]) (λK c=>?_) ?_
 ·nofun;have w:BL 362 (k.fmod (1009*(b.1-a.1)-1)):=by
   rw[Int.fmod_def];show(bk.sub (v.mul bk.fdiv)).mono
  show#[kk.mulOk (l.sub d),#[ν],c _ #[_,((BL.const (n:=2) (i:=1) μ).add w).mono,bg]]
 rintro e ⟨x,g,rfl⟩;show cV (λe=>∃x:Int,(BL 366 x/\∀t:Int,x≠t*1009)/\e=[ap (.int n),ap (pt a),ap (pt b),ap (.int k),ap (.int x),ξ]) (λK c=>?_) ?_
 ·nofun;show#[pH,?_];by_cases z:x.fmod 1009=0
  ·erw[z,decide_true,if_true];rw[mE _ μ] at z;show c _ #[_,#[(g.add (BL.const (n:=2) (i:=1) μ)).mono,λt=>by lia],bg]
  ·erw[z,decide_false,aO,if_false];rw[mE _ μ] at z;show c _ #[_,#[g.mono,λt=>by lia],bg]
 rintro e ⟨x,⟨g,y⟩,rfl⟩;let⟨D,E⟩:=gM (a:=k*69621) (b:=2147483587) μ;have s:BL 40 ((k*69621).fmod 2147483587):=BL.of_lt (m:=40) ν ν;have j:BL 303 (b.2-a.2+2):=((u.sub h).add (BL.const (n:=3) (i:=2) μ)).mono;nofun;show#[bk.mulOk (BL.const (n:=20) μ),pH,kk.mulOk j,s.mulOk (kk.mul j),(BL.const (n:=9000) μ).divOk μ,d.mulOk kk,h.mulOk kk,?_];show q _ _ (λt=>?_) #[((d.mul kk).add g).mono,((h.mul kk).add (((s.mul (kk.mul j)).fdiv).sub kk)).mono];have:=y (t-a.1);lia
structure ca(ts:List Int)(hss:List (List Int))(n:Nat)(R:List (List Pt)):Prop where
 C:f6 ts hss n
 K:K23.Cloth ts hss n R
 t3:ts.length<=3
 n2:n<=2
 w6:K23.T ts (ts.length-1)-K23.T ts 0<=6
 rb:ja R
def Bb(f:10<=xs.length)(j:-200<=fx/\fx<=200)(c:BL 110 fy)(l:0<k)(bk:BL 70 k)(q:∀ts hss n R,ca ts hss n R->Q (sN R)):K31.F_sheet [il xs,.int 3,.int 6] λd=>K31.F_put [d,.tup [.int fx,.int fy],.int k] Q:=by
 show#[xs,bg,f,λts hss n R h=>#[R,fx,fy,k,bg,#[by rw[h.len];have:=h.n2;lia,h.each,h.pts,bk],?_]];let⟨c1,b,o⟩:=h.put j c l bk;show q _ _ n _ #[c1,b,by rw[aJ];show h.tl,h.n2,o,b.len,b.each,λg s z u=>?_];let⟨e,a,rfl⟩:=bD.mp s;let⟨p,hp,rfl⟩:=bD.mp u;have:=h.lo _ (h.px e a p hp);have:=h.pts e a p hp;show#[(BL.of_lt (m:=10) (by show _<p.1+fx;lia) (by show p.1+fx<_;lia)).mono,(((BL.of_lt (m:=10) (i:=p.2) ν ν).mul bk).add c).mono]
def ca.bands(c:ca ts hss n R)(q:Q (kP (rA ts hss n (ts.length-1)))):K23.F_bands [sN R] Q:=
 #[R,_,bg,c.K.bands c.C,λe a b d h3=>by rw[K22.bands_eA c.C c.K b d h3,<-Kv,cO];show q]
def ca.sht(c:ca ts hss n R):K31.ShtR (K22.SL ts hss n) ((rA ts hss n (ts.length-1)).map vw):=by
 have C:=c.C;have e:=C.thr.len;have f:=c.t3;have g:=c.n2;have a:=c.w6;rw[Kv];let⟨_,b,_,h⟩:=K22.all_ok C (ts.length-1) ν;show#[?_,(K22.SL_ok C).each,b,?_]
 ·unfold K22.SL;rw[K22.flat_len _ (2*n) _ λx _=>by rw[aJ,iE],iE];show dY (EY (show ts.length-1<=2 by lia) (show 2*n<=4 by lia)) μ
 ·have d:0<=K23.T ts (ts.length-1)-K23.T ts 0:=by have:=K23.mono_T C.thr (i:=0) (j:=ts.length-1) ν ν;lia
  have:(n:Int)*(K23.T ts (ts.length-1)-K23.T ts 0)<=2*6:=Int.mul_le_mul ν a d μ;lia
def Fo(es:θ qc):kP es = .lst ((es.map vw).map (·.1)):=by unfold kP;rw[cO];rfl
def Kp:ι (Pc 63) (XW Ip F_areas7 ON OO F_many7 OP Ix UY K31.F_put UZ K31.F_sheet VB K23.F_bands K31.F_leans Iz) ["_law_script","_law_head","_law_by","_law_far","_law_rings","_law_rows","_law_others","_law_leans","_law_handed","_law_found","_law_bits_here","_law_total","_law_due_here","_law_low","_law_high","_law_cell","_law_spot","_law_odd_here","_law_many_here"]:=by
 rintro ds Q ⟨ns,rfl,hn,Qt⟩;rw[cM 18 rfl];unfold XW;rw[show gE 18 [il ns]=[ap (il ns),ξ,ξ,ξ,ξ,ξ,ξ,ξ,ξ,ξ,ξ,ξ,ξ,ξ,ξ,ξ,ξ,ξ,ξ] from rfl];show cV (λA=>∃xs:θ Int,xs.length=20/\A=[ap (il ns),ap (il xs),ξ,ξ,ξ,ξ,ξ,ξ,ξ,ξ,ξ,ξ,ξ,ξ,ξ,ξ,ξ,ξ,ξ]) (λK m=>?_) ?_
 ·nofun;show#[ns,20,bg,#[ν,μ,μ],λxs h=>m _ #[xs,h.len,bg]]
 rintro A ⟨xs,T,rfl⟩;have ix:∀{j:Nat}{Q:D->Prop},j<10->(∀v,Q (.int v))->f8 (il xs) (.int (j:Int)) Q:=λhj q=>K31.head_ix ν hj q;generalize hX:il xs=I at ix⊢;show cV (λA=>∃k:Int,(0<k/\BL 70 k)/\A=[ap (il ns),ap I,ap (.int k),ξ,ξ,ξ,ξ,ξ,ξ,ξ,ξ,ξ,ξ,ξ,ξ,ξ,ξ,ξ,ξ]) (λK m=>?_) ?_
 ·nofun;show ix (j:=7) μ λv=>?_;nofun;walk_at "sides";show ix (j:=6) μ λw=>?_;nofun;let⟨a0,a1⟩:=gM (a:=v) (b:=1000000000) μ;let⟨b0,b1⟩:=gM (a:=w) (b:=2) μ;show#[pH,?_];show Cc b0 (~~~b1) λx T=>?_;erw[aV,dM,or_false] at T;rcases T with rfl |rfl
  ·show m _ #[1,#[μ,BL.const (n:=70) μ],bg]
  ·show m _ #[_,#[ν,BL.of_lt ν (mF (show 1+v.fmod 1000000000<=1000000000 by lia) μ)],bg]
 rintro A ⟨k,⟨k0,bk⟩,rfl⟩;show cV (λA=>∃fx fy:Int,((-200<=fx/\fx<=200)/\BL 110 fy)/\A=[ap (il ns),ap I,ap (.int k),ap (.tup [.int fx,.int fy]),ξ,ξ,ξ,ξ,ξ,ξ,ξ,ξ,ξ,ξ,ξ,ξ,ξ,ξ,ξ]) (λK m=>?_) ?_
 ·nofun;show ix (j:=8) μ λv=>?_;nofun;show#[pH,?_];show ix (j:=9) μ λy=>?_;nofun;walk_at "sides";show ix (j:=6) μ λw=>?_;nofun;walk_at "sides";let⟨a0,a1⟩:=gM (a:=v) (b:=201) μ;let⟨c0,c1⟩:=gM (a:=y) (b:=2000000000000000001) μ;let⟨b0,b1⟩:=gM (a:=w.fdiv 2) (b:=2) μ;show Cc b0 (~~~b1) λx T=>?_;erw[aV,dM,or_false] at T;rcases T with rfl |rfl
  ·show m _ #[_,_,#[#[ν,ν],BL.const (n:=110) μ],bg]
  ·show m _ #[_,_,#[#[ν,ν],BL.of_lt (JT μ (show -1000000000000000000<=y.fmod 2000000000000000001-1000000000000000000 by lia)) (mF (show y.fmod 2000000000000000001-1000000000000000000<=1000000000000000000 by lia) μ)],bg]
 rintro A ⟨fx,fy,⟨bx,bf⟩,rfl⟩;generalize hF:D.tup [.int fx,.int fy]=J;show cV (λA=>∃ts H n R,ca ts H n R/\A=[ap (il ns),ap I,ap (.int k),ap J,ap (sN R),ξ,ξ,ξ,ξ,ξ,ξ,ξ,ξ,ξ,ξ,ξ,ξ,ξ,ξ]) (λK m=>?_) ?_
 ·erw[dC,cE,aE,aU,bH,rC,aA,aB,aH,aI];rw[<-hX,<-hF];show Bb ν bx bf k0 bk λts H n R h=>?_;rw[hX,hF];show m _ #[ts,H,n,R,h,bg]
 rintro A ⟨ts,H,n,R,c,rfl⟩;obtain⟨s,M_⟩:∃s,s=rA ts H n (ts.length-1):=#[_,bg];have sa:=c.sht;rw[<-M_] at sa;generalize h7:sN R=U;show dN [ap (il ns),ap I,ap (.int k),ap J,ap U,ap (kP s),ξ,ξ,ξ,ξ,ξ,ξ,ξ,ξ,ξ,ξ,ξ,ξ,ξ] (λK m=>?_) ?_
 ·erw[dC,cE,aE,aU,bH,aA,aB,aH,aI];rw[<-h7];show c.bands ?_;rw[h7,<-M_];show m
 show dN [ap (il ns),ap I,ap (.int k),ap J,ap U,ap (kP s),ap (kP []),ξ,ξ,ξ,ξ,ξ,ξ,ξ,ξ,ξ,ξ,ξ,ξ] (λK m=>by nofun;show m) ?_;show cV (λA=>∃Lb V,K31.ShtR Lb (V.map vw)/\A=[ap (il ns),ap I,ap (.int k),ap J,ap U,ap (kP s),ap (kP V),ξ,ξ,ξ,ξ,ξ,ξ,ξ,ξ,ξ,ξ,ξ,ξ]) (λK m=>?_) ?_
 ·have gb:K31.ShtR [] (([]:θ qc).map vw):=#[μ,(λp h=>by cases h),(λe h=>by cases h),μ];erw[gN,cU,r2,oW,qE,qR,aQ,rC,L2.R2.S.val,aA,aB];show ix (j:=6) μ λw=>?_;walk_at "sides";by_cases o:(w.fdiv 4).fmod 2=1
  ·erw[o,decide_true,xK,if_true,dC,cE,aE,aU,LJ,tL,lP,bH,aQ,rC,L2.R2.S.val,aA,aB,aH,aI];rw[<-hX,<-hF];have cc:cutD (xs.map .int) (ψ (10:Int)) ξ=(xs.drop 10).map .int:=by
    have:=xC (xs:=xs.map .int) (j:=10) (by rw[aJ];lia);rw[YT];show this
   erw[cc];show Bb (xs:=xs.drop 10) (by rw[gR];lia) bx bf k0 bk λts' hss' n' R' h=>h.bands ?_;rw[hX,hF];show m _ #[_,_,h.sht,bg]
  ·erw[o,decide_false,xK,aO,if_false,fB];show m _ #[[],[],gb,bg]
 rintro A ⟨Lb,V,sb,rfl⟩;have xp:K22.LOk (K22.SL ts H n++Lb):=#[by rw[bI];have:=sa.len;have:=sb.len;lia,λp hp=>by
  rcases bQ.mp hp with h |h
  ·show sa.each p h
  ·show sb.each p h]
 have oa:K22.EsOk (K22.SL ts H n++Lb) (s.map vw):=λe O=>by
  let⟨h1,h2,h3⟩:=sa.ok e O;show#[h1,eY _ h2,eY _ h3]
 have mh:K22.EsOk (K22.SL ts H n++Lb) (V.map vw):=λe O=>by
  let⟨h1,h2,h3⟩:=sb.ok e O;show#[h1,cN _ h2,cN _ h3]
 have fa:=sa.few;have fb:=sb.few;show cV (λA=>∃f:θ Pt,(f.Pairwise K22.ltR/\∀p,p∈f↔p∈K31.sls (s.map vw)\/p∈K31.sls (V.map vw))/\A=[ap (il ns),ap I,ap (.int k),ap J,ap U,ap (kP s),ap (kP V),ap (pts f),ξ,ξ,ξ,ξ,ξ,ξ,ξ,ξ,ξ,ξ,ξ]) (λK m=>?_) ?_
 ·erw[dC,cE,aE,aU,bH,aA,aB,aH,aI];show#[_,s.map vw,V.map vw,by rw[Fo,Fo],#[xp,oa,mh,ν,ν],λf g1 g2=>m _ #[f,#[g1,g2],bg]]
 rintro A ⟨f,⟨g1,g2⟩,rfl⟩;have fo:∀p∈f,p∈K22.SL ts H n++Lb:=λp hp=>by
  rcases (g2 p).mp hp with h |h
  ·show K31.sls_in oa p h
  ·show K31.sls_in mh p h
 have G:ph f:=by
  show#[?_,λp hp=>?_,g1]
  ·have:=len_sub f _ (g1.imp K22.ltR.ne) fo;rw[bI] at this;have:=sa.len;have:=sb.len;lia
  ·let⟨p0,p1,_,p3⟩:=xp.each p (fo p hp);show#[p0,p1,p3]
 have tl:=c.C.thr.len;have E:∀e∈s,RX f e/\zh e:=λe O=>by
  have m1:e.u∈f:=(g2 _).mpr (.inl (qN.mpr #[vw e,eD O,η]));have m2:e.l∈f:=(g2 _).mpr (.inl (qN.mpr #[vw e,eD O,η]));rw[M_] at O;obtain⟨z,k,j,⟨z1,z2,z3⟩,rfl⟩:=Xf O;show O8 c.C ν z3 ν z2 m1 m2
 have l12:s.length<=12:=by rw[aJ] at fa;show fa
 show dN [ap (il ns),ap I,ap (.int k),ap J,ap U,ap (kP s),ap (kP V),ap (pts f),ap (.lst [kP s,pts f]),ξ,ξ,ξ,ξ,ξ,ξ,ξ,ξ,ξ,ξ] (λK m=>by nofun;show m) ?_;show cV (λA=>∃B,oq f s B/\A=[ap (il ns),ap I,ap (.int k),ap J,ap U,ap (kP s),ap (kP V),ap (pts f),ap (.lst [kP s,pts f]),ap (WF B),ξ,ξ,ξ,ξ,ξ,ξ,ξ,ξ,ξ]) (λK m=>?_) ?_
 ·erw[dC,cE,aE,aU,r2,aQ,rC,Fa,Fb,L2.R2.S.val,aA,aB,aH,aI];show#[f,s,bg,#[G,λe O=>(E e O).1,l12],λB P=>m _ #[B,P,bg]]
 rintro A ⟨B,P,rfl⟩;have L:w8 f s B:=#[G,E,P,l12];let⟨f1,f2,f3⟩:=P.facts G E;have fw:=P.few G λe O=>(E e O).1;have lb:∀b∈allB B,xw b:=λb hb=>by
  erw[allB,bQ,bD] at hb;rcases hb with(⟨x,T,rfl⟩ | ⟨x,T,rfl⟩) | ⟨x,T,rfl⟩
  ·show(f1 x T).lb
  ·show(f2 x T).lb
  ·show(f3 x T).lb
 have la:(allB B).length<=640:=by erw[allB,bI,aJ];lia
 have odd:∀X Y:Int,(∀t:Int,X≠t*1009)->(∀b∈allB B,vB X Y 1009 b≠0)->cnt (oz ζ X Y 1009) (allB B)=(sS X Y 1009 (jM R)).fmod 2:=λX Y nd ne=>by
  rw[Tg G μ nd P (λe O=>(E e O).1) ne,M_];show Ya c.C c.K c.n2 μ nd
 have ar:=Pd G P λe O=>(E e O).1;generalize hB:(allB B).map nr=BD;show dN [ap (il ns),ap I,ap (.int k),ap J,ap U,ap (kP s),ap (kP V),ap (pts f),ap (.lst [kP s,pts f]),ap (WF B),ap (.lst BD),ξ,ξ,ξ,ξ,ξ,ξ,ξ,ξ] (λK m=>?_) ?_
 ·erw[dC,cE,aE,aU,bH,aA,aB,aH,aI];show#[f,s,B,bg,L,by rw[hB];show m]
 generalize hO:kP V=ze;show dN [ap (il ns),ap I,ap (.int k),ap J,ap U,ap (kP s),ap ze,ap (pts f),ap (.lst [kP s,pts f]),ap (WF B),ap (.lst BD),ξ,ξ,ξ,ξ,ξ,ξ,ξ,ξ] (λK m=>?_) ?_
 ·have ro:pi (k5 8) [kP s,pts f] [kP s,pts f]=ψ ζ:=xV _ λx T=>by
   erw[aV,dM,or_false] at T;rcases T with rfl |rfl
   ·show pi (k5 7) _ _=_;show xV _ λy hy=>?_;let⟨e,_,rfl⟩:=bD.mp hy;show K22.eqF_row 4 e.row
   ·show pi (k5 7) _ _=_;show xV _ λy hy=>?_;let⟨z,_,rfl⟩:=bD.mp hy;show Ng 5 z
  erw[gN,rOr,oR,cU,cE,aE,aU,nO,r2,bH,aQ,rC,MW,NK,Zi,L2.R2.S.val,aA,aB,xK,aO,if_false,aT,cK];show#[sz2,trivial,?_];rw[ro];erw[dX,aO,if_false];show#[f,s,B,bg,L,?_];erw[dX,aO,if_false,fB];show m
 have W:∀(j:Nat)(v:Int),∃Z:θ Int,cutD (ns.map D.int) ξ (ψ (j:Int))++[.int v]=Z.map D.int:=λj v=>by
  have h:∀l:θ D,(∀d∈l,∃i,d=D.int i)->∃Z:θ Int,l=Z.map D.int:=λl hl=>by
   induction l with
   |nil=>show#[[],bg]
   |cons d l ih=>
    let⟨Z,e⟩:=ih λd hd=>hl d (.tail _ hd);let⟨i,rfl⟩:=hl d (.head _);show#[i::Z,by rw[e];rfl]
  show h _ λd hd=>?_;rcases bQ.mp hd with k |k
  ·let⟨i,_,rfl⟩:=bD.mp (Pp k);show#[i,bg]
  ·show#[v,bR.mp k]
 have kS:∀j:Nat,Sz ((cutD (ns.map D.int) ξ (ψ (j:Int))).length+1):=λj=>by
  show iY ?_;have:(cutD (ns.map D.int) ξ (ψ (j:Int))).length<=63:=by
   unfold cutD;erw[jF,gR,aJ];lia
  lia
 have c2:=W 2;have c8:=W 8;have s2:=kS 2;have s8:=kS 8;generalize hN:il ns=ND at c2 c8 s2 s8⊢;show dN [ap ND,ap I,ap (.int k),ap J,ap U,ap (kP s),ap ze,ap (pts f),ap (.lst [kP s,pts f]),ap (WF B),ap (.lst BD),ξ,ξ,ξ,ξ,ξ,ξ,ξ,ξ] (λK m=>?_) ?_
 ·rw[<-hN];erw[gN,oR,cU,cE,aE,aU,nO,Az,tL,lP,r2,bH,aQ,rC,iT,L2.R2.S.val,aA,aB,aT,cK];show ix (j:=9) μ λv=>?_;show#[sz1,?_];erw[qD];show#[s2,?_];let⟨Z,e⟩:=c2 v;show#[f,rj B,Z,by show _=[_,_,D.lst (Z.map D.int)];rw[<-e];rfl,#[G,f1],?_];erw[dX,aO,if_false,fB];rw[hN];show m
 show cV (λA=>∃N M,((BL 6500000 N/\BL 6500000 M)/\0<M/\(N:Rat) / (M:Rat)=wA s)/\A=[ap ND,ap I,ap (.int k),ap J,ap U,ap (kP s),ap ze,ap (pts f),ap (.lst [kP s,pts f]),ap (WF B),ap (.lst BD),ap (.tup [.int N,.int M]),ξ,ξ,ξ,ξ,ξ,ξ,ξ]) (λK m=>?_) ?_
 ·erw[dC,cE,aE,aU,bH,aA,aB,aH,aI];show#[allB B,by rw[hB],#[la,lb],λN M b e=>m _ #[N,M,#[b,by rw[<-ar];show e],bg]]
 rintro A ⟨N,M,⟨⟨bN,bM⟩,mp,eq⟩,rfl⟩;show cV (λA=>∃N' M',((BL 200000 N'/\BL 200000 M')/\0<M'/\(N':Rat) / (M':Rat)=wA s)/\A=[ap ND,ap I,ap (.int k),ap J,ap U,ap (kP s),ap ze,ap (pts f),ap (.lst [kP s,pts f]),ap (WF B),ap (.lst BD),ap (.tup [.int N,.int M]),ap (.tup [.int N',.int M']),ξ,ξ,ξ,ξ,ξ,ξ]) (λK m=>?_) ?_
 ·erw[dC,cE,aE,aU,bH,aA,aB,aH,aI];show#[f,s,bg,#[E,l12],λN' M' b e=>m _ #[N',M',#[b,e],bg]]
 rintro A ⟨N',M',⟨⟨pw,pu⟩,yf,q_⟩,rfl⟩;generalize hRW:kP s=zg;generalize hFN:WF B=hE;show dN [ap ND,ap I,ap (.int k),ap J,ap U,ap zg,ap ze,ap (pts f),ap (.lst [zg,pts f]),ap hE,ap (.lst BD),ap (.tup [.int N,.int M]),ap (.tup [.int N',.int M']),ξ,ξ,ξ,ξ,ξ,ξ] (λK m=>?_) ?_
 ·nofun;show#[bN.mulOk pu,pw.mulOk bM,?_];rw[Oi mp yf (eq.trans q_.symm)];erw[decide_true,dX,aO,if_false];show m
 have ne:∃g∈R,g≠[]:=by
  have:=c.K.has (z:=0) (j:=0) ν (by have:=c.C.n1;lia);let⟨l,hl,h⟩:=lV.mp this;let⟨g,hg,rfl⟩:=bD.mp hl;show#[g,hg,λe=>by rw[e] at h;cases h]
 show cV (λA=>∃a b:Pt,(BL 300 a.1/\BL 300 a.2/\BL 300 b.1/\BL 300 b.2)/\A=[ap ND,ap I,ap (.int k),ap J,ap U,ap zg,ap ze,ap (pts f),ap (.lst [zg,pts f]),ap hE,ap (.lst BD),ap (.tup [.int N,.int M]),ap (.tup [.int N',.int M']),ap (pt a),ap (pt b),ξ,ξ,ξ,ξ]) (λK m=>?_) ?_
 ·erw[Kw,cE,aE,aU,bH,aA,aB];show#[R,by rw[h7],#[c.rb,ne],λa b h=>?_];erw[kW,eG,kU,cA,aT,cK,true_and,aH,aI];show m _ #[a,b,h,bg]
 rintro A ⟨a,b,tu,rfl⟩;show cV (λ_=>True) (λK m=>?_) (λA _=>by nofun;show Qt);rw[<-hN];erw[iA,riL,r2,nO,Az,tL,lP,aE,aU,aQ,rC,L2.R2.S.val,aA,aB,aT,cK];show ix (j:=9) μ λv=>?_;show#[sz1,?_];erw[qD];show#[s8,?_];let⟨Z,e⟩:=c8 v;rw[hN];generalize xm:cutD (ns.map D.int) ξ (ψ (8:Int))++[D.int v]=J1;have e':J1=Z.map D.int:=by rw[<-xm];show e
 rw[e'];show mQ (λys A=>∃(td:θ Int)(u5 u6 u7 u8:Option L2.R2.S),ys=td.map D.int/\A=[ap ND,ap I,ap (.int k),ap J,ap U,ap zg,ap ze,ap (pts f),ap (.lst [zg,pts f]),ap hE,ap (.lst BD),ap (.tup [.int N,.int M]),ap (.tup [.int N',.int M']),ap (pt a),ap (pt b),u5,u6,u7,u8]) ?_ (λA _=>m A trivial) _ _ #[Z,ξ,ξ,ξ,ξ,bg,bg];rintro y ys A ⟨td,u5,u6,u7,u8,ey,rfl⟩ F hr hbk r8 _;cases td with
 |nil=>cases ey
 |cons cell td=>
  cases ey;unfold JJ;erw[cA,aH,aI];show cV (λA=>∃X Y,((∀t:Int,X≠t*1009)/\BL 400 X/\BL 400 Y)/\A=[ap ND,ap I,ap (.int k),ap J,ap U,ap zg,ap ze,ap (pts f),ap (.lst [zg,pts f]),ap hE,ap (.lst BD),ap (.tup [.int N,.int M]),ap (.tup [.int N',.int M']),ap (pt a),ap (pt b),ap (.int cell),ap (pb X Y 1009),u7,u8]) (λK n5=>?_) ?_
  ·erw[dC,cE,aE,aU,bH,aA,aB,aH,aI];show#[cell,a,b,bg,tu,λX Y nd h=>n5 _ #[X,Y,#[nd,h],bg]]
  rintro A ⟨X,Y,⟨nd,bX,bY⟩,rfl⟩;have odd:=odd X Y nd;have bV:BL 20 1009:=BL.const μ;erw[cS,dC,cE,aE,aU,bH,aA,aB,aH,aI];show#[R,X,Y,1009,by rw[h7],#[c.rb,bX,bY,bV],?_,?_]
  ·erw[gN,cU,r2,aQ,rC,MW,NK,L2.R2.S.val,aA,aB,uR,dX,aO,if_false,fB];show r8 _ #[td,_,_,_,_,bg,bg]
  ·erw[gN,cU,r2,aQ,rC,MW,NK,L2.R2.S.val,aA,aB,uR,lZ,if_true,dC,cE,aE,aU,bH,aH,aI,QM];show#[allB B,X,Y,1009,ζ,by rw[hB],#[la,lb],#[bX.mono,bY.mono,bV.mono],λ_=>?_,λne=>?_]
   ·erw[gN,QM,cU,r2,aQ,rC,MW,NK,L2.R2.S.val,aA,aB,uR,dX,aO,if_false,fB];show r8 _ #[td,_,_,_,_,bg,bg]
   ·rw[odd ne];erw[gN,QM,cU,r2,aQ,rC,MW,NK,dNe,L2.R2.S.val,aH,aI,aA,aB,uR,lZ,decide_true,dX,aO,if_true,if_false,fB];show r8 _ #[td,_,_,_,_,bg,bg]
local macro_rules | `(tactic|walk_at "len")=>`(tactic| (intro ds Q h;(repeat let⟨_,h⟩:=h);all_goals (subst_vars;rfl)))
nonrec def top(i:Nat):Stmt:=PySem.Challenge.pw_recut_k32_parts_of_bands.main.body.getD i (.Pass #[0,0,0,0])
structure TopF(K:aL)(mg:Str->Option aF):Prop where
 d0:iU K mg (top 56)
 d1:iU K mg (top 55)
 d2:iU K mg (top 57)
 d3:iU K mg (top 45)
 d4:iU K mg (top 43)
 d5:iU K mg (top 46)
 d6:iU K mg (top 48)
 d7:iU K mg (top 47)
 d8:iU K mg (top 49)
 d9:iU K mg (top 50)
 d10:iU K mg (top 51)
 d11:iU K mg (top 66)
 d12:iU K mg (top 67)
 d13:iU K mg (top 64)
 d14:iU K mg (top 65)
 d15:iU K mg (top 70)
 d16:iU K mg (top 71)
 d17:iU K mg (top 73)
 d18:iU K mg (top 72)
 d19:iU K mg (top 53)
 d20:iU K mg (top 52)
 d21:iU K mg (top 54)
 d22:iU K mg (top 68)
 d23:iU K mg (top 69)
 d24:iU K mg (top 44)
 d25:iU K mg (top 61)
 d26:iU K mg (top 62)
 d27:iU K mg (top 60)
 d28:iU K mg (top 63)
 d29:iU K mg (top 42)
 d30:iU K mg (top 58)
 d31:iU K mg (top 59)
 d32:iU K mg (top 74)
 d33:iU K mg (top 5)
 d34:iU K mg (top 6)
 d35:iU K mg (top 11)
 d36:iU K mg (top 16)
 d37:iU K mg (top 17)
 d38:iU K mg (top 18)
 d39:iU K mg (top 7)
 d40:iU K mg (top 19)
 d41:iU K mg (top 14)
 d42:iU K mg (top 15)
 d43:iU K mg (top 20)
 d44:iU K mg (top 9)
 d45:iU K mg (top 23)
 d46:iU K mg (top 12)
 d47:iU K mg (top 24)
 d48:iU K mg (top 32)
 d49:iU K mg (top 10)
 d50:iU K mg (top 26)
 d51:iU K mg (top 27)
 d52:iU K mg (top 28)
 d53:iU K mg (top 29)
 d54:iU K mg (top 30)
 d55:iU K mg (top 8)
 d56:iU K mg (top 33)
 d57:iU K mg (top 36)
 d58:iU K mg (top 37)
 d59:iU K mg (top 35)
 d60:iU K mg (top 39)
 d61:iU K mg (top 21)
 d62:iU K mg (top 34)
 d63:iU K mg (top 38)
 d64:iU K mg (top 22)
 d65:iU K mg (top 40)
 d66:iU K mg (top 75)
 b0:mg "len" = ξ
 b1:mg "range" = ξ
 b2:mg "abs" = ξ
 b3:mg "isinstance" = ξ
 b4:mg "bool" = ξ
 b5:mg "int" = ξ
 b6:mg "tuple" = ξ
 b7:mg "min" = ξ
 b8:mg "list" = ξ
 b9:mg "max" = ξ
 b10:mg "sorted" = ξ
 b11:mg "reversed" = ξ
 b12:mg "zip" = ξ
 b13:mg "set" = ξ
 b14:mg "enumerate" = ξ
 b15:mg "dict" = ξ
 t0:∃c T,fN K "rising" = ψ (c,T)
def TopF.hid{K a:aL}{mg:Str->Option aF}(T:TopF K mg)(z:s_ K a):TopF a mg:=by
 cases T;constructor <;> first |assumption | (apply z.def;assumption) | (rename_i h;let⟨c,P,e⟩:=h;show#[c,P,z.tab e])
section
variable{P:cB}{w:dD}{K:aL}{mg:Str->Option aF}{base:Heap}(T:TopF K mg)
variable{lc lt:Addr}(W:w4 K mg base "rising" lc lt)
def FT:gK (["_law_x","_law_y","_law_most"]:θ Str):=γ
def IC:gK (["_law_bit"]:θ Str):=γ
def ID:gK (["_law_wedge_here"]:θ Str):=γ
def IE:gK (["_law_wedge_here"]:θ Str):=γ
def NO:gK (["_law_wedge_here","_law_place"]:θ Str):=γ
def NQ:gK (["_law_wedge_here","_law_place"]:θ Str):=γ
def KY:gK (["_law_k"]:θ Str):=γ
def FU:gK (["_law_x","_law_y","_law_far","_law_by"]:θ Str):=γ
def BC:gK (["_law_x","_law_y"]:θ Str):=γ
def BE:gK (["_law_x","_law_y"]:θ Str):=γ
def PX:gK (["_law_j","_law_xs","_law_lines","_law_up"]:θ Str):=γ
def PY:gK (["_law_j","_law_xs","_law_lines","_law_low"]:θ Str):=γ
def PZ:gK (["_law_k","_law_head","_law_many_here","_law_wide"]:θ Str):=γ
def EJ:gK (["side","column","bottom"]:θ Str):=γ
def KZ:gK (["height","bottom"]:θ Str):=γ
def LA:gK (["side"]:θ Str):=γ
def Cw:gK (["one"]:θ Str):=γ
def IW:gK (["x","y","divisor"]:θ Str):=γ
def FV:gK (["x","y","share"]:θ Str):=γ
def RU:gK (["number","lean"]:θ Str):=γ
include T
def rK:T.d0.W P w base 1 K37.F_added7:=
 T.d0.mkD K37.pure_added7 λa b=>
 h8 (eJ (aC (dW gB (d_ cX (c_ 0) (c_ 1)) (d_ cX (c_ 1) (c_ 0))) (aC (dW cX (c_ 0) (c_ 1)) aS)))
def Cy:T.d1.W P w base 1 K36.F_area3:=
 T.d1.mkD K36.pure_area3 λa b=>
 aM (cG a eE)
 (aM (gA bZ rfl (lW T.b1 (aC (kA T.b0 (c_ 0)) aS)) (cI a) (aM (cG a (fY (c_ 0) (d_ fG (b_ 2) bO)))
 (aM (cG a (fY (c_ 0) (b_ 2)))
 (cZ (cG a (dW fG (d_ gB (b_ 1) (d_ cX (c_ 3) (c_ 4))) (d_ cX (c_ 3) (c_ 4))))))))
 (h8 (eJ (aC (dv 1) (aC (dW cX (c_ 0) (c_ 0)) aS)))))
def IX:T.d2.W P w base 2 K37.F_areas7:=
 T.d2.mkD K37.pure_areas7 λa b=>
 aM (cG a (eJ (aC eE (aC eE aS))))
 (aM (gA bZ rfl (fT (dv 0)) (cI a) (cZ (cG a (bE (rK T) b (aC (dv 1) (aC (bE (Cy T) b (aC (jn 2) aS)) aS))))))
 (h8 (dv 1)))
def oX:T.d3.W P w base 1 IJ:=
 T.d3.mkD QJ λa b=>
 aM (cG a (rJ VR T.b2 AW (aC (dv 0) aS)))
 (aM (cG a (rJ VR T.b2 AW (aC (dv 1) aS)))
 (aM (VZ bZ (eV RV (b_ 1) bO) (cZ (O6 rfl a (aC (dv 1) (aC (dW jN (b_ 0) (b_ 1)) aS)))))
 (h8 (dv 0))))
def lU:T.d4.W P w base 1 BY:=
 T.d4.mkD XQ λa b=>
 h8 (VX (tF (G6 _) T.b3 T.b5 uK (dv 0)) (Ce (O4 (tF (Yo _) T.b3 T.b4 Jh (dv 0)))))
def rE:T.d5.W P w base 2 K36.F_isfr:=
 T.d5.mkD K36.pure_isfr λb a=>
 aM (gO (DW.tst (lS (iZ (iP (tF (qV _) T.b3 T.b6 nD (dv 0)))) (lS (eV vX (eb (kA T.b0 (b_ 0))) bO) (lS (iZ (iP (bE (lU T) a (aC (jn 0) aS)))) (qF (iZ (iP (bE (lU T) a (aC (jn 0) aS))))))))) (h8 jT) eF)
 (h8 (VX (vT RV (c_ 0) bO) (Ce (vT vW (eb (bE (oX T) a (aC (jn 0) (aC (jn 0) aS)))) bO))))
def EK:T.d6.W P w base 2 UW:=
 T.d6.mkD CT λb a=>
 aM (gO (DW.tst (lS (iZ (iP (tF (qV _) T.b3 T.b6 nD (dv 0)))) (lS (eV vX (eb (kA T.b0 (b_ 0))) bO) (lS (iZ (iP (bE (lU T) a (aC (jn 0) aS)))) (qF (eV vF (c_ 0) bO)))))) (h8 jT) eF)
 (aM (gO (DW.tst (lS (iZ (iP (tF (qV _) T.b3 T.b6 nD (jn 0)))) (qF (eV vF (eb (kA T.b0 (c_ 0))) bO)))) (h8 jT) eF)
 (aM (gA bZ rfl (Jm (jn 0)) (cI b) (aM (gO (DW.tst (lS (iZ (iP (tF (qV _) T.b3 T.b6 nD (dv 1)))) (qF (eV vX (eb (kA T.b0 (b_ 1))) bO)))) (h8 jT) eF)
 (cZ (gO (DW.tst (lS (iZ (iP (bE (lU T) a (aC (jn 1) aS)))) (qF (iZ (iP (bE (lU T) a (aC (jn 1) aS))))))) (h8 jT) eF))))
 (h8 jT)))
def Dc:T.d7.W P w base 1 Bo:=
 T.d7.mkD ZJ λa b=>
 aM (cG a (dW cX (d_ fG (c_ 1) (c_ 0)) (d_ fG (c_ 2) (c_ 1))))
 (h8 (dW fG (b_ 3) (d_ cX (d_ fG (c_ 1) (c_ 0)) (d_ fG (c_ 2) (c_ 1)))))
def QC:T.d8.W P w base 3 Sg:=
 T.d8.mkD (N:=["_law_piece","_law_share","_law_corners","_law_most","_law_falls","_law_k"]) NW λb a=>
 aM (gO (iZ (iP (bE (EK T) a (aC (dv 0) aS)))) (h8 jT) eF)
 (aM (Cg (dv 0) (mV rfl (dQ (cI b) (dQ (cI b) kD))))
 (aM (cG b (dv 1))
 (aM (cG b eE)
 (aM (gA bZ rfl (lW T.b1 (aC (kA T.b0 (b_ 2)) aS)) (cI b) (aM (cG b (bE (oX T) a (aC (bE (oX T) a (aC (dv 3) (aC (fY (eb (fY (b_ 2) (b_ 5))) bO) aS))) (aC (fY (eb (fY (b_ 2) (b_ 5))) bO) aS))))
 (aM (gO (eV Nw (eb (bE (Dc T) a (aC (fY (b_ 2) (d_ fG (b_ 5) bO)) (aC (fY (b_ 2) (d_ fG (b_ 5) bO)) (aC (fY (b_ 2) (b_ 5)) aS))))) bO) (h8 jT) eF)
 (cZ (gO (DW.tst (Ch (eV (We a) (eb (fY (b_ 2) (d_ fG (b_ 5) bO))) (eb (fY (b_ 2) (d_ fG (b_ 5) bO)))) (UL (eV (We a) (eb (fY (b_ 2) (d_ fG (b_ 5) bO))) (eb (fY (b_ 2) (b_ 5))))))) (cZ (cG b (dW gB (b_ 4) bO))) eF)))))
 (h8 (VX (vT vW (b_ 3) bO) (VX (vT vW (b_ 4) bO) (Ce (vT (Nv a) (c_ 2) (eb (Mu a T.b7 rfl (b_ 2))))))))))))
def FW:T.d9.W P w base 4 K37.F_isbit7:=
 T.d9.mkD (N:=["_law_bit","_law_move"]) K37.pure_isbit7 λb a=>
 aM (gO (DW.tst (lS (iZ (iP (tF (qV _) T.b3 T.b6 nD (dv 0)))) (lS (eV vX (eb (kA T.b0 (b_ 0))) bO) (qF (iZ (iP (bE (QC T) a (aC (jn 0) aS)))))))) (h8 jT) eF)
 (aM (cG b (jn 0))
 (aM (gO (DW.tst (lS (iZ (iP (tF (qV _) T.b3 T.b6 nD (dv 1)))) (lS (eV vX (eb (kA T.b0 (b_ 1))) bO) (lS (iZ (iP (bE (lU T) a (aC (jn 1) aS)))) (qF (eV vX (eb (rJ VR T.b2 AW (aC (jn 1) aS))) bO)))))) (h8 jT) eF)
 (h8 (VX (bE (rE T) a (aC (jn 1) aS)) (Ce (bE (rE T) a (aC (jn 1) aS)))))))
def Da:T.d10.W P w base 5 K37.F_bits7:=
 T.d10.mkD K37.pure_bits7 λa b=>
 aM (gO (iZ (iP (tF (YE _) T.b3 T.b8 KK (dv 0)))) (h8 jT) eF)
 (aM (gA bZ rfl (fT (dv 0)) (cI a) (cZ (gO (iZ (iP (bE (FW T) b (aC (dv 1) aS)))) (h8 jT) eF)))
 (h8 jT))
def XG:T.d11.W P w base 1 K37.F_inbox7:=
 T.d11.mkD K37.pure_inbox7 λa b=>
 aM (gA bZ rfl (Jm (jn 0)) (mV rfl (dQ (cI a) (dQ (cI a) kD))) (aM (gO (DW.tst (lS (eV vF (b_ 3) bO) (qF (eV RV (b_ 3) (c_ 0))))) (h8 jT) eF)
 (aM (cG a (dW fG (d_ cX (b_ 4) (c_ 1)) (d_ cX (b_ 3) (c_ 1))))
 (cZ (gO (DW.tst (lS (eV vF (b_ 5) bO) (qF (eV RV (d_ cX (b_ 5) (c_ 2)) (d_ cX (d_ cX (c_ 2) (c_ 1)) (c_ 0)))))) (h8 jT) eF)))))
 (h8 jT)
def Go:T.d12.W P w base 6 Ir:=
 T.d12.mkD Rc λb a=>
 aM (gO (DW.tst (lS (iZ (iP (tF (qV _) T.b3 T.b6 nD (dv 0)))) (lS (eV vX (eb (kA T.b0 (b_ 0))) bO) (lS (iZ (iP (bE (lU T) a (aC (jn 0) aS)))) (qF (iZ (iP (bE (rE T) a (aC (jn 0) aS))))))))) (h8 jT) eF)
 (aM (gO (DW.tst (lS (eV vF (c_ 0) bO) (lS (eV L3 (c_ 0) (eb (kA T.b0 (b_ 1)))) (lS (eV Nw (eb (fY (c_ 0) bO)) bO) (qF (iZ (iP (bE (Da T) a (aC (jn 0) aS))))))))) (h8 jT) eF)
 (aM (gA bZ rfl (fT (jn 0)) (cI b) (cZ (gO (iZ (iP (bE (XG T) a (aC (jn 2) (aC (fY (b_ 1) (c_ 0)) (aC (jn 0) aS)))))) (h8 jT) eF)))
 (aM (cG b (bE (IX T) a (aC (jn 0) aS)))
 (h8 (vT vW (d_ cX (c_ 3) (eb (fY (c_ 0) bO))) (d_ cX (d_ cX bO (eb (fY (c_ 0) bO))) (c_ 3)))))))
def RW:T.d13.W P w base 2 Lu:=
 T.d13.mkD (N:=["_law_share","_law_ring","_law_most","_law_x","_law_y","_law_corners","_law_at"]) Dl λa b=>
 aM (cG a (dv 0))
 (aM (gA bZ rfl (fT (dv 1)) (mV rfl (dQ (cI a) (dQ (cI a) kD))) (cZ (cG a (bE (oX T) b (aC (bE (oX T) b (aC (dv 2) (aC (dv 3) aS))) (aC (dv 4) aS))))))
 (aM (NC ["_law_x","_law_y","_law_most"] 2 [2] a (fT (dv 1)) (λc C s H d=>mV rfl (dQ (cI FT) (dQ (cI FT) kD))) (λc C s H d=>eJ (aC (dW lO (b_ 0) (b_ 2)) (aC (dW lO (b_ 1) (b_ 2)) aS))))
 (aM (cG a (Uh b (b_ 5) (Mu b T.b7 rfl (b_ 5))))
 (h8 (eJ (aC (dW lO (b_ 0) (b_ 2)) (aC (Fd T.b6 (d_ qT (eb (tG (b_ 5) (tI (dv 6)) tH)) (eb (tG (b_ 5) tH (tI (dv 6)))))) aS)))))))
def ZI:T.d14.W P w base 3 VA:=
 T.d14.mkD He λa b=>
 aM (cG a (dW cX (c_ 0) (c_ 1)))
 (aM (cG a (dW cX (c_ 0) (c_ 1)))
 (aM (cG a (dW cX (c_ 1) (c_ 0)))
 (aM (gO (iP (dv 2)) (h8 (bE (RW T) b (aC (dv 3) (aC (DO.val (iV (aC (eJ (aC eE (aC eE aS))) (aC (eJ (aC (dv 3) (aC (dv 4) aS))) (aC (eJ (aC (dv 3) (aC (dv 5) aS))) aS))))) aS)))) eF)
 (h8 (bE (RW T) b (aC (dv 3) (aC (DO.val (iV (aC (eJ (aC eE (aC eE aS))) (aC (eJ (aC (dv 3) (aC (dv 5) aS))) (aC (eJ (aC eE (aC (dW fG (b_ 5) (b_ 4)) aS))) aS))))) aS)))))))
def FX:T.d15.W P w base 5 OR:=
 T.d15.mkD Do λb a=>
 aM (gO (iZ (iP (tF (YE _) T.b3 T.b8 KK (dv 0)))) (h8 jT) eF)
 (aM (gA bZ rfl (fT (dv 0)) (cI b) (aM (gO (DW.tst (lS (iZ (iP (tF (qV _) T.b3 T.b6 nD (dv 3)))) (lS (eV vX (eb (kA T.b0 (b_ 3))) bO) (lS (iZ (iP (bE (lU T) a (aC (jn 3) aS)))) (qF (iZ (iP (bE (FW T) a (aC (jn 3) aS))))))))) (h8 jT) eF)
 (aM (gO (DW.tst (lS (eV vF (c_ 3) bO) (qF (eV L3 (c_ 3) (d_ fG (eb (kA T.b0 (b_ 1))) bO))))) (h8 jT) eF)
 (cZ (gO (eV (Wf a) (eb (fY (c_ 3) bO)) (eb (bE (ZI T) a (aC (fY (b_ 1) (c_ 3)) (aC (fY (b_ 1) (d_ gB (c_ 3) bO)) (aC (dv 2) aS)))))) (h8 jT) eF)))))
 (h8 jT))
def QB:T.d16.W P w base 7 Ip:=
 T.d16.mkD Ra λc d=>
 aM (gO (DW.tst (lS (iZ (iP (tF (qV _) T.b3 T.b6 nD (dv 0)))) (lS (eV vX (eb (kA T.b0 (b_ 0))) bO) (qF (iZ (iP (tF (YE _) T.b3 T.b8 KK (jn 0)))))))) (h8 uL) eF)
 (aM (cG c (DO.val (iV aS)))
 (aM (gA bZ rfl (fT (jn 0)) (cI c) (aM (gO (iZ (iP (bE (Go T) d (aC (dv 3) (aC (dv 1) aS))))) (h8 uL) eF)
 (cZ (cG c (dW qT (b_ 2) (c_ 3))))))
 (aM (gO (DW.tst (lS (iZ (iP (bE (FX T) d (aC (jn 0) (aC (dv 1) (aC jT aS)))))) (qF (iZ (iP (bE (FX T) d (aC (jn 0) (aC (dv 1) (aC jT aS))))))))) (h8 uL) eF)
 (aM (cG c (dW qT (d_ qT (b_ 2) (eb (DO.val (rT ["_law_wedge_here"] 1 [] (fT (jn 0)) (λa C s H b=>cI ID) (λa C s H b=>jn 0))))) (eb (DO.val (rT ["_law_wedge_here"] 1 [] (fT (jn 0)) (λa C s H b=>cI IE) (λa C s H b=>jn 0))))))
 (aM (gO (eV vF (eb (kA T.b0 (eb (DO.val (NB ["_law_bit"] 1 [] (fT (dv 2)) (λa C s H b=>cI IC) (λa C s H b=>VY (eV vW (eb (fY (c_ 0) bO)) bO)) (λa C s H b=>dv 0)))))) (eb (kA T.b0 (b_ 2)))) (h8 uL) eF)
 (h8 (dv 2)))))))
def wG:T.d17.W P w base 1 Ja:=
 T.d17.mkD Rk λa b=>
 aM (cG a (dW cX (d_ fG (d_ cX (c_ 1) (c_ 0)) (d_ cX (c_ 0) (c_ 1))) (c_ 2)))
 (h8 (vT Nw (b_ 3) (d_ cX (d_ cX (c_ 2) (c_ 0)) (c_ 1))))
def XE:T.d18.W P w base 2 ON:=
 T.d18.mkD Dj λa d=>
 aM (gA bZ rfl (lW T.b1 (aC (dW fG (eb (kA T.b0 (b_ 2))) bO) aS)) (cI a) (aM (cG a eE)
 (aM (gA bZ rfl (fT (dv 1)) (mV rfl (dQ (cI a) (dQ (cI a) (dQ (cI a) (dQ (cI a) (dQ (cI a) kD)))))) (aM (cG a (dW gB (b_ 4) (eb (xD PK T.b5 uK (aC (bE (wG T) d (aC (dv 6) (aC (dv 7) (aC (fY (b_ 2) (b_ 3)) aS)))) aS)))))
 (cZ (cG a (dW fG (b_ 4) (eb (xD PK T.b5 uK (aC (bE (wG T) d (aC (dv 8) (aC (dv 9) (aC (fY (b_ 2) (b_ 3)) aS)))) aS))))))))
 (aM (cG a (kA T.b0 (eb (DO.val (NB ["_law_wedge_here","_law_place"] 1 [3] (fT (jn 0)) (λb C s H c=>cI NQ) (λb C s H c=>VY (eV (Nv d) (c_ 0) (b_ 1))) (λb C s H c=>dv 0))))))
 (cZ (gO (eV vX (d_ fG (b_ 10) (eb (kA T.b0 (eb (DO.val (NB ["_law_wedge_here","_law_place"] 1 [3] (fT (jn 0)) (λb C s H c=>cI NO) (λb C s H c=>VY (eV (Nv d) (c_ 0) (b_ 1))) (λb C s H c=>dv 0))))))) (b_ 4)) (h8 jT) eF))))))
 (h8 jT)
def Cz:T.d19.W P w base 1 K37.F_back:=
 T.d19.mkD (N:=["_law_spot","_law_move","_law_sign","_law_dx","_law_dy","_law_x","_law_y"]) K37.pure_back λa b=>
 aM (Cg (dv 1) (mV rfl (dQ (cI a) (dQ (cI a) (dQ (cI a) kD)))))
 (aM (cG a (dW cX (d_ cX (b_ 2) (d_ fG (d_ cX (c_ 0) (c_ 3)) (d_ cX (c_ 3) (c_ 0)))) (c_ 4)))
 (aM (cG a (dW cX (d_ cX (b_ 2) (d_ fG (d_ cX (c_ 0) (c_ 4)) (d_ cX (c_ 4) (c_ 0)))) (c_ 3)))
 (h8 (eJ (aC (dv 5) (aC (dv 6) (aC (dW cX (d_ cX (c_ 0) (c_ 3)) (c_ 4)) aS)))))))
def Db:T.d20.W P w base 1 UV:=
 T.d20.mkD (N:=["_law_piece","_law_spot","_law_share","_law_corners","_law_least","_law_k","_law_one","_law_x","_law_y","_law_side"]) UD λa b=>
 aM (Cg (dv 0) (mV rfl (dQ (cI a) (dQ (cI a) kD))))
 (aM (cG a uL)
 (aM (gA bZ rfl (lW T.b1 (aC (kA T.b0 (b_ 3)) aS)) (cI a) (aM (cG a (fY (b_ 3) (d_ fG (b_ 5) bO)))
 (aM (cG a (dW fG (d_ cX (c_ 1) (b_ 2)) (d_ cX (c_ 6) (c_ 1))))
 (aM (cG a (dW fG (d_ cX (c_ 1) (b_ 2)) (d_ cX (c_ 6) (c_ 1))))
 (aM (cG a (dW fG (d_ cX (d_ fG (eb (fY (eb (fY (b_ 3) (b_ 5))) bO)) (c_ 6)) (b_ 8)) (d_ cX (d_ fG (eb (fY (eb (fY (b_ 3) (b_ 5))) bO)) (c_ 6)) (b_ 7))))
 (cZ (gO (DW.tst (lS (eV Wc (b_ 4) (eb uL)) (qF (eV vF (b_ 9) (b_ 4))))) (cZ (cG a (dv 9))) eF)))))))
 (h8 (dW fG (eb (xD PK T.b5 uK (aC (vT RV (b_ 4) bO) aS))) (eb (xD PK T.b5 uK (aC (vT vF (b_ 4) bO) aS)))))))
def NR:T.d21.W P w base 2 K37.F_many7:=
 T.d21.mkD (N:=["_law_bits_here","_law_spot","_law_home","_law_found","_law_piece","_law_move","_law_place","_law_where"]) K37.pure_many7 λa b=>
 aM (cG a eE)
 (aM (gA bZ rfl (fT (dv 0)) (mV rfl (dQ (cI a) (dQ (cI a) kD))) (aM (cG a (dv 1))
 (aM (gO (iP (dv 2)) (cZ (cG a (bE (Cz T) b (aC (dv 1) (aC (dv 5) aS))))) eF)
 (aM (cG a (bE (Db T) b (aC (dv 4) (aC (dv 6) aS))))
 (aM (gO (eV vW (b_ 7) bO) (h8 uL) eF)
 (cZ (cG a (dW gB (b_ 3) (eb (xD PK T.b5 uK (aC (vT vW (b_ 7) bO) aS)))))))))))
 (h8 (dv 3)))
def TZ:T.d22.W P w base 1 Bp:=
 T.d22.mkD (N:=["_law_cell","_law_s","_law_h","_law_number","_law_x","_law_y","_law_share"]) Ks λa b=>
 aM (cG a (dW jN (d_ cX (d_ cX (d_ gB (d_ jN (b_ 0) (d_ CS bO bO)) bO) (d_ gB (d_ jN (b_ 0) (d_ CS bO bO)) bO)) bO) bO))
 (aM (cG a (dW gB bO (d_ jN (b_ 3) bO)))
 (aM (cG a (dW gB bO (d_ jN (d_ jN (d_ cX (b_ 3) bO) bO) bO)))
 (aM (cG a (dW cX (d_ cX (d_ cX bO bO) (c_ 1)) (c_ 2)))
 (h8 (eJ (aC (dW cX (d_ cX (d_ cX (b_ 4) bO) (c_ 1)) (c_ 2)) (aC (dW gB (d_ cX (d_ cX (d_ cX (b_ 4) (c_ 1)) bO) (c_ 2)) (d_ cX (d_ cX (d_ cX (b_ 5) (c_ 2)) bO) (c_ 1))) (aC (dv 6) aS))))))))
def XF:T.d23.W P w base 3 OO:=
 T.d23.mkD Dk λa b=>
 aM (gA bZ rfl (fT (dv 0)) (mV rfl (dQ (cI a) (dQ (cI a) (dQ (cI a) kD)))) (cZ (gA bZ rfl (fT (dv 2)) (cI a) (cZ (gO (eV (Wg b) (eb (bE (NR T) b (aC (dv 5) (aC (bE (TZ T) b (aC (dv 6) (aC (fY (b_ 1) (b_ 3)) (aC (dv 4) aS)))) (aC jT aS))))) (eb (DO.val (iV (aC eE (aC uL aS))))) rfl) (h8 jT) eF)))))
 (h8 jT)
def TY:T.d24.W P w base 1 OP:=
 T.d24.mkD (N:=["_law_script","_law_many_here","_law_found","_law_k","_law_cell","_law_at"]) QK λa d=>
 aM (NC ["_law_k"] 1 [] a (lW T.b1 (aC (dv 1) aS)) (λb C s H c=>cI KY) (λb C s H c=>eE))
 (aM (gA bZ rfl (lW T.b1 (aC (rJ (Yz rfl) T.b9 Ad (aC (dv 1) (aC (rJ (Mg rfl) T.b7 PJ (aC (kA T.b0 (b_ 0)) (aC eE aS))) aS))) aS)) (cI a) (aM (cG a eE)
 (aM (gO (eV RV (eb (kA T.b0 (b_ 0))) bO) (cZ (cG a (dW jN (eb (fY (b_ 0) (d_ jN (b_ 3) (eb (rJ (Mg rfl) T.b7 PJ (aC (kA T.b0 (b_ 0)) (aC eE aS))))))) (d_ gB (d_ CS bO bO) bO)))) eF)
 (aM (cG a (dW jN (b_ 3) (b_ 1)))
 (cZ (Uv 2 (dW jN (d_ gB (d_ gB (d_ cX (eb (fY (b_ 2) (b_ 5))) bO) (b_ 4)) (d_ cX (b_ 3) (b_ 3))) (d_ gB (d_ CS bO bO) bO)) (dv 5)))))))
 (cZ (wE 2 (vU (dv 2)))))
def Gp:T.d25.W P w base 1 Ix:=
 T.d25.mkD Rf λa b=>
 aM (cG a eE)
 (aM (gA bZ rfl (fT (dv 0)) (cI a) (cZ (gA bZ rfl (lW T.b1 (aC (kA T.b0 (b_ 3)) aS)) (cI a) (aM (cG a (rJ (Ta b) T.b7 PJ (aC (fY (b_ 3) (d_ fG (b_ 4) bO)) (aC (fY (b_ 3) (b_ 4)) aS))))
 (aM (cG a (rJ (Sy b) T.b9 Ad (aC (fY (b_ 3) (d_ fG (b_ 4) bO)) (aC (fY (b_ 3) (b_ 4)) aS))))
 (cZ (gO (DW.tst (Ch (eV vF (d_ cX (c_ 5) (c_ 1)) (c_ 1)) (UL (eV vF (c_ 1) (d_ cX (c_ 6) (c_ 1)))))) (aM (cG a (dW fG (c_ 1) (d_ cX (c_ 5) (c_ 1))))
 (aM (cG a (dW cX (d_ fG (c_ 6) (c_ 5)) (b_ 7)))
 (aM (cG a (dW cX (d_ fG (c_ 1) (d_ cX (c_ 5) (c_ 1))) (d_ fG (c_ 6) (c_ 5))))
 (aM (cG a (dW fG (b_ 9) (b_ 8)))
 (aM (gO (eV vW (b_ 9) bO) (h8 uL) eF)
 (cZ (cG a (dW gB (b_ 2) (eb (xD PK T.b5 uK (aC (vT RV (b_ 9) bO) aS))))))))))) eF)))))))
 (h8 (dW jN (b_ 2) bO)))
def ZG:T.d26.W P w base 1 UY:=
 T.d26.mkD Hc λa b=>
 aM (cG a (dW jN (d_ cX (d_ cX (d_ gB (d_ jN (b_ 0) (d_ CS bO bO)) bO) (d_ gB (d_ jN (b_ 0) (d_ CS bO bO)) bO)) bO) bO))
 (aM (cG a (dW gB bO (d_ jN (b_ 3) (d_ fG (d_ cX bO (d_ fG (c_ 2) (c_ 1))) bO))))
 (aM (gO (eV vW (d_ jN (b_ 4) bO) bO) (cZ (cG a (dW gB (b_ 4) bO))) eF)
 (aM (cG a (dW jN (d_ cX (b_ 3) bO) bO))
 (aM (cG a (dW fG (d_ lO (d_ cX (b_ 3) (d_ cX bO (d_ gB (d_ fG (c_ 2) (c_ 1)) bO))) bO) bO))
 (h8 (eJ (aC (dW gB (d_ cX (c_ 1) bO) (b_ 4)) (aC (dW gB (d_ cX (c_ 1) bO) (b_ 5)) (aC eE aS)))))))))
def RY:T.d27.W P w base 1 K31.F_put:=
 T.d27.mkD (N:=["_law_rings","_law_far","_law_by","_law_found","_law_ring"]) K31.pure_law_put λa d=>
 aM (pR a (iV aS))
 (aM (gA bZ rfl (fT (dv 0)) (cI a) (cZ (pC 3 (DO.val (rT ["_law_x","_law_y","_law_far","_law_by"] 2 [1,2] (fT (dv 4)) (λb C s H c=>mV rfl (dQ (cI FU) (dQ (cI FU) kD))) (λb C s H c=>eJ (aC (dW gB (b_ 0) (c_ 2)) (aC (dW gB (d_ cX (b_ 1) (b_ 3)) (c_ 2)) aS))))))))
 (cZ (wE 3 (vU (dv 3)))))
def ZH:T.d28.W P w base 1 UZ:=
 T.d28.mkD Hd λa d=>
 aM (cG a (DO.val (iV (aC eE (aC eE aS)))))
 (aM (cG a (DO.val (iV (aC eE aS))))
 (aM (gA bZ rfl (fT (dv 0)) (cI a) (aM (cG a (dW qT (b_ 1) (eb (DO.val (rT ["_law_x","_law_y"] 2 [] (fT (dv 3)) (λb C s H c=>mV rfl (dQ (cI BE) (dQ (cI BE) kD))) (λb C s H c=>dv 0))))))
 (cZ (cG a (dW qT (b_ 2) (eb (DO.val (rT ["_law_x","_law_y"] 2 [] (fT (dv 3)) (λb C s H c=>mV rfl (dQ (cI BC) (dQ (cI BC) kD))) (λb C s H c=>dv 1)))))))))
 (aM (gO (eV (S8 d) (b_ 0) (eb (DO.val (iV aS)))) (aM (cG a (tG (b_ 1) (tI eE) tH))
 (cZ (cG a (tG (b_ 2) (tI eE) tH)))) eF)
 (h8 (eJ (aC (eJ (aC (Mt T.b7 rfl (b_ 1)) (aC (Mt T.b7 rfl (b_ 2)) aS))) (aC (eJ (aC (Ms T.b9 rfl (b_ 1)) (aC (Ms T.b9 rfl (b_ 2)) aS))) aS)))))))
def ZF:T.d29.W P w base 1 Bn:=
 T.d29.mkD XO λa b=>
 aM (gA bZ rfl (lW T.b1 (aC (dv 2) aS)) (cI a) (cZ (cG a (dW lO (b_ 0) (b_ 1)))))
 (h8 (dW jN (b_ 0) (b_ 1)))
def TX:T.d30.W P w base 2 K31.F_hts:=
 T.d30.mkD (N:=["_law_number","_law_many_here","_law_wide","_law_found","_law_k"]) K31.pure_law_hts λa b=>
 aM (pR a (iV aS))
 (aM (gA bZ rfl (lW T.b1 (aC (dv 1) aS)) (cI a) (cZ (pC 3 (bE (ZF T) b (aC (dv 0) (aC (dW gB (b_ 2) bO) (aC (dv 4) aS)))))))
 (h8 (DO.val (Fj T.b10 (b_ 3)))))
def IY:T.d31.W P w base 3 K31.F_sheet:=
 T.d31.mkD (N:=["_law_head","_law_most","_law_wide","_law_many_here","_law_xs","_law_k","_law_lines","_law_rings","_law_low","_law_up","_law_ring"]) K31.pure_law_sheet λa d=>
 aM (cG a (dW cX bO (d_ gB bO (d_ jN (c_ 0) bO))))
 (aM (pR a (iV (aC eE aS)))
 (aM (gA bZ rfl (lW T.b1 (aC (dW gB bO (d_ jN (c_ 0) bO)) aS)) (cI a) (cZ (pC 4 (dW gB (d_ gB (eb (fY (b_ 4) (eb (Fe YK bO)))) bO) (d_ jN (d_ lO (c_ 0) (d_ gB bO (d_ cX bO (b_ 5)))) (b_ 1))))))
 (aM (cG a (DO.val (rT ["_law_k","_law_head","_law_many_here","_law_wide"] 1 [0,3,2] (lW T.b1 (aC (kA T.b0 (b_ 4)) aS)) (λb C s H c=>cI PZ) (λb C s H c=>bE (TX T) d (aC (fY (b_ 1) (d_ gB bO (b_ 0))) (aC (dv 2) (aC (dv 3) aS)))))))
 (aM (pR a (iV aS))
 (aM (gA bZ rfl (lW T.b1 (aC (dW lO (b_ 3) bO) aS)) (cI a) (aM (cG a (dW cX bO (b_ 5)))
 (aM (cG a (dW gB (d_ cX bO (b_ 5)) bO))
 (aM (gO (eV vW (d_ jN (d_ lO (c_ 0) bO) bO) bO) (aM (cG a (dv 5))
 (cZ (cG a (dW fG (d_ fG (b_ 3) bO) (b_ 5))))) eF)
 (aM (wE 4 (NC ["_law_j","_law_xs","_law_lines","_law_low"] 1 [4,6,8] a (lW T.b1 (aC (kA T.b0 (b_ 4)) aS)) (λb C s H c=>cI PY) (λb C s H c=>eJ (aC (fY (b_ 1) (b_ 0)) (aC (fY (eb (fY (b_ 2) (b_ 0))) (b_ 3)) aS)))))
 (cZ (wE 4 (pC 7 (dW qT (b_ 10) (eb (DO.val (rT ["_law_j","_law_xs","_law_lines","_law_up"] 1 [4,6,9] (Zm T.b11 T.b1 (aC (kA T.b0 (b_ 4)) aS)) (λb C s H c=>cI PX) (λb C s H c=>eJ (aC (fY (b_ 1) (b_ 0)) (aC (fY (eb (fY (b_ 2) (b_ 0))) (b_ 3)) aS)))))))))))))))
 (cZ (wE 7 (vU (dv 7)))))))))
def LC:T.d32.W P w base 2 VB:=
 T.d32.mkD Hf λa b=>
 aM (cG a (eJ (aC eE (aC eE aS))))
 (aM (gA bZ rfl (fT (dv 0)) (mV rfl (dQ (cI a) (dQ (cI a) (dQ (cI a) (dQ (cI a) (dQ (cI a) kD)))))) (aM (cG a (bE (rK T) b (aC (dv 1) (aC (bE (rK T) b (aC (dv 5) (aC (dv 6) aS))) aS))))
 (aM (cG a (bE (rK T) b (aC (dv 1) (aC (eJ (aC (dW fG bO (c_ 3)) (aC (jn 3) aS))) aS))))
 (cZ (cG a (bE (rK T) b (aC (dv 1) (aC (eJ (aC (dW fG bO (c_ 4)) (aC (jn 4) aS))) aS))))))))
 (h8 (dv 1)))
def pT:T.d33.W P w base 1 IJ:=
 T.d33.mkD IF λa b=>
 aM (cG a (rJ VR T.b2 AW (aC (dv 0) aS)))
 (aM (cG a (rJ VR T.b2 AW (aC (dv 1) aS)))
 (aM (VZ bZ (eV vX (b_ 3) bO) (aM (cG a (dW jN (b_ 2) (b_ 3)))
 (aM (cG a (dv 3))
 (cZ (cG a (dv 4))))))
 (h8 (dv 2))))
def sE:T.d34.W P w base 2 UU:=
 T.d34.mkD CU λb a=>
 h8 (dW cX (b_ 0) (d_ lO (b_ 1) (eb (bE (pT T) a (aC (dv 0) (aC (dv 1) aS))))))
def xY:T.d35.W P w base 3 K39.F_lowK:=
 T.d35.mkD K39.pure_lowK λa b=>
 aM (cG a eE)
 (aM (gA bZ rfl (fT (dv 0)) (cI a) (cZ (cG a (bE (sE T) b (aC (dv 1) (aC (dv 2) aS))))))
 (h8 (dv 1)))
def RZ:T.d36.W P w base 1 Dz:=
 T.d36.mkD ZM λa b=>
 h8 (dW fG (eb (fY (c_ 0) bO)) (eb (fY (c_ 0) bO)))
def NS:T.d37.W P w base 2 K23.F_hgt:=
 T.d37.mkD K23.pure_height_at λa b=>
 aM (cG a (jn 0))
 (aM (cG a (bE (RZ T) b (aC (dv 0) aS)))
 (aM (cG a (dW cX (d_ fG (eb (fY (c_ 0) bO)) (c_ 3)) (d_ fG (b_ 1) (c_ 3))))
 (h8 (dW cX (d_ gB (d_ cX (c_ 3) (b_ 4)) (b_ 5)) (d_ lO (b_ 2) (b_ 4))))))
def LF:T.d38.W P w base 3 K23.F_ordH:=
 T.d38.mkD K23.pure_ordered_heights λa b=>
 aM (NC ["side","column","bottom"] 1 [1,2] a (fT (dv 0)) (λc C s H d=>cI EJ) (λc C s H d=>eJ (aC (bE (NS T) b (aC (dv 0) (aC (dv 1) (aC (dv 2) aS)))) (aC (bE (NS T) b (aC (dv 0) (aC (dW gB (b_ 1) bO) (aC (dv 2) aS)))) aS))))
 (aM (pR a (Us T.b10 (b_ 3)))
 (aM (wE 3 (gA bZ rfl (Jn T.b12 (dv 3) (tG (b_ 3) (tI eE) tH)) (mV rfl (dQ (cI a) (dQ (cI a) kD))) (cZ (gO (eV vF (c_ 5) (c_ 4)) (cZ Fk) eF))))
 (cZ (wE 3 (vU (dv 3))))))
def XL:T.d39.W P w base 2 pK:=
 T.d39.mkD Kr λa b=>
 aM (gO (eV vW (b_ 1) bO) (cZ Fk) eF)
 (aM (cG a (bE (pT T) b (aC (dv 0) (aC (dv 1) aS))))
 (aM (gO (eV vF (b_ 1) bO) (cZ (cG a (Fe YK (b_ 2)))) eF)
 (h8 (eJ (aC (dW lO (b_ 0) (b_ 2)) (aC (dW lO (b_ 1) (b_ 2)) aS))))))
def UA:T.d40.W P w base 4 K23.F_colB:=
 T.d40.mkD K39.pure_colK λa b=>
 aM (cG a (bE (xY T) b (aC (DO.val (rT ["side"] 1 [] (fT (dv 0)) (λc C s H d=>cI LA) (λc C s H d=>bE (RZ T) b (aC (dv 0) aS)))) aS)))
 (aM (cG a (bE (LF T) b (aC (dv 0) (aC (dv 1) (aC (dv 2) aS)))))
 (aM (pR a (iV aS))
 (aM (gA bZ rfl (Jn T.b12 (DO.val (Zo (b_ 3))) (DO.val (Zp (b_ 3)))) (mV rfl (dQ (cI a) (dQ (cI a) kD))) (cZ (gO (eV (Wf b) (b_ 5) (b_ 6)) (aM (NC ["height","bottom"] 1 [2] a (Jm (dW qT (b_ 5) (b_ 6))) (λc C s H d=>cI KZ) (λc C s H d=>bE (XL T) b (aC (dv 0) (aC (dv 1) aS))))
 (cZ (pC 4 (eJ (aC (dv 1) (aC (jn 7) (aC (jn 7) (aC (jn 7) (aC (jn 7) aS))))))))) eF)))
 (cZ (wE 4 (vU (dv 4)))))))
def Gu:T.d41.W P w base 1 OQ:=
 T.d41.mkD ZL λa b=>
 aM (pR a (iV aS))
 (aM (gA bZ rfl (Jn T.b12 (dv 0) (dW qT (eb (tG (b_ 0) (tI eE) tH)) (eb (tG (b_ 0) tH (tI eE))))) (mV rfl (dQ (cI a) (dQ (cI a) kD))) (aM (gO (eV vF (c_ 2) (c_ 3)) (cZ (pC 1 (eJ (aC (dv 2) (aC (dv 3) aS))))) eF)
 (cZ (gO (eV vF (c_ 3) (c_ 2)) (cZ (pC 1 (eJ (aC (dv 3) (aC (dv 2) aS))))) eF))))
 (cZ (wE 1 (vU (dv 1)))))
def LG:T.d42.W P w base 2 K23.F_byCol:=
 T.d42.mkD K23.pure_sides_by_column λa b=>
 aM (Zr a)
 (aM (gA bZ rfl (fT (dv 0)) (cI a) (cZ (gA bZ rfl (fT (bE (Gu T) b (aC (dv 2) aS))) (cI a) (cZ (gA bZ rfl (O5 T.b1 (aC (fY (c_ 3) bO) (aC (fY (c_ 3) bO) aS))) (cI a) (cZ (Zq 1 (dv 4) (dv 3))))))))
 (cZ (wE 1 (vU (dv 1)))))
def Gq:T.d43.W P w base 5 K23.F_bands:=
 T.d43.mkD K23.pure_bandsN λa b=>
 aM (cG a (bE (LG T) b (aC (dv 0) aS)))
 (aM (pR a (iV aS))
 (aM (gA bZ rfl (fT (DO.val (Fj T.b10 (eb (DO.val (Ur T.b8 rfl (dv 1))))))) (cI a) (cZ (HH 2 (bE (UA T) b (aC (O3 b (dv 1) (dv 3)) (aC (dv 3) aS))))))
 (cZ (wE 2 (vU (dv 2))))))
def BF:T.d44.W P w base 3 kB:=
 T.d44.mkD Kq λb a=>
 h8 (bE (XL T) a (aC (dW fG (d_ cX (c_ 0) (c_ 1)) (d_ cX (c_ 1) (c_ 0))) (aC (dW cX (c_ 0) (c_ 1)) aS)))
def tK:T.d45.W P w base 4 K22.F_lslope:=
 T.d45.mkD K22.pure_lower_slope λb a=>
 h8 (bE (BF T) a (aC (jn 0) (aC (jn 0) aS)))
include W in
def Qr:T.d46.W P w base 4 K22.F_rising:=
 T.d46.mkC W K39.pure_risK λb a c=>
 aM (cG b (bE (xY T) a (aC (DO.val (rT ["one"] 1 [] (fT (dv 0)) (λd C s H e=>cI Cw) (λd C s H e=>jn 0))) aS)))
 (h8 (DO.val (Pz (k:=0) (j:=1) a T.b10 W μ c (b_ 0) (by rfl) (hfree:=Vj rfl))))
def xZ:T.d47.W P w base 4 K22.F_uslope:=
 T.d47.mkD K22.pure_upper_slope λb a=>
 h8 (bE (BF T) a (aC (jn 0) (aC (jn 0) aS)))
include W in
def Gs:T.d48.W P w base 5 K31.F_leans:=
 T.d48.mkD K31.pure_leans_of λb a=>
 aM (Zs b)
 (aM (gA bZ rfl (fT (dW qT (b_ 0) (b_ 1))) (cI b) (aM (Na 2 a (bE (tK T) a (aC (dv 3) aS)) jT)
 (cZ (Na 2 a (bE (xZ T) a (aC (dv 3) aS)) jT))))
 (h8 (bE (Qr T W) a (aC (DO.val (Ut 2 T.b8 rfl)) aS))))
def Wh:T.d49.W P w base 1 BW:=
 T.d49.mkD Ko λa b=>
 h8 (vT vF (d_ cX (c_ 0) (c_ 1)) (d_ cX (c_ 1) (c_ 0)))
def C5:T.d50.W P w base 1 BX:=
 T.d50.mkD Rj λa b=>
 aM (cG a (dW cX (d_ fG (c_ 1) (c_ 0)) (d_ fG (c_ 2) (c_ 0))))
 (aM (cG a (dW cX (d_ fG (c_ 1) (c_ 0)) (d_ fG (c_ 2) (c_ 0))))
 (h8 (dW fG (b_ 3) (b_ 4))))
def IZ:T.d51.W P w base 2 Iv:=
 T.d51.mkD UC λa b=>
 aM (pR a (iV aS))
 (aM (gA bZ rfl (fT (dv 0)) (cI a) (aM (VZ bZ (DW.tst (Ch (eV RV (eb (kA T.b0 (b_ 1))) bO) (UL (eV Nw (eb (bE (C5 T) b (aC (fY (b_ 1) (eb (Fe YK bO))) (aC (fY (b_ 1) (eb (Fe YK bO))) (aC (dv 2) aS))))) bO)))) (cZ (O7 1)))
 (cZ (pC 1 (dv 2)))))
 (h8 (tG (b_ 1) tH (tI (Fe YK bO)))))
def Kj:T.d52.W P w base 3 AI:=
 T.d52.mkD Dm λb a=>
 aM (cG b (DO.val (Jq a T.b10 T.b13 rfl (b_ 0))))
 (h8 (dW qT (eb (bE (IZ T) a (aC (dv 1) aS))) (eb (bE (IZ T) a (aC (DO.val (Jp T.b8 T.b11 rfl (b_ 1))) aS)))))
def Kk:T.d53.W P w base 4 JQ:=
 T.d53.mkD ZK λa b=>
 aM (cG a (bE (Kj T) b (aC (dv 1) aS)))
 (aM (gO (eV vF (eb (kA T.b0 (b_ 2))) bO) (h8 uL) eF)
 (aM (cG a (dv 0))
 (aM (gA bZ rfl (fT (dv 2)) (mV rfl (dQ (cI a) (dQ (cI a) kD))) (cZ (cG a (bE (pT T) b (aC (bE (pT T) b (aC (dv 3) (aC (dv 4) aS))) (aC (dv 5) aS))))))
 (h8 (eJ (aC (dW lO (b_ 0) (b_ 3)) (aC (Fd T.b6 (eb (DO.val (rT ["x","y","divisor"] 2 [3] (fT (dv 2)) (λc C s H d=>mV rfl (dQ (cI IW) (dQ (cI IW) kD))) (λc C s H d=>eJ (aC (dW lO (b_ 0) (b_ 2)) (aC (dW lO (b_ 1) (b_ 2)) aS))))))) aS)))))))
def FY:T.d54.W P w base 5 K39.F_pieceS:=
 T.d54.mkD K39.pure_pieceS λa b=>
 aM (cG a eE)
 (aM (gA bZ rfl (fT (dv 0)) (mV rfl (dQ (cI a) (dQ (cI a) kD))) (cZ (cG a (bE (sE T) b (aC (bE (sE T) b (aC (dv 1) (aC (jn 2) aS))) (aC (jn 3) aS))))))
 (h8 (bE (Kk T) b (aC (dv 1) (aC (DO.val (rT ["x","y","share"] 2 [1] (fT (dv 0)) (λc C s H d=>mV rfl (dQ (cI FV) (dQ (cI FV) kD))) (λc C s H d=>eJ (aC (dW cX (c_ 0) (d_ lO (b_ 2) (c_ 0))) (aC (dW cX (c_ 1) (d_ lO (b_ 2) (c_ 1))) aS))))) aS)))))
def C4:T.d55.W P w base 3 UX:=
 T.d55.mkD Rh λb a=>
 h8 (bE (XL T) a (aC (dW gB (d_ cX (c_ 0) (c_ 1)) (d_ cX (c_ 1) (c_ 0))) (aC (dW cX (c_ 0) (c_ 1)) aS)))
def Df:T.d56.W P w base 6 Sf:=
 T.d56.mkD Wz λa b=>
 aM (cG a (eJ (aC eE (aC eE aS))))
 (aM (cG a (eJ (aC eE (aC eE aS))))
 (h8 (bE (FY T) b (aC (DO.val (iV (aC (eJ (aC (dv 2) (aC (dv 2) aS))) (aC (eJ (aC (dv 3) (aC (dv 0) aS))) (aC (eJ (aC (dv 3) (aC (bE (C4 T) b (aC (dv 0) (aC (dv 1) aS))) aS))) (aC (eJ (aC (dv 2) (aC (dv 1) aS))) aS)))))) aS))))
def FZ:T.d57.W P w base 1 K39.F_shK:=
 T.d57.mkD K39.pure_shK λa b=>
 h8 (eJ (aC eE (aC (eJ (aC (dv 0) (aC eE aS))) (aC (dv 1) aS))))
def Gr:T.d58.W P w base 7 Iq:=
 T.d58.mkD Rb λb a=>
 aM (cG b (bE (tK T) a (aC (dv 0) aS)))
 (aM (gO (eV (Nv a) (b_ 1) (eb (eJ (aC eE (aC eE aS))))) (h8 (DO.val (iV aS))) eF)
 (aM (cG b (eJ (aC (bE (Df T) a (aC (dv 3) (aC (dv 1) aS))) (aC (bE (FZ T) a (aC (jn 0) (aC (jn 0) aS))) aS))))
 (h8 (DO.val (iV (aC (eJ (aC (NA a (dv 2) (dv 3)) (aC (dv 1) (aC (DO.val (iV (aC (dv 4) aS))) aS)))) aS))))))
def QD:T.d59.W P w base 6 N3:=
 T.d59.mkD Xa λb a=>
 h8 (bE (FY T) a (aC (DO.val (iV (aC (eJ (aC (eJ (aC eE (aC eE aS))) (aC (eJ (aC eE (aC eE aS))) aS))) (aC (eJ (aC (eJ (aC eE (aC eE aS))) (aC (dv 1) aS))) (aC (eJ (aC (eJ (aC eE (aC eE aS))) (aC (bE (BF T) a (aC (dv 1) (aC (dv 0) aS))) aS))) aS))))) aS))
def XH:T.d60.W P w base 7 Iu:=
 T.d60.mkD Re λb a=>
 aM (pR b (iV aS))
 (aM (gA bZ rfl (Al T.b1 (aC (NA a (dv 2) (bE (xZ T) a (aC (dv 0) aS))) (aC (NA a (dv 2) (bE (tK T) a (aC (dv 0) aS))) aS))) (cI b) (aM (cG b (bE (QD T) a (aC (fY (b_ 1) (b_ 4)) (aC (fY (b_ 1) (d_ gB (b_ 4) bO)) aS))))
 (cZ (pC 3 (eJ (aC (dv 4) (aC (eJ (aC (dv 5) (aC (bE (FZ T) a (aC (jn 0) (aC (bE (BF T) a (aC (jn 0) (aC (fY (b_ 1) (d_ gB (b_ 4) bO)) aS))) aS))) aS))) aS)))))))
 (cZ (wE 3 (vU (dv 3)))))
def XI:T.d61.W P w base 4 N0:=
 T.d61.mkD QL λb a=>
 h8 (bE (BF T) a (aC (jn 0) (aC (jn 0) aS)))
def QF:T.d62.W P w base 6 N4:=
 T.d62.mkD Xb λb a=>
 h8 (bE (FY T) a (aC (DO.val (iV (aC (eJ (aC (eJ (aC eE (aC eE aS))) (aC (eJ (aC eE (aC eE aS))) aS))) (aC (eJ (aC (eJ (aC eE (aC eE aS))) (aC (dv 0) aS))) (aC (eJ (aC (eJ (aC eE (aC eE aS))) (aC (dv 1) aS))) aS))))) aS))
def XJ:T.d63.W P w base 7 Iy:=
 T.d63.mkD Rg λb a=>
 aM (pR b (iV aS))
 (aM (gA bZ rfl (Al T.b1 (aC (NA a (dv 2) (bE (tK T) a (aC (dv 0) aS))) (aC (NA a (dv 2) (bE (xZ T) a (aC (dv 0) aS))) aS))) (cI b) (aM (cG b (bE (QF T) a (aC (fY (b_ 1) (b_ 4)) (aC (fY (b_ 1) (d_ gB (b_ 4) bO)) aS))))
 (cZ (pC 3 (eJ (aC (dv 4) (aC (eJ (aC (dv 5) (aC (bE (FZ T) a (aC (jn 0) (aC (jn 0) aS))) aS))) aS)))))))
 (cZ (wE 3 (vU (dv 3)))))
def DQ:T.d64.W P w base 4 N5:=
 T.d64.mkD NX λb a=>
 h8 (bE (BF T) a (aC (jn 0) (aC (jn 0) aS)))
def Wi:T.d65.W P w base 8 Iz:=
 T.d65.mkD Ri λb a=>
 aM (cG b (Ug a T.b15 rfl (eb (DO.val (rT ["number","lean"] 2 [] (Zl T.b14 (dv 1)) (λc C s H d=>mV rfl (dQ (cI RU) (dQ (cI RU) kD))) (λc C s H d=>eJ (aC (dv 1) (aC (dv 0) aS))))))))
 (aM (pR b (iV aS))
 (aM (pR b (iV aS))
 (aM (pR b (iV aS))
 (aM (gA bZ rfl (fT (dv 0)) (cI b) (aM (cG b (bE (XI T) a (aC (dv 6) aS)))
 (aM (gO (iP (bE (Wh T) a (aC (bE (DQ T) a (aC (dv 6) aS)) (aC (dv 7) aS)))) (cZ (cG b (bE (DQ T) a (aC (dv 6) aS)))) eF)
 (aM (HH 3 (bE (Gr T) a (aC (dv 6) (aC (dv 7) (aC (dv 2) aS)))))
 (aM (HH 4 (bE (XJ T) a (aC (dv 6) (aC (dv 1) (aC (dv 2) aS)))))
 (cZ (HH 5 (bE (XH T) a (aC (dv 6) (aC (dv 1) (aC (dv 2) aS)))))))))))
 (cZ (wE 3 (wE 4 (wE 5 (vU (eJ (aC (dv 3) (aC (dv 4) (aC (dv 5) aS)))))))))))))
include W in
def P7{f:Addr}{c:mB}(d:wz K "law" "law" (top 75) f c):qa P w K mg base sw 9 f c ["_law_script"] (wm K (Pc 63)):=
 S1 d B4 Kp λb a=>
 aM (cG b (bE (TY T) a (aC (dv 0) (aC eE aS))))
 (aM (cG b (fY (eb (DO.val (iV (aC eE (aC (dW gB bO (d_ jN (c_ 1) (d_ CS bO bO))) aS))))) (d_ jN (c_ 1) bO)))
 (aM (cG b (eJ (aC (dW fG (d_ jN (c_ 1) bO) bO) (aC (fY (eb (DO.val (iV (aC eE (aC (dW fG (d_ jN (c_ 1) (d_ gB (d_ cX bO (d_ CS bO bO)) bO)) (d_ CS bO bO)) aS))))) (d_ jN (d_ lO (c_ 1) bO) bO)) aS))))
 (aM (cG b (bE (RY T) a (aC (bE (IY T) a (aC (dv 1) (aC eE (aC eE aS)))) (aC (dv 3) (aC (dv 2) aS)))))
 (aM (cG b (bE (Gq T) a (aC (dv 4) aS)))
 (aM (cG b (DO.val (iV aS)))
 (aM (gO (eV vW (d_ jN (d_ lO (c_ 1) bO) bO) bO) (cZ (cG b (bE (Gq T) a (aC (bE (RY T) a (aC (bE (IY T) a (aC (tG (b_ 1) (tI eE) tH) (aC eE (aC eE aS)))) (aC (dv 3) (aC (dv 2) aS)))) aS)))) eF)
 (aM (cG b (bE (Gs T W) a (aC (dv 5) (aC (dv 6) aS))))
 (aM (cG b (DO.val (iV (aC (Ak T.b8 (b_ 5)) (aC (Ak T.b8 (b_ 7)) aS)))))
 (aM (cG b (bE (Wi T) a (aC (jn 8) (aC (jn 8) aS))))
 (aM (cG b (bE (QB T) a (aC (dv 9) (aC (dv 7) aS))))
 (aM (gO (DW.tst (lS (eV Wc (b_ 10) (eb uL)) (lS (eV (S7 a) (b_ 8) (eb (DO.val (iV (aC (dv 5) (aC (dv 7) aS)))))) (qF (iZ (iP (bE (XE T) a (aC (dv 9) (aC (dv 5) (aC (dv 7) aS)))))))))) (h8 jT) eF)
 (aM (gO (iZ (iP (bE (XF T) a (aC (jn 9) (aC (dv 7) (aC (dW qT (eb (DO.val (Fi (b_ 0) tH (tI eE)))) (eb (DO.val (iV (aC (jn 1) aS))))) aS)))))) (h8 jT) eF)
 (aM (cG b (bE (IX T) a (aC (dv 10) aS)))
 (aM (cG b (bE (LC T) a (aC (dv 5) aS)))
 (aM (gO (eV vX (d_ cX (c_ 11) (c_ 12)) (d_ cX (c_ 12) (c_ 11))) (h8 jT) eF)
 (aM (Cg (bE (ZH T) a (aC (dv 4) aS)) (mV rfl (dQ (cI b) (dQ (cI b) kD))))
 (aM (gA bZ rfl (fT (dW qT (eb (DO.val (Fi (b_ 0) tH (tI eE)))) (eb (DO.val (iV (aC (jn 1) aS)))))) (cI b) (aM (cG b (bE (ZG T) a (aC (dv 15) (aC (dv 13) (aC (dv 14) aS)))))
 (aM (cG b (bE (Gp T) a (aC (dv 4) (aC (dv 16) aS))))
 (cZ (gO (eV Nx (b_ 17) (eb uL)) (aM (cG b (bE (NR T) a (aC (dv 10) (aC (dv 16) (aC jT aS)))))
 (cZ (gO (DW.tst (Ch (eV Nx (b_ 18) (eb uL)) (UL (eV (Wf a) (b_ 18) (b_ 17))))) (h8 jT) eF))) eF)))))
 (h8 jT))))))))))))))))))
def law_fn{f:Addr}{a:mB}(b:ZX K mg base)(d:wz K "law" "law" (top 75) f a):qa P w K mg base sw 9 f a ["_law_script"] (wm K (Pc 63)):=by
 let⟨c,t,e⟩:=T.t0;show P7 T (b "rising" _ _ μ e) d
end
end K32
end
end L2.R2
end
local macro_rules | `(#print $s:str)=>do
 let l:=s.getString.toList;return Lean.mkNullNode (<-(List.range (l.length/10)).mapM λi=>return (<-`(theorem $(Lean.mkIdent (.mkSimple s!"tw{((l.drop (10*i)).take 10).foldl (λa c=>a*92+c.toNat-35) 0}")):ident:True:=⟨⟩)).raw).toArray
namespace PySem.W.Fast
#print"?dv[oOOXy\\,n4I%zdnf,$R>d-0x))nI,jKKXYGo>1ioac.W5.0)^H2A\\d@e#0WZB`sW*?T,JV{$rz#{`*:Mj&JrVnx'~V^OX^OT.3Fn^yK$IA62{ieF=?@*UAW|.)sD-uw3r({gZQ]Sr&'V(?T=N64BE~W2}>_l[2hHd>H)wiV9:%7q2/'EDGTdC3hL3Rv+)y2>ljb<~3k_]t9E+0J=1~-n<_k1.5:wU@3{um~3Bpi2<q`+j$5Vg9]\\:eq5)cK5~i]r03<_sNamW%1?Rk]N't4}=?@&P3<GfY<BeZGW}{B0R'*jiO_aHUQ1s3SWVne$hEWa|G^=nXu,Xes-9U#V|;@**Zu=ApU/v#5*eI/@B$cP2,g*L`@GSPVu9>ISw76?h@7a{f5(_Dm%)7zZy?50iw7(&lSD)sMS-U4x6$R+Kd/|3Q,<&=P{.T0$@).:HKfj,-(1c%6tGqbEH1$6)RkmKSLD0,%@O=]Ik=fQ;Q2TF\\$FBPPNQxg<+'&:X|,VF17Dl)H^w=04bI3T^3Q\\6-16'yGE/:7.9)0z6v^,'SlC'@%vjVXPS6(aAHe)P9[G*lLU%q/,~.1t-MJdE'PHdC'9(4mc.D;9MxOzkxo,W,hm[jxf}*So3Wr'oQg@rJ,wqy>_u#r&B3qNJc+0|$iB$kMjt2^<nv%BOy;%<Tz#\\F=vp01\\662v}VU':nD]PiwuJ0EnokX^jZ%EOq:VZ#r(f0eiK%-+@1fE_W(;cDP'1E)~UW%$/@D-S2g{@.|vr559%/S?P}F)$5[22:h5K9Yn.{aT~dRD2<''U?aBR?C$1m@@Sn'=`mCA+iHB/'T+,(XVlC'.gySO697wH;N-_CdRAU|)v,v08l)/Q)_`bG/cH%%Ce=-iGyBX?#m+@uky`6IF[Fc}`uWryA+<[+@S1-TDa7cfKho4t({3]b5CrUF-,V=6G&_vIEf6@8:2`g&E~O#lH1}-0Dy%^f~qE;==*wBDC;MeXISG)laT;Tp2N/[V/z@`d:mA%;m~qF_F9i1^h*kLdI&oD@dnzbo$x3'K>_I<B1tQ1zed`i7(m+BZ)]0am>y@BUe}OI+,d@6i,e+K;+t]M6a-e4X+@4?j1N:qQFz$poff';R8O,wZq:X\\_%i$s=r<u?FH$Sr9SI*yD=P|rh]um`/,m7S`]GoDi:tE+/FF1_]*iJ]Jhc}+;Iw%*^3vN[$,Dfuj=BK-qBAf>pLbe5T*{sr)eISU^>vS*f%2:Dm7t4j)YjUJ73`<4BH)E[_?z`4aYKfZU?,|Uaong@CA-TmvcXRs&7Xvph;@]@24da&U&2`1VAXE6'J\\d3;23J1N.waci,uc]7bHoie0'sOHurn8$Hg*0*_E70[=VwKDH<$Q:6(V}z20cLn({{N16ws<h/okoT<'_,4*b3LI+D&OW916;~9s}8?5?c{fxjn`(4a6:z,l4`M1oaB&/;rA,.XolKgPh&T/j6#eL)v/vAC(-_%V2(x'O7YW4bm|6(~SV~Lt5zq)S6wvr1q_Y4{04G\\rBs6&6A'HzNV.%-vqaY'.W{4+93l6_um3:;(&yBu<4.l7&?YA'*:_JC.D=A~$Lr%;erR_7L_&l3j`$1`JJplDCm89#lWb<0XW\\CF0H76)@XT^.'2n:()l]ZX|afJ,w0Z\\tv.Da1.TC(lfv&|5:Q0j79H(H@aF/5HymaI<jaoKsAv#o-[{#K12M^.7pJXrS9;poHr-1orq,R4,bEvP)j,Bp@zX*O-2fF_;%f*/fv7'C.{E2vaTPx&$)%V\\*pNnmAhtfW*GbLq6p7d/&/2@(9y)E-k_&UXB)Kk({kLc~>|9[<,WT<V8lYMnOZA+QInGgD8ekoQ5sJFoP$rt_:f1XhZ6{y`<MIu3JH@f5+hy'w$#(,+F?gr0@_Aum+^H$[V$bOo2I~$2o]C-q4D|j}u[{WL$X&$dKpk6R0d3/zM.oN3:hQ*E@zs4d?Dgo'ns>$c&)fU0s'YH'/-{*~MKkk?,R#>zG;wA>IqP0^4pS)U>b-$=gx*?`Ah95U`t`J/3aW*-AT{L<F9~Bx/(#j?D7xlIiJ:0@CzP1R3&&%;;*}||+,t8?7{d1VkQad<@*bu0@7</>8KNc5vm_N?F$2J;BfITmFe7a\\T^fRy$=:EnqE7(T85S8e_KSsz)QA>T<6'@/-BO<qN,a-IC&(b\\_En9Z#&)i={da)lD*?*O4=xm;9_ShO|OHOM6z0-tkHMrh1}df4iWedj>h:0x}31h,=FT{r6XO3p)SmrJQA5>u:Lacc+Q{}8:/9VR(/e)#5E<j5p9+t{*]LRZlLGzhDstsM<UAh~4Wpu7Iv'fg2SJA70wEP4$Jx?u|-0nZ+/@2gPw)-V+&A4vR:j*9F}NMJb7]lS;Fc{/4{+WL;2yN6IXeOK21]&,rz%@S+r,0#sQpz~C<6'Ju9.<87BziX(?13j71Urpo%_t.5oGy*8Hr}W5gvi30$8J/3bg/<xT0pH2Xqt/W=5fJ2I5CXdgQB_2EQobOi>2p1UBqX+Ie|A$GyZdky;ro0pGc6k~MD}0eK~seB^t//nz^l[ZZQv/?gR]R*v?g.RlC07erf%*sIX_KFYDS'hsR`H+Czf'Vkf=2;c\\N&{jZI8#[?lJ'kI3x~-8GI{IY`=W4~`IZ==iTv)&-GL?My=R{xVG(x`}glIb,EZ1zkh4h`#D5jtgw9.-dD-sj7aQw=PCC}'dZ-jC?BXd=JdHwiDB'r73pb:hZA\\1A=mw.Y9AS_UE:@v$uA=NUx)*^vZ@*b+kJ4mtd?rFQGmUV,7>Rr&nT2Z.Y>MR~i,t5G@>Ktfc}DnNq>>]5GMAj*K%`=[xkVnwD%\\bcMo|7',;?mV3TI4Sa9ejHv)Gh.5945xt/|vKw83qtZdBO.(HG9`_DUI`p2,X~}{i,>W2B3=IJ>nRx@>1t`f0)_s@T}1k:yvj<6wMWRjr0k63mFFAO05Q01kD*-hq?t:3mOEIB??sX.u{n&'T{qF.J5nfh(wLs+Vk#i`#e=%+P|}@UTf11F<CyVckou$@di7QSF_i^?HISK3#R(`?6C1J8}}Q+=-Txn}<ITJ$;(o6ailah:LtSab:4qED5)'v3pt2|6y)l20DYhD(|a~@{2+Q*4~%<pmUJ'H7E?v}0c:6Y.xh5b4]nqi$']p$b]Yp#-+DJZ,X>~,*U>hN5UnfqFvO=H=?GB)<~O10S~)^s.6_d<\\P%)B'|/>/>l|z;G[>ookR/>/@%sT<zG/l_33nNUEQC\\h"
end PySem.W.Fast
end
open PySem PySem.W PyProof.Rows
set_option maxRecDepth 100000 in
set_option maxHeartbeats 0 in
theorem PySem.Challenge.cw_recut_k32_parts_of_bands_holds : PySem.Challenge.rw_recut_k32_parts_of_bands.Holds := by
 w_on;o_law;k_head;(case hw=>w_witness2)
 k_fill
 refine L2.R2.walk_lawT (l:=PySem.Challenge.rw_recut_k32_parts_of_bands) (k:=9) (x:="_law_script") rfl rfl ⟨rfl,by decide,by decide⟩ (λw h Y=>PySem.W.km_in_of Y) rfl ?L ?F
 case L =>
  intro w
  refine' L2.R2.lamIs ?q1 ?q2 ?q3
  (case q1=>exact .inl ⟨_,rfl⟩)
  (case q2=>refine' .inr ?_;k_is)
  (case q3=>refine' .inr ?_;k_is)
 case F =>
  intro w mg h KX G;have T:L2.R2.K32.TopF (L2.KOf KX) mg:=by
   dsimp only[L2.KOf];constructor
   case t0 =>
    refine' ⟨_,_,L2.R2.tab_mk ?a ?l ?te ?tl ?tv⟩
    (case a=>k_is)
    (case l=>k_is)
    (case te=>exact rfl)
    (case tl=>k_is)
    (case tv=>exact rfl)
   all_goals first | (refine PySem.W.mg_none_of KX G ?z;(case z=>k_is)) | (refine' L2.R2.def_mk KX G ?a ?l ?c ?k ?b;(case a=>k_is);(case l=>k_is);(case c=>k_is);(case k=>k_is);(case b=>first | exact L2.R2.bind1 (λ_=>rfl) | exact L2.R2.bind2 (λ_ _=>rfl) | exact L2.R2.bind3 (λ_ _ _=>rfl)))
  exact T.d66.okLT λbase K' f fd z tw Fu=>L2.R2.K32.law_fn (T.hid z) tw Fu
