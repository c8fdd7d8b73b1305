import PyProof.Rows.All
import Wide.All
import OpenK.AllK
import Wide.FinOn
import Lean
import PyProof.EqAt
import PyProof.EqKinds
import PyProof.TupleCall
import PySem.Challenge.RW_recut_k39_whole_wedges_left
set_option Elab.async false
set_option linter.all false
set_option maxRecDepth 100000
set_option maxHeartbeats 4000000
noncomputable section
open Array renaming append_assoc->wO,append_empty->rH,forIn_toList->IW,getD->fR,getD_eq_getD_getElem?->eK,getElem?_eq_getElem->cD,getElem?_eq_none->sD,getElem?_eq_some_iff->lI,getElem?_toList->tK,length_toList->bX,mem_toList_iff->pH,perm_iff_toList_perm->lJ,replicate->QP,size_map->SX,toList_append->gQ,toList_extract->EA,toList_inj->NA,toList_push->KH,toList_zip->NB
open Array.Perm renaming refl->oG
open Bool renaming and_eq_true->jY,and_false->wP,and_true->oR,beq_eq_decide_eq->oU,decide_and->oH,eq_false_iff->KI,eq_iff_iff->qT,false_and->wQ,false_eq_true->aR,false_ne_true->bR,false_or->WX,not_false->pI,not_true->dD,or_eq_true->vE,or_false->HV
open Break.runK renaming match_1->gY
open Classical renaming byContradiction->iH
open False renaming elim->mV
open ForInStep renaming done->kJ,yield->kR
open Int renaming add_zero->KL,dvd_coe_gcd->QQ,dvd_mul_left->zW,dvd_trans->kE,ediv_mul_cancel->HG,eq_of_mul_eq_mul_left->qJ,eq_of_mul_eq_mul_right->dZ,fdiv_eq_ediv_of_nonneg->eM,fmod_eq_emod_of_nonneg->pJ,gcd->dW,gcd_dvd_left->zX,gcd_dvd_right->sG,gcd_pos_of_ne_zero_left->vW,lcm->ZZ,le_antisymm->QR,le_of_dvd->uH,le_of_lt->lB,le_refl->rV,le_trans->KM,lt_iff_le_and_ne->EC,lt_irrefl->oS,lt_of_le_of_lt->rJ,lt_or_eq_of_le->JB,lt_trichotomy->xZ,mul_assoc->WY,mul_comm->lD,mul_ediv_cancel'->uP,mul_ediv_cancel_left->yZ,mul_fdiv_cancel_left->zA,mul_le_mul_of_nonneg_right->gG,mul_lt_mul_of_pos_left->lP,mul_nonpos_of_nonneg_of_nonpos->rK,mul_pos->fT,mul_zero->KN,natAbs_dvd_natAbs->jV,natAbs_mul->jG,natAbs_neg->TC,natCast_mul->QS,natCast_nonneg->wT,ne_of_gt->KO,neg_lt_neg_iff->JC,one_dvd->iZ,pos_of_mul_pos_left->kN,sub_pos_of_lt->KP,toNat_natCast->gU,zero_mul->BK
open List renaming Nodup->gZ,all_eq_true->tW,any_cons->zB,append_assoc->cL,append_inj_left'->tL,append_inj_right'->jH,append_nil->bU,append_of_mem->JD,concat_eq_append->DK,cons_append->bZ,count_append->sJ,dropLast_concat->pK,drop_drop->wU,drop_eq_getElem_cons->jT,drop_length->NI,drop_of_length_le->jI,drop_zero->EG,eq_nil_of_length_eq_zero->nR,eq_nil_or_concat->fS,ext_getElem->NJ,ext_getElem?->sK,filterMap_append->DL,filterMap_cons->eQ,filter_append->eO,filter_congr->yB,filter_cons->nE,filter_cons_of_neg->rW,filter_cons_of_pos->rX,filter_eq_nil_iff->BM,filter_map->oJ,filter_sublist->HH,find?_cons->oM,find?_eq_none->JE,flatMap_append->gD,flatMap_cons->dA,flatMap_def->NK,flatten_append->qK,flatten_cons->jJ,foldl_append->sL,foldl_cons->mJ,forIn_cons->QT,getD_eq_getElem?_getD->dF,getElem?_append_left->eX,getElem?_append_right->fD,getElem?_cons_succ->aB,getElem?_cons_zero->aA,getElem?_drop->JF,getElem?_eq_getElem->aL,getElem?_eq_none->gC,getElem?_eq_some_iff->cE,getElem?_map->bJ,getElem?_range->kX,getElem?_replicate->jA,getElem?_reverse->tM,getElem?_set_ne->hV,getElem?_set_self->gK,getElem?_toArray->tN,getElem_drop->KR,getElem_map->NL,getElem_mem->qB,getElem_of_mem->gE,length->iM,length_append->aU,length_cons->aQ,length_drop->fO,length_dropLast->EH,length_eq_zero_iff->rY,length_erase_of_mem->qQ,length_filter_le->lY,length_map->aG,length_nil->cY,length_pos_of_mem->sM,length_range->eI,length_replicate->lZ,length_reverse->fV,length_singleton->jW,length_take->gH,length_zip->QU,lookup_cons->kA,map->pL,map_append->aX,map_congr_left->kY,map_cons->aM,map_eq_cons_iff->EI,map_id->pM,map_map->cP,map_nil->cF,map_reverse->nF,map_snd_zip->NM,map_take->WZ,mem_append->bV,mem_append_left->dY,mem_append_right->bI,mem_cons->aP,mem_cons_of_mem->bH,mem_cons_self->cT,mem_erase_of_ne->uQ,mem_filter->dU,mem_filterMap->nY,mem_flatMap->lH,mem_flatten->tX,mem_map->bK,mem_map_of_mem->eU,mem_of_getElem?->bA,mem_of_mem_drop->uR,mem_of_mem_take->uS,mem_range->cM,mem_reverse->gO,mem_singleton->bE,nil_append->cC,nodup_append->sN,nodup_cons->iB,nodup_nil->EJ,nodup_range->NN,not_mem_nil->dN,of_mem_zip->mK,pairwise_append->dI,pairwise_cons->cG,pairwise_iff_getElem->dJ,pairwise_lt_range->sO,pairwise_map->fP,pairwise_reverse->gS,pairwise_singleton->kP,perm_append_comm->iQ,perm_ext_iff_of_nodup->wV,perm_middle->zY,range->bT,range_succ->eE,range_succ_eq_map->BN,replicate->eY,reverse_append->HI,reverse_cons->pB,reverse_perm->yC,set_cons_succ->aK,set_cons_zero->aI,singleton_append->oV,size_toArray->aY,take_add->XA,take_append_drop->iR,take_length->kB,take_nil->XB,take_of_length_le->eF,take_sublist->KS,take_succ->hX,take_succ_cons->HJ,take_zero->pN,toArray->jK,zip->wW,zipIdx_cons->NO,zipWith->gL,zipWith_cons_cons->jL,zip_cons_cons->hZ
open List.Pairwise renaming map->yA,nil->mN,sublist->lX
open List.Perm renaming append->NH,append_left->gB,append_right->sI,eq_of_pairwise->qP,refl->EF,swap->TF
open List.Sublist renaming refl->KQ
open List.cons renaming inj->uI,injEq->CJ
open Nat renaming Coprime->PF,eq_zero_or_pos->JG,gcd_comm->vY,gcd_zero_right->JH,le_add_right->zZ,le_antisymm->QW,le_mul_of_pos_right->rZ,le_of_dvd->HX,le_of_eq->KU,le_of_lt->kF,le_of_lt_succ->pD,le_refl->aS,le_succ->pQ,le_succ_of_le->sP,le_trans->dC,lt_irrefl->iC,lt_of_le_of_lt->rL,lt_of_lt_of_le->bF,lt_succ_of_lt->pE,lt_succ_self->AA,lt_trans->mO,lt_trichotomy->KW,min_eq_left->qU,min_eq_right->NQ,min_self->vZ,mod_lt->rM,mul_le_mul->wX,mul_le_mul_left->HL,ne_of_gt->lE,ne_of_lt->bO,not_lt->TH,not_lt_zero->qV,pow_le_pow_right->uT,strongRecOn->QX,sub_le_sub_right->EK,sub_zero->BO,succ_le_succ->AB,succ_ne_self->NR,succ_pos->KY,succ_pred_eq_of_pos->AC,zero_add->nZ,zero_le->dL
open Nat.Coprime renaming dvd_of_dvd_mul_left->mY
open Nat.succ renaming inj->sQ
open Option renaming bind_some->AD,getD_none->NS,getD_some->nG,map->TJ,map_eq_some_iff->fY,map_some->CK,toList_some->JJ
open Option.some renaming inj->dG,injEq->KZ
open Or renaming inl->gJ,inr->gX
open Prod renaming ext->oN,fst->Cg,snd->Ch
open Prod.mk renaming injEq->mW
open PyProof.Rows renaming args_list_sort->EO,args_sorted1->LH,assignInOrder_cons->xA,assignInOrder_nil->LI,boot_range->BU,callWith_builtin1->iE,callWith_type1->cN,entry_sorted->LV,get?_update_seq->vL,getElem?_bubble->RB,getElem?_mirror_all->HQ,getItem_tuple->XJ,kindOf->HM,kind_sorted->PX,listUpdate_at->zM,list_sort_plain->RH,mirror_perm->yH,plain_sorted->MM,seqEpoch_at->GG,slicePart_none->WN,slot_tuple_getitem->tJ,subscriptTail_builtinR->tD,wpS_bind->bS,wpS_forRange->iX,wpS_get->tI,wpS_lift->GN,wpS_modify->oF,wpS_mono->nP,wpS_pure->cR
open PyProof.Rows.IsTup renaming new->NG
open PyProof.Rows.KeyOrd renaming kle_antisymm->vR,kle_of_klt->dX,kle_refl->fI,kle_trans->cU,klt_of_kle_of_klt->qO
open PyProof.Rows.SortSt renaming mk'->TN
open PySem renaming Around->cV,Fin->XZ,FuncData->lM,Keyword->pA,Program->bP,Shared->aJ,Value->aF,World->cS,builtinLookup_eq_fast->mB,call_list_seq->XG,call_meets->BV,call_meetsIn->LJ,call_reversed_list->JN,codeAny_builtin->gF,codeAny_call_builtin->uU,codeAny_mono->oD,codeAny_of_tree->qX,concat_meets->LK,entryFor_of_tree->AO,evalPart_none->IB,intBits_le_iff->UT,isSubtype_stop->UU,isSubtype_type->xE,list_append->LC,mem_of_lookup->jR,noFill_tuple_add->OL,plainId_quiet->kH,rangeSize_one->XR,seq_tuple_add->XT,sizeLine_eq->fK,tupleKind_room_in1->xT,typeLookup_type->rF,weight_type_call_type->DV,wpAny_Call_Name_kw->eP,wpAny_Constant_int->KF,wpAny_Dict_empty->OY,wpAny_Name->CH,wpAny_askSetting->qG,wpAny_assign_Name->MV,wpAny_attempt->qS,wpAny_bind->aC,wpAny_bindName->WU,wpAny_call->KG,wpAny_callSpecial?_slot->kQ,wpAny_call_entry->iG,wpAny_comprehension_free->zQ,wpAny_dictEntries->yW,wpAny_dictEpoch->DH,wpAny_eqIsQuiet_tuple->DX,wpAny_execs_cons->OZ,wpAny_execs_nil->vO,wpAny_field->QO,wpAny_fieldsOf->xU,wpAny_forIn_list->uF,wpAny_getItem_list_slice->zR,wpAny_handled->XV,wpAny_holding->gI,wpAny_isInstance->uG,wpAny_isOneOf_keyiter->DY,wpAny_loadName_free->HU,wpAny_loadName_local->GI,wpAny_loadPart'->vP,wpAny_mono->gM,wpAny_newFunctionEnv->GJ,wpAny_newList->uO,wpAny_newObj_type->fQ,wpAny_newTuple->WV,wpAny_of_eq->kL,wpAny_passesOwn->mM,wpAny_pure->aO,wpAny_pyIter_enum->MW,wpAny_pyIter_list->yX,wpAny_pyIter_range->xV,wpAny_pyIter_rangeiter->oE,wpAny_pyIter_revIter->vD,wpAny_pyIter_slot->MX,wpAny_pyIter_zip->PB,wpAny_pyNext_range_end->tG,wpAny_pyNext_rev_end->GK,wpAny_pyNext_rev_item->DZ,wpAny_rule->rS,wpAny_runValue->WW,wpAny_seqItems->GL,wpAny_setEntries_of->vV,wpAny_setField->GM,wpAny_setState_of->jP,wpAny_specialOf->oQ,wpAny_standAt->IU,wpAny_storeSet_of->MY,wpAny_truthy_bool->tH,wpAny_typeNameOfWhole_keyiter->kM,wpAny_typeNameOf_keyiter->mX,wpAny_typeOf->wH,wpAny_updateSeq->rG
open PySem.Around renaming under_plain->IV,under_plainId->fN
open PySem.Builtin renaming divisionGoesByPylong->oI
open PySem.Builtin.Dict renaming addKeywords->yY,showsAll->DJ,updateFrom->zT
open PySem.Builtin.Dict_items renaming ownsTuple->vF
open PySem.Builtin.Int renaming intBits->HC
open PySem.Builtin.List renaming listExtendWith->jC,listItems->BH,listLengthHint->lA,listSameRef->mS,listTooLong->mT,listUpdate->rT
open PySem.Builtin.Range renaming rangeFitsLong->bY,rangeSize->dS,small->vQ
open PySem.Builtin.Slice renaming sliceAdjust->qH,sliceApplied->wR,slicePlaces->mF
open PySem.Builtin.Tuple renaming tupleExact->mU
open PySem.Calls renaming Name_function_global->wS,callWith_builtin->sE,call_function_entry->qI,evalArgs_plain->EB,spliced_cons->lK,spliced_nil->oY
open PySem.Code renaming quiet_builtin->IX
open PySem.Data renaming cell->NC,fields->xY
open PySem.F renaming args_dict_get_3->AE,args_tuple_add_2->zD,entry_dict_get->BQ,entry_extend_loop->xW,entry_tuple_add->AF,entry_type_call->AG,plainAttrs_dict->AH,plainAttrs_list->nH,plain_extend_loop->jU,plain_set_new->DM,slot_dict_get->tO,slot_dict_setdefault->vG,slot_list_append->zE,slot_tuple_add->BR,type_list_append->zF
open PySem.Heap renaming SameBut->qA,get?_push_of_some->aN,get?_push_size->bQ,get?_update_ne->HF,get?_update_other->eD,get?_update_self->gR,lt_size->aZ,size_push->nD,size_update->NF
open PySem.Heap.IsSliceOf renaming new->JA
open PySem.Heap.SameBut renaming update->kW
open PySem.IsL renaming update->NU
open PySem.IsRange renaming new->ED
open PySem.NameKind renaming cell->uJ,free->gP
open PySem.Obj renaming data_mapFields->JI,mapFields->HY,mapSeq->fA,putSet->pR
open PySem.Paired renaming length->zC
open PySem.PassesOwn renaming never->cI
open PySem.SeqAt renaming EqAt->BT,RcAt->wY
open PySem.SeqAt.EqAt renaming of_refs->JK,same->CM
open PySem.SetFound renaming there->TL
open PySem.SetTable renaming grown->TM
open PySem.SetTable.below renaming go->TV
open PySem.SetTable.layClean renaming free->uM
open PySem.SetTable.probe renaming go->Ez
open PySem.Shared renaming TypeIs->zG
open PySem.Str renaming ofString->gW
open PySem.Value renaming bool->JL,builtin->zH,int->AI,isInt->EN,isStrOf->XE,none->dO,ref->eG,str->NW,type->iK
open PySem.W renaming CodeHd->TK,Frag->aH,cellsFrom_some->BS,codeIn->nJ,envX->oA,findIn->EL,fnOf->mP,instObj->CL,kas_asc->yG,kas_bin->Ax,kas_count->uC,kas_desc->lT,kas_descPart->qD,kas_place->AS,kas_rev->GX,kas_sort->EZ,kas_tail3->wJ,kat_cons->Dx,kat_nil->Ay,keepIn->lQ,kia_one->gN,kitOne->lR,kitx_dict->LA,kitx_list->yD,kla_obj->vH,lookIn->EM,methodObj->yE,mg_of->XC,nsIn->jM,plainGet->NV,tabIn->fH,tabObj->sR
open PySem.Walks renaming range->PH
open PySem.pickOrder renaming go->ML
open Sum renaming inl->dR,inr->GP
open True renaming intro->oB
set_option compiler.extract_closed false
open Option renaming some→ψ,none→ξ
open Bool renaming true→ζ,false→χ
theorem ν {p:Prop} (h:p:=by lia):p:=h
theorem μ {p:Prop} (h:p:=by decide):p:=h
theorem η {p:Prop} (h:p:=by simp):p:=h
theorem δ {p:Prop} (h:p:=by grind):p:=h
theorem ε {p:Prop} (h:p:=by simp;lia):p:=h
theorem θ {p:Prop} (h:p:=by decide +kernel):p:=h
abbrev ι (α:Type):=List α
def υ:=@if_neg
def Ω:=@if_pos
def Ψ:=@absurd
def Φ:=@congrArg
abbrev Δ{α:Type}(p:PySem.Program)(w:PySem.World):=@PySem.wpAny α (PySem.model p w)
local macro_rules | `(tactic|walk_at "vis")=>`(tactic|first |exact gJ rfl |exact gX (gJ rfl) |exact gX (gX rfl) |exact gX rfl)
local macro_rules | `(tactic|walk_at "loc")=>`(tactic|first |exact .inl rfl |exact .inr rfl |assumption)
abbrev PySem.Shared.z(s:PySem.Shared):=s.heap.objs.size
section
local macro_rules | `(~~~$t)=>`(by simpa using $t)
local macro_rules | `(tactic|fail)=>`(tactic|dsimp only)
local macro_rules | `(tactic|erw[$t,*]$[$l]?)=>do
 let a<-t.getElems.mapM λr=>if r.raw[0].isNone then`(Lean.Parser.Tactic.simpLemma|$(⟨r.raw[1]⟩):term) else`(Lean.Parser.Tactic.simpLemma|<-$(⟨r.raw[1]⟩):term)
 `(tactic|simp only[$a,*]$[$l]?)
section
open List renaming toArray→mt
local macro_rules | `(#[$t,*])=>`(⟨$t,*⟩)
local macro_rules | `(tactic|show $t)=>`(tactic|first |refine $t)
local macro_rules | `(tactic|let⟨$p,*⟩:=$e)=>do
 let q<-p.getElems.mapM λr=>match r with
  |`($i:ident)=>`(Lean.Parser.Tactic.rcasesPatLo|$i:ident)
  |_=>`(Lean.Parser.Tactic.rcasesPatLo|_)
 `(tactic|obtain⟨$q,*⟩:=$e)
local macro_rules (kind:=Lean.Parser.Command.declaration) | s=>do
 unless s[0].getArgs.all (·.isNone)&&s[1][0].isToken "def"do Lean.Macro.throwUnsupported
 return (<-`(noncomputable def x:=0)).raw.setArg 1 s[1]
namespace L2
open PySem PySem.Spec PyProof.Rows
abbrev ij:=Sum Int Str
def VA:ij->aF->Bool
 | .inl k,v=>EN k v
 | .inr x,v=>XE x v
def ce(w:cS):ij->Int
 | .inl k=>hashInt k
 | .inr x=>hashStr w x
theorem lG:∀{k:ij}{v:aF},VA k v=ζ->(∃i t,k=dR i/\v=AI i t)\/(∃x t,k=GP x/\v=NW x t)
 | .inl i,v,h=>by
  let⟨t,e⟩:=Value.isInt_shape (k:=i) (v:=v) h;show .inl #[i,t,rfl,e]
 | .inr x,v,h=>by
  let⟨t,e⟩:=Value.isStrOf_shape (x:=x) (v:=v) h;show .inr #[x,t,rfl,e]
def Ob(i:Int)(t:Tok):VA (.inl i) (.int i t)=ζ:=by simp[VA,EN]
def Oc(x:Str)(t:Tok):VA (.inr x) (.str x t)=ζ:=by simp[VA,XE]
def K0(a b:Int):decide ((dR a:ij)=dR b)=(a == b):=by
 by_cases e:a=b
 ·subst e;simp
 ·have h:¬(dR a:ij)=dR b:=λq=>e (Sum.inl.inj q);rw[decide_eq_false h];show(beq_eq_false_iff_ne.mpr e).symm
def K4(a b:Str):decide ((GP a:ij)=GP b)=decide (a=b):=by
 by_cases e:a=b
 ·subst e;simp
 ·have h:¬(GP a:ij)=GP b:=λq=>e (Sum.inr.inj q);rw[decide_eq_false h,decide_eq_false e]
def K1(a:Int)(b:Str):decide ((dR a:ij)=GP b)=χ:=decide_eq_false (λq=>nomatch q)
def K3(a:Str)(b:Int):decide ((GP a:ij)=dR b)=χ:=decide_eq_false (λq=>nomatch q)
def gA(prog:bP)(w:cS):PySem.KeyKind prog w ij where
 is:=VA
 hash:=ce w
 inj:=λv a b g f=>by
  rcases lG g with⟨i,t,rfl,rfl⟩ | ⟨x,t,rfl,rfl⟩
  ·rcases lG f with⟨j,u,rfl,e⟩ | ⟨y,u,rfl,e⟩
   ·injection e with c _;rw[c]
   ·show nomatch e
  ·rcases lG f with⟨j,u,rfl,e⟩ | ⟨y,u,rfl,e⟩
   ·show nomatch e
   ·injection e with c _;rw[c]
 byValue:=λk v h=>by
  rcases lG h with⟨i,t,rfl,rfl⟩ | ⟨x,t,rfl,rfl⟩ <;> rfl
 pyHash:=λd h=>by
  rcases lG d with⟨i,t,rfl,rfl⟩ | ⟨x,t,rfl,rfl⟩
  ·show wpAny_pyHash_int h
  ·show wpAny_pyHash_str h
 eqBool:=λl d h=>by
  rcases lG l with⟨i,t,rfl,rfl⟩ | ⟨x,t,rfl,rfl⟩
  ·rcases lG d with⟨j,u,rfl,rfl⟩ | ⟨y,u,rfl,rfl⟩
   ·rw[K0] at h;show wpAny_eqBool_int h
   ·rw[K1] at h;show SeqAt.EqAt.int_str i t y u _ _ _ _ h
  ·rcases lG d with⟨j,u,rfl,rfl⟩ | ⟨y,u,rfl,rfl⟩
   ·rw[K3] at h;show SeqAt.EqAt.str_int x t j u _ _ _ _ h
   ·rw[K4] at h;show wpAny_eqBool_str h
 «strs»:=λk x t v h=>by
  rcases lG h with⟨i,u,rfl,e⟩ | ⟨y,u,rfl,e⟩
  ·show nomatch e
  ·injection e with c _;subst c;cases v <;> rfl
def Ed(prog:bP)(w:cS)(i:Int)(t:Tok):(gA prog w).is (.inl i) (.int i t)=ζ:=Ob i t
def Ee(prog:bP)(w:cS)(x:Str)(t:Tok):(gA prog w).is (.inr x) (.str x t)=ζ:=Oc x t
inductive V where
 |non |bl (b:Bool) |int (i:Int) |str (x:Str) |byt (b:Array UInt8) |flt (b:UInt64) |ref (a:Addr) |ty (n:String)
 deriving DecidableEq
def RelV:V->aF->Prop
 | .non,u=>u=dO
 | .bl b,u=>u=JL b
 | .int i,u=>∃t,u=AI i t
 | .str x,u=>∃t,u=NW x t
 | .byt b,u=>∃t,u=Value.bytes b t
 | .flt b,u=>∃t,u=Value.float b t
 | .ref a,u=>u=eG a
 | .ty n,u=>u=iK n
abbrev c6:ι V->ι aF->Prop:=Paired RelV
def c6.length(r:c6 xs us):xs.length=us.length:=zC r
theorem c6.get:∀{xs:ι V}{us:ι aF}{i:Nat}{x:V},c6 xs us->xs[i]?=ψ x->∃u,us[i]?=ψ u/\RelV x u
 |_,_,_,_,.nil,e=>by simp at e
 |_,_,0,_,.cons r _,e=>by simp at e;subst e;show#[_,rfl,r]
 |_,_,i+1,x,.cons _ t,e=>by
  let⟨u,a,b⟩:=c6.get (i:=i) (x:=x) t (~~~e);show#[u,~~~a,b]
theorem c6.append:∀{xs ys:ι V}{us ws:ι aF},c6 xs us->c6 ys ws->c6 (xs++ys) (us++ws)
 |_,_,_,_,.nil,s=>s
 |_,_,_,_,.cons r t,s=>.cons r (c6.append t s)
theorem c6.take:∀{xs:ι V}{us:ι aF}(n:Nat),c6 xs us->c6 (xs.take n) (us.take n)
 |_,_,0,_=>.nil
 |_,_,_+1,.nil=>.nil
 |_,_,n+1,.cons r t=>.cons r (c6.take n t)
theorem c6.drop:∀{xs:ι V}{us:ι aF}(n:Nat),c6 xs us->c6 (xs.drop n) (us.drop n)
 |_,_,0,r=>r
 |_,_,_+1,.nil=>.nil
 |_,_,n+1,.cons _ t=>c6.drop n t
def m6:Option V->Option aF->Prop
 |some v,ψ u=>RelV v u
 |none,ξ=>True
 |_,_=>False
def KV{κ:Type}:ι (κ×V)->ι (κ×aF)->Prop:=Paired λ(p:κ×V) (q:κ×aF)=>p.1=q.1/\RelV p.2 q.2
def kV:ij->V
 | .inl i=>.int i
 | .inr x=>.str x
inductive HO where
  |lst (xs:List V)
  |tup (xs:List V)
  |dK (kvs:List (ij×V)) |dT (kvs:List (List ij×V))
  |set (S:Int->Bool) (n:Nat)
  |ins (C dx:Addr) (fs:List (Str×V))
  |own (x:Addr)
  |xd (fs:List (Str×V))
  |met (f x:Addr)
  |rng (lo hi:Int)
  |frz (o:Obj) (u:HO)
  |tbl (ps:Array aF)
  |ext (φ:Heap->Prop)
abbrev Hp:=Addr->Option HO
def f6(H:Hp)(a:Addr)(o:HO):Hp:=λb=>if b=a then ψ o else H b
def eV:f6 H a o a=ψ o:=by unfold f6;rw[Ω rfl]
def cQ(h:b≠a):f6 H a o b=H b:=by unfold f6;rw[υ h]
def W2{H:Hp}(h:H a=ψ o)(h':H b=ψ u)(d:o≠u):a≠b:=by
 intro e;subst e;rw[h] at h';show d (dG h')
def cX{H:Hp}(h:H a=ψ o)(h':H b=ξ):a≠b:=by
 intro e;subst e;rw[h] at h';cases h'
section
variable(P:bP)(w:cS)
def gw(H:Hp)(h:Heap)(a:Addr):HO->Prop
 | .lst e=>e.length<=sizeLine/\∃(c:List aF)(n:Nat),c6 e c/\h.get? a=ψ {cls:=.type "list",data:=.seq c.toArray n}
 | .tup e=>e.length<=sizeLine/\∃c:List aF,c6 e c/\IsTup h a c.toArray
 | .dK d=>d.length<=sizeLine/\(a == sysModules)=χ/\∃k,KV d k/\h.DictOf (gA P w) a k
 | .dT d=>d.length<=sizeLine/\(a == sysModules)=χ/\∃e:List (List ij×Addr×aF),
   Paired (λ(p:ι ij×V) (q:ι ij×Addr×aF)=>p.1=q.1/\H q.2.1=ψ (.tup (p.1.map kV))/\RelV p.2 q.2.2) d e /\
   ∃o l y,h.get? a=ψ o/\o.ExactDict/\o.data = .dict l y/\l.toList=e.map (entryOfKey (tupleKind (gA P w)))/\(e.map (·.1)).Nodup
 | .set S n=>h.SetOf (intKind P w) a S n
 | .ins C j i=>H j=ψ (.own a)/\i.length<=1000/\j≠a/\h.get? a=ψ (CL C j) /\
   ∃g,h.Ns1 j g/\(∀f,m6 (i.lookup f) (g f))/\PySem.Within g (i.map (·.1))
 | .own _=>∃o,h.get? a=ψ o
 | .xd i=>∃g,h.Ns1 a g/\∀f,m6 (i.lookup f) (g f)
 | .rng lo z=>∃t u v,h.get? a=ψ {cls:=.type "range",data:=.fields (mt [.int lo t,.int z u,.int 1 v])}
 | .frz o u=>h.get? a=ψ o/\gw H h a u
 | .tbl A=>h.get? a=ψ {cls:=.none,data:=.fields A}
 | .met f x=>h.get? a=ψ (yE (.ref f) (.ref x))
 | .ext b=>b h/\(∃o,h.get? a=ψ o)/\∀m s:Heap,b m->(∀o,m.get? a=ψ o->s.get? a=ψ o)->b s
def ls(H:Hp)(h:Heap):Prop:=∀a o,H a=ψ o->gw P w H h a o
end
section
variable{a:Addr}
def gw.lt(x:gw P w H h a o):a<h.objs.size:=by
 cases o with
 |lst d=>let⟨_,_,_,_,e⟩:=x;show aZ e
 |tup d=>let⟨_,_,_,p⟩:=x;show p.lt
 |dK c=>let⟨_,_,_,_,o,_,_,e,_⟩:=x;show aZ e
 |dT c=>let⟨_,_,_,_,o,_,_,e,_⟩:=x;show aZ e
 |set S n=>let⟨o,_,_,_,e,_⟩:=x;show aZ e
 |ins C i g=>let⟨_,_,_,e,_⟩:=x;show aZ e
 |own y=>let⟨_,e⟩:=x;show aZ e
 |xd g=>obtain⟨_,⟨_,_,_,e,_⟩,_⟩:=x;show aZ e
 |rng lo j=>let⟨_,_,_,e⟩:=x;show aZ e
 |frz k u=>let⟨e,_⟩:=x;show aZ e
 |tbl l=>show aZ (show h.get? a=ψ _ from x)
 |met f y=>show aZ (show h.get? a=ψ _ from x)
 |ext b=>obtain⟨_,⟨_,e⟩,_⟩:=x;show aZ e
theorem Paired.mapP{α β:Type}{F G:α->β->Prop}:∀{l₁:ι α}{l₂:ι β},Paired F l₁ l₂->(∀a b,F a b->G a b)->Paired G l₁ l₂
 |_,_,.nil,_=>.nil
 |_,_,.cons r t,f=>.cons (f _ _ r) (Paired.mapP t f)
def gw.stay(x:gw P w H h a o)(k:∀b u,(b=a\/H b=ψ (.own a))->h.get? b=ψ u->h'.get? b=ψ u)
  (E:∀b,H b=ψ (.own a)->H' b=ψ (.own a)) (F:∀b xs,H b=ψ (.tup xs)->H' b=ψ (.tup xs)):gw P w H' h' a o:=by
 induction o with
 |lst xs=>let⟨z,m,n,r,e⟩:=x;show#[z,m,n,r,k _ _ (.inl rfl) e]
 |tup xs=>let⟨z,m,r,i,e,c⟩:=x;show#[z,m,r,i,k _ _ (.inl rfl) e,c]
 |dK s=>let⟨z,y,G,r,i,j,l,e,c⟩:=x;show#[z,y,G,r,i,j,l,k _ _ (.inl rfl) e,c]
 |dT s=>
  let⟨z,y,xs,r,i,j,l,e,c⟩:=x;show#[z,y,xs,Paired.mapP r λp q z=>#[z.1,F _ _ z.2.1,z.2.2],i,j,l,k _ _ (.inl rfl) e,c]
 |set S n=>let⟨i,j,l,t,e,c⟩:=x;show#[i,j,l,t,k _ _ (.inl rfl) e,c]
 |ins C M I=>
  obtain⟨d,z,J,e,A,⟨B,j,l,K,c⟩,r⟩:=x;show#[E _ d,z,J,k _ _ (.inl rfl) e,A,#[B,j,l,k _ _ (.inr d) K,c],r]
 |own y=>let⟨i,e⟩:=x;show#[i,k _ _ (.inl rfl) e]
 |xd I=>obtain⟨A,⟨B,j,l,e,c⟩,r⟩:=x;show#[A,#[B,j,l,k _ _ (.inl rfl) e,c],r]
 |rng lo N=>let⟨t,u,v,e⟩:=x;show#[t,u,v,k _ _ (.inl rfl) e]
 |frz i u L=>let⟨e,q⟩:=x;show#[k _ _ (.inl rfl) e,L q]
 |tbl D=>
  have e:h.get? a=ψ {cls:=.none,data:=.fields D}:=x;show h'.get? a=ψ {cls:=.none,data:=.fields D};show k a _ (.inl rfl) e
 |met f y=>
  have e:h.get? a=ψ (yE (.ref f) (.ref y)):=x;show h'.get? a=ψ (yE (.ref f) (.ref y));show k a _ (.inl rfl) e
 |ext g=>obtain⟨p,⟨o,e⟩,st⟩:=x;show#[st _ _ p λo q=>k _ _ (.inl rfl) q,#[o,k _ _ (.inl rfl) e],st]
def ls.lt(x:ls P w H h)(e:H a=ψ o):a<h.objs.size:=(x a o e).lt
def ls.fresh(x:ls P w H h)(e:h.objs.size<=a):H a=ξ:=by
 cases q:H a with
 |none=>rfl
 |some u=>show Ψ (bF (x.lt q) e) (iC _)
def ls.kept(x:ls P w H h)(k:∀b u,h.get? b=ψ u->h'.get? b=ψ u):ls P w H h':=λa o e=>
 (x a o e).stay (λb u _ q=>k b u q) (λ_ q=>q) λ_ _ q=>q
def ls.laid(x:ls P w H h)(k:∀b u,h.get? b=ψ u->h'.get? b=ψ u)(i:h.objs.size<=a)(d:gw P w (f6 H a o) h' a o):ls P w (f6 H a o) h':=λb u e=>by
 have f:=x.fresh i;by_cases g:b=a
 ·subst g;rw[eV] at e;cases e;show d
 ·rw[cQ g] at e;show(x b u e).stay (λc v _ q=>k c v q) (λc q=>by rw[cQ (cX q f)];show q) λc j q=>by rw[cQ (cX q f)];show q
end
def Rd(H:Hp)(a:Addr)(u:HO):Prop:=H a=ψ u\/∃o,H a=ψ (.frz o u)
def Rd.ok(r:Rd H a u)(x:ls P w H h):gw P w H h a u:=by
 rcases r with r | ⟨o,r⟩
 ·show x a u r
 ·let⟨_,q⟩:=x a _ r;show q
def A_:Option HO->Prop
 |some (.lst _)=>True
 |some (.dK _)=>True
 |some (.dT _)=>True
 |some (.set _ _)=>True
 |some (.ins _ _ _)=>True
 |some (.ext _)=>True
 |_=>False
def ls.write(ok:ls P w H h)(d:A_ (H x))(m:e=x\/H e=ψ (.own x))(k:∀b u,b≠e->h.get? b=ψ u->h'.get? b=ψ u)(o:∃u,h'.get? e=ψ u)
  (l:gw P w (f6 H x o') h' x o'):ls P w (f6 H x o') h':=λb u q=>by
 have a:∀c y,H c=ψ (.own y)->c≠x:=λc y r z=>by subst z;rw[r] at d;show d
 have s:∀c f,H c=ψ (.tup f)->c≠x:=λc f r z=>by subst z;rw[r] at d;show d
 by_cases g:b=x
 ·subst g;rw[eV] at q;cases q;show l
 ·rw[cQ g] at q;by_cases i:b=e
  ·have n:H b=ψ (.own x):=by
    rcases m with z |z
    ·show Ψ (i.trans z) g
    ·rw[i];show z
   rw[q] at n;cases n;let⟨v,A⟩:=o;show#[v,by rw[i];show A]
  ·show(ok b u q).stay (λc v j r=>k c v ?_ r) (λc r=>by rw[cQ (a c b r)];show r) λc f r=>by rw[cQ (s c f r)];show r
   rcases j with rfl |j
   ·show i
   ·rintro rfl;rcases m with z |z
    ·show a c b j z
    ·rw[j] at z;cases z;show g rfl
structure Un(fs ex:List Addr)(H H':Hp)(h h':Heap):Prop where
 keep:∀b o,h.get? b=ψ o->H b=ξ->b∉fs->b∉ex->h'.get? b=ψ o
 slot:∀b o,h.get? b=ψ o->H b=ξ->b∈fs->b∉ex->∃sl,h'.get? b=ψ {o with slots:=sl}
 free:∀b o,h.get? b=ψ o->H b=ξ->b∉ex->H' b=ξ
 there:∀b o,h.get? b=ψ o->b∉ex->∃o',h'.get? b=ψ o'
 tups:∀b xs,H b=ψ (.tup xs)->H' b=ψ (.tup xs)
 frzs:∀b o u,H b=ψ (.frz o u)->H' b=ψ (.frz o u)
 tbls:∀b ps,H b=ψ (.tbl ps)->∃more,H' b=ψ (.tbl (ps++more))
section
variable{fs fs' ex ex':ι Addr}
def Un.any(u:Un fs ex H H1 h h1)(q:h.get? b=ψ ob)(n:H b=ξ)(a:b∉ex):∃sl,h1.get? b=ψ {ob with slots:=sl}:=by
 by_cases c:b∈fs
 ·show u.slot b ob q n c a
 ·show#[ob.slots,u.keep b ob q n c a]
def Un.kept(k:∀b u,h.get? b=ψ u->h'.get? b=ψ u):Un fs ex H H h h':=
 #[λb a q _ _ _=>k b a q,λb a q _ _ _=>#[a.slots,k b a q],λ_ _ _ n _=>n,λb a q _=>#[a,k b a q],λ_ _ q=>q,λ_ _ _ q=>q,λ_ c q=>#[(mt []),by rw[q];simp]]
def Un.refl:Un fs ex H H h h:=Un.kept λ_ _ q=>q
def Un.laid(k:∀b u,h.get? b=ψ u->h'.get? b=ψ u)(d:h.objs.size<=a)(c:H a=ξ):Un fs ex H (f6 H a o) h h' where
 keep:=λb u q _ _ _=>k b u q
 slot:=λb u q _ _ _=>#[u.slots,k b u q]
 free:=λb u q n _=>by rw[cQ (bO (bF (aZ q) d))];show n
 there:=λb u q _=>#[u,k b u q]
 tups:=λb e q=>by rw[cQ (cX q c)];show q
 frzs:=λb u e q=>by rw[cQ (cX q c)];show q
 tbls:=λb f q=>#[(mt []),by rw[cQ (cX q c),q];simp]
def Un.write(a:A_ (H x))(i:e=x\/H e=ψ (.own x))(k:∀b u,b≠e->h.get? b=ψ u->h'.get? b=ψ u)(j:∃u,h'.get? e=ψ u):Un fs ex H (f6 H x o) h h':=by
 have d:∀b,H b=ξ->b≠x:=λb n z=>by subst z;rw[n] at a;show a
 have f:∀b,H b=ξ->b≠e:=λb n z=>by
  subst z;rcases i with r |r
  ·show d b n r
  ·rw[n] at r;cases r
 have c:∀b u,H b=ψ u->¬A_ (ψ u)->b≠x:=λb u q l z=>by subst z;rw[q] at a;show l a
 show#[λb u q n _ _=>k b u (f b n) q,λb u q n _ _=>#[u.slots,k b u (f b n) q],λb u q n _=>by rw[cQ (d b n)];show n,λb u q _=>?_,
  λb m q=>by rw[cQ (c b _ q λz=>z)];show q,λb u m q=>by rw[cQ (c b _ q λz=>z)];show q,λb s q=>#[(mt []),by rw[cQ (c b _ q λz=>z),q];simp]]
 by_cases g:b=e
 ·subst g;show j
 ·show#[u,k b u g q]
end
def trk(h:Heap)(H:Hp):ι Addr:=(bT h.objs.size).filter λa=>(H a).isSome
def XL(h:Heap)(H:Hp):Heap:=PySem.W.hideAll h (trk h H)
def Nx(h:Heap)(H:Hp):(XL h H).objs.size=h.objs.size:=PySem.W.hideAll_size _ _
def Ta(e:h.get? b=ψ o)(n:H b=ξ):(XL h H).get? b=ψ o:=
 PySem.W.hideAll_get _ e λa=>by
  have q:(H b).isSome=ζ:=(dU.mp a).2;rw[n] at q;simp at q
def Yj(e:(XL h H).get? b=ψ o):h.get? b=ψ o/\H b=ξ:=by
 have a:h.get? b=ψ o:=PySem.W.of_hideAll (trk h H) e;show#[a,?_];cases q:H b with
 |none=>rfl
 |some x=>
  have c:b∈trk h H:=dU.mpr #[cM.mpr (aZ a),by simp[q]];have z:(XL h H).get? b=ξ:=PySem.W.hideAll_none (trk h H) c;rw[z] at e;cases e
def LF(g h:Heap)(L:Addr):ι (Addr×Obj):=(bT h.objs.size).filterMap λa=>if a=L\/(g.get? a).isSome=ζ then ξ else(h.get? a).map λo=>(a,o)
def FE(c:a≠L)(d:g.get? a=ξ)(b:h.get? a=ψ o):(a,o)∈LF g h L:=
 nY.mpr #[a,cM.mpr (aZ b),by simp[c,d,b]]
def VP(c:p∈LF g h L):p.1≠L/\g.get? p.1=ξ/\h.get? p.1=ψ p.2:=by
 let⟨b,_,e⟩:=nY.mp c;split at e
 ·cases e
 ·rename_i a;cases q:h.get? b with
  |none=>rw[q] at e;simp at e
  |some u=>
   rw[q] at e;erw[CK,KZ] at e;subst e;show#[λz=>a (.inl z),?_,q];show g.get? b=ξ;cases r:g.get? b with
   |none=>rfl
   |some v=>show(a (.inr (by simp[r]))).elim
def rest(g h:Heap)(L d:Addr):ι (Addr×Obj):=(LF g h L).filter λp=>decide (p.1≠d)
def Tv:News g L h (LF g h L):=λp d=>let ⟨a,b,c⟩:=VP d;#[c,a,b]
structure Mod(K:aH)(mg:Str->Option aF)(base:Heap):Prop where
 kin:K.In base
 glob:base.Ns mainGlobals mg
 blt:∃mb,base.Ns builtinsNs mb/\∀x:Str,x≠"__name__"->mb x=bootBuiltins x
 nolimit:base.NoLimit
structure Cx where
 prog:bP
 w:cS
 K:aH
 mg:Str->Option aF
 base:Heap
 A:cV
 N:ι Str
 s₀:aJ
 H₀:Hp
 env:Env
 outer:ι Env
 stack:ι Env
 ex:ι Addr
 fn:Str->Bool
 calm:Bool
 pn:ι (Addr×Obj)
 xe:aF->aJ->Prop
def t8(l:ι Env):ι Addr:=l.filterMap (·.frame)
abbrev Cx.fs(X:Cx):ι Addr:=t8 X.outer
def sx(a:Scope)(x:Str):Prop:=a.names.lookup x=ψ .local\/a.names.lookup x=ψ .cell\/a.names.lookup x=ψ .free
def Loc(a:Scope)(x:Str):Prop:=a.names.lookup x=ψ .local\/a.names.lookup x=ψ .cell
def Look(env:Env)(h:Heap)(m:Str->Option aF)(x:Str)(u:aF):Prop:=
 (env.kindOf x=ψ .local/\m x=ψ u)\/((env.kindOf x=ψ .cell\/env.kindOf x=ψ .free)/\∃c,env.cells.lookup x=ψ c/\h.IsCell c (ψ u))
structure Cx.Ok(X:Cx):Prop where
 mod:Mod X.K X.mg X.base
 kind:X.env.scope.kind = .function
 glob:X.env.globals=mainGlobals
 blt:X.env.builtins=builtinsNs
 above:X.s₀.z<=X.env.locals
 inj:∀x y c,X.env.cells.lookup x=ψ c->X.env.cells.lookup y=ψ c->x=y
 has:∀x,(X.env.kindOf x=ψ .cell\/X.env.kindOf x=ψ .free)->∃c,X.env.cells.lookup x=ψ c
 cab:∀x c,X.fn x=ζ->X.env.cells.lookup x=ψ c->X.s₀.z<=c
 hd:X.calm=ζ->X.A.handled=ξ
 frames:X.A.frames=ψ X.stack
 stk:X.stack=X.outer\/(X.stack=X.env::X.outer/\X.env.frame=ψ X.env.locals)
 exf:∀b∈X.ex,b≠X.env.locals/\∀x c,X.env.cells.lookup x=ψ c->c≠b
 bs:∀b o,X.base.get? b=ψ o->X.s₀.heap.get? b=ψ o/\X.H₀ b=ξ
 bsz:X.base.objs.size<=X.s₀.z
 noex:∀b o,X.base.get? b=ψ o->b∉X.ex
 exfs:∀b∈X.ex,b∉X.fs
 funs:X.s₀.heap.FunFrames X.base X.outer
 frf:∀b∈X.fs,X.H₀ b=ξ
structure Inv(X:Cx)(Γ:List (Addr×Obj))(σ:List (Option V))(H:Hp)(s:aJ):Prop where
 ok:X.Ok
 os:s.os=X.s₀.os
 bare:AllBare s.gens
 base:Un X.fs X.ex X.H₀ H X.s₀.heap s.heap
 loc:∃m,s.heap.Ns X.env.locals m/\∀(i:Nat)(x:Str)(v:V),X.N[i]?=ψ x->σ[i]?=ψ (ψ v)->sx X.env.scope x->∃u,RelV v u/\Look X.env s.heap m x u
 cell:∀x c,X.env.cells.lookup x=ψ c->∃v,s.heap.IsCell c v
 free:H X.env.locals=ξ
 freeC:∀x c,X.env.cells.lookup x=ψ c->H c=ξ
 pin:∀p∈X.pn++Γ,s.heap.get? p.1=ψ p.2/\H p.1=ξ/\p.1≠X.env.locals/\p.1∉X.fs/\∀v,p.2.data≠.cell v
 hok:ls X.prog X.w H s.heap
 len:σ.length=X.N.length
section
variable{X:Cx}{Γ:ι (Addr×Obj)}{σ:ι (Option V)}{H H':Hp}{s:aJ}{h':Heap}
def Cx.Ok.nofr(ok:X.Ok){b:Addr}{o:Obj}(e:X.base.get? b=ψ o):b∉X.fs:=λa=>by
 have:=(ok.funs.mem a).1;rw[e] at this;cases this
def Inv.bs(I:Inv X Γ σ H s):∀b o,X.base.get? b=ψ o->s.heap.get? b=ψ o/\H b=ξ:=λb o e=>
 #[I.base.keep b o (I.ok.bs b o e).1 (I.ok.bs b o e).2 (I.ok.nofr e) (I.ok.noex b o e),I.base.free b o (I.ok.bs b o e).1 (I.ok.bs b o e).2 (I.ok.noex b o e)]
def Inv.bk(I:Inv X Γ σ H s):∀b o,X.base.get? b=ψ o->s.heap.get? b=ψ o:=λb o e=>(I.bs b o e).1
def Inv.mod(I:Inv X Γ σ H s):Mod X.K X.mg X.base:=I.ok.mod
def Inv.kIn(I:Inv X Γ σ H s):X.K.In s.heap:=I.ok.mod.kin.keeps I.bk
def Inv.lt(I:Inv X Γ σ H s):X.env.locals<s.z:=let ⟨_,hn,_⟩:=I.loc;hn.lt
def Inv.sz(I:Inv X Γ σ H s):X.s₀.z<=s.z:=dC I.ok.above (kF I.lt)
def Inv.nofs(I:Inv X Γ σ H s){a:Addr}(h:s.z<=a):a∉X.fs:=λb=>by
 let⟨_,o,c,_⟩:=I.ok.funs.mem b;show Ψ (bF (aZ c) (dC I.sz h)) (iC _)
def Inv.cne(I:Inv X Γ σ H s):∀x c,X.env.cells.lookup x=ψ c->c≠X.env.locals:=λx c e z=>by
 let⟨v,o,a,b⟩:=I.cell x c e;obtain⟨m,⟨g,h,i,d,f,_⟩,_⟩:=I.loc;rw[z,d] at a;cases a;rw[f] at b;cases b
def Inv.funs(I:Inv X Γ σ H s):s.heap.FunFrames X.base X.outer:=by
 have all:∀(l:ι Env),(∀b∈t8 l,b∈X.fs)->X.s₀.heap.FunFrames X.base l->s.heap.FunFrames X.base l:=by
  intro l
  induction l with
  |nil=>intro _ _;trivial
  |cons g r h=>
   intro f i;obtain⟨j,⟨L,o,a,k,m,n⟩,q⟩:=i;have c:L∈X.fs:=f L (by unfold t8;rw[eQ,a];show cT);let⟨u,e⟩:=I.base.slot L o m (I.ok.frf L c) c λz=>I.ok.exfs L z c;show#[j,#[L,_,a,k,e,n],h (λb d=>f b (by unfold t8;rw[eQ,a];show bH _ d)) q]
 show all X.outer (λ_ d=>d) I.ok.funs
def Inv.stack(I:Inv X Γ σ H s):s.heap.FunFrames X.base X.stack:=by
 rcases I.ok.stk with e | ⟨e,a⟩
 ·rw[e];show I.funs
 ·rw[e];let⟨m,b,_⟩:=I.loc;show .cons (by rw[I.ok.kind];decide) a b ?_ I.funs;show Heap.get?_none_of_le (dC I.ok.bsz I.ok.above)
def Inv.stkSub(I:Inv X Γ σ H s):∀b∈t8 X.stack,b∈X.env.locals::X.fs:=λb a=>by
 rcases I.ok.stk with e | ⟨e,c⟩
 ·rw[e] at a;show bH _ a
 ·rw[e] at a;unfold t8 at a;rw[eQ,c] at a;show a
def Inv.stkFree(I:Inv X Γ σ H s):∀b∈t8 X.stack,H b=ξ:=λb a=>by
 rcases aP.mp (I.stkSub b a) with e |a
 ·rw[e];show I.free
 ·let⟨_,o,c,_⟩:=I.ok.funs.mem a;show I.base.free b o c (I.ok.frf b a) λz=>I.ok.exfs b z a
def Inv.step{g':Array GenState}{t':Nat}{d':Drawn}{ch:ι Addr}(I:Inv X Γ σ H s)
  (B:∀b∈ch,(b∈X.ex\/X.s₀.z<=b)/\b≠X.env.locals/\(∀x c,X.env.cells.lookup x=ψ c->c≠b)/\∀p∈X.pn++Γ,p.1≠b)
  (keep:∀b o,b≠X.env.locals->b∉X.fs->b∉ch->s.heap.get? b=ψ o->H b=ξ->h'.get? b=ψ o)
  (slot:∀b o,b≠X.env.locals->b∈X.fs->b∉ch->s.heap.get? b=ψ o->H b=ξ->∃sl,h'.get? b=ψ {o with slots:=sl}) (free:∀b o,b∉ch->s.heap.get? b=ψ o->H b=ξ->H' b=ξ)
  (there:∀b o,b∉ch->s.heap.get? b=ψ o->∃o',h'.get? b=ψ o')
  (tups:∀b xs,H b=ψ (.tup xs)->H' b=ψ (.tup xs)) (frzs:∀b o u,H b=ψ (.frz o u)->H' b=ψ (.frz o u)) (tbls:∀b ps,H b=ψ (.tbl ps)->∃more,H' b=ψ (.tbl (ps++more)))
  (ns:∀m,s.heap.Ns X.env.locals m->h'.Ns X.env.locals m) (E:ls X.prog X.w H' h') (N:AllBare g'):
  Inv X Γ σ H' {s with heap:=h',gens:=g',drawn:=d',toks:=t'}:=by
 have C:∀b o,X.s₀.heap.get? b=ψ o->b≠X.env.locals:=λb o e=>bO (bF (aZ e) I.ok.above);have h:∀b o,X.s₀.heap.get? b=ψ o->b∉X.ex->b∉ch:=λb o e a y=>by
  rcases (B b y).1 with z |z
  ·show a z
  ·show Ψ (bF (aZ e) z) (iC _)
 have f:∀x c,X.env.cells.lookup x=ψ c->∀v,s.heap.IsCell c v->h'.IsCell c v:=λx c e v ⟨o,A,F⟩=>by
  have g:c∉ch:=λz=>(B c z).2.2.1 x c e rfl;by_cases J:c∈X.fs
  ·let⟨sl,q⟩:=slot c o (I.cne x c e) J g A (I.freeC x c e);show#[_,q,F]
  ·show#[o,keep c o (I.cne x c e) J g A (I.freeC x c e),F]
 show#[I.ok,I.os,N,#[λb o e n y a=>?_,λb o e n y a=>?_,λb o e n a=>?_,λb o e a=>?_,λb xs e=>tups b xs (I.base.tups b xs e),λb o xs e=>frzs b o xs (I.base.frzs b o xs e),λb ps e=>?_],?_,λx c e=>?_,?_,λx c e=>?_,λp K=>?_,E,I.len]
 ·show keep b o (C b o e) y (h b o e a) (I.base.keep b o e n y a) (I.base.free b o e n a)
 ·let⟨sl,j⟩:=I.base.slot b o e n y a;let⟨G,D⟩:=slot b _ (C b o e) y (h b o e a) j (I.base.free b o e n a);show#[G,D]
 ·let⟨o',j⟩:=I.base.there b o e a;show free b o' (h b o e a) j (I.base.free b o e n a)
 ·let⟨o',j⟩:=I.base.there b o e a;show there b o' (h b o e a) j
 ·let⟨O,j⟩:=I.base.tbls b ps e;let⟨P,D⟩:=tbls b _ j;show#[O++P,by rw[D,wO]]
 ·let⟨m,Q,R⟩:=I.loc;show#[m,ns m Q,λi x v j D T=>?_];let⟨u,r,l⟩:=R i x v j D T;show#[u,r,?_];rcases l with l | ⟨k,c,e,z⟩
  ·show .inl l
  ·show .inr #[k,c,e,f x c e _ z]
 ·let⟨v,z⟩:=I.cell x c e;show#[v,f x c e v z]
 ·obtain⟨m,⟨o,_,_,A,_⟩,_⟩:=I.loc;show free _ o (λz=>(B _ z).2.1 rfl) A I.free
 ·let⟨v,o,A,F⟩:=I.cell x c e;show free c o (λz=>(B c z).2.2.1 x c e rfl) A (I.freeC x c e)
 ·let⟨e,n,L,M,d⟩:=I.pin p K;have g:p.1∉ch:=λz=>(B p.1 z).2.2.2 p K rfl;show#[keep p.1 p.2 L M g e n,free p.1 p.2 g e n,L,M,d]
def Inv.un(I:Inv X Γ σ H s)(u:Un X.fs [] H H' s.heap h')(a:ls X.prog X.w H' h'):Inv X Γ σ H' {s with heap:=h',toks:=t'}:=by
 obtain⟨m,⟨o,l,q,d,r⟩,_⟩:=id I.loc;let⟨v,g⟩:=u.any d I.free η;show I.step (g':=s.gens) (d':=s.drawn) (ch:=[]) (λ_ z=>nomatch z) (λb o _ c _ e n=>u.keep b o e n c η) (λb o _ c _ e n=>u.slot b o e n c η) (λb o _ e n=>u.free b o e n η) (λb o _ e=>u.there b o e η) u.tups u.frzs u.tbls (λy h=>by
  let⟨A,i,j,f,k⟩:=h;rw[d] at f;cases f;show#[_,i,j,g,k]) a I.bare
def Inv.call(I:Inv X Γ σ H s)(u:Un (t8 X.stack) ch H H' s.heap h')(d:ls X.prog X.w H' h')(j:AllBare g')
  (g:∀b∈ch,(b∈X.ex\/X.s₀.z<=b)/\b≠X.env.locals/\(∀x c,X.env.cells.lookup x=ψ c->c≠b)/\∀p∈X.pn++Γ,p.1≠b):
  Inv X Γ σ H' {s with heap:=h',gens:=g',drawn:=d',toks:=t'}:=by
 obtain⟨m,⟨o,A,B,h,r⟩,_⟩:=id I.loc;let⟨C,f⟩:=u.any h I.free λz=>(g _ z).2.1 rfl;show I.step (ch:=ch) g (λb o f k a e n=>u.keep b o e n (λz=>(aP.mp (I.stkSub b z)).elim f k) a) (λb o _ _ a e n=>u.any e n a) (λb o a e n=>u.free b o e n a) (λb o a e=>u.there b o e a) u.tups u.frzs u.tbls (λD l=>by
  let⟨E,q,v,i,y⟩:=l;rw[h] at i;cases i;show#[_,q,v,f,y]) d j
def Inv.turned(I:Inv X Γ σ H s)(k:∀b o,b≠it->s.heap.get? b=ψ o->h'.get? b=ψ o)(g:H it=ξ)(d:it≠X.env.locals)
  (h:it∈X.ex\/X.s₀.z<=it) (i:∀x c,X.env.cells.lookup x=ψ c->c≠it) (j:∀p∈X.pn++Γ,p.1≠it):Inv X Γ σ H {s with heap:=h',toks:=t'}:=by
 have f:∀b u,H b=ψ u->b≠it:=λb u e z=>by rw[z,g] at e;cases e
 show I.step (g':=s.gens) (d':=s.drawn) (ch:=[it]) (λb l=>?_) (λb o _ _ a e _=>k b o (λz=>a (by simp[z])) e) (λb o _ _ a e _=>#[o.slots,k b o (λz=>a (by simp[z])) e]) (λ_ _ _ _ n=>n)
  (λb o a e=>#[o,k b o (λz=>a (by simp[z])) e]) (λ_ _ e=>e) (λ_ _ _ e=>e) (λb C e=>#[(mt []),by rw[e];simp]) (λm w=>?_) (λb u e=>?_) I.bare
 ·have e:b=it:= ~~~l
  subst e;show#[h,d,i,j]
 ·let⟨o,y,A,B,r⟩:=w;show#[o,y,A,k _ o (Ne.symm d) B,r]
 ·show(I.hok b u e).stay (λc v a q=>k c v ?_ q) (λ_ q=>q) λ_ _ q=>q;rcases a with z |z
  ·rw[z];show f b u e
  ·show f c _ z
def Inv.tok(I:Inv X Γ σ H s)(t:Nat):Inv X Γ σ H {s with toks:=t}:=I.un (h':=s.heap) (t':=t) Un.refl I.hok
def Inv.kept(I:Inv X Γ σ H s)(k:∀b u,s.heap.get? b=ψ u->h'.get? b=ψ u):Inv X Γ σ H {s with heap:=h',toks:=t'}:=I.un (Un.kept k) (I.hok.kept k)
def Inv.laid{a:Addr}(I:Inv X Γ σ H s)(k:∀b u,s.heap.get? b=ψ u->h'.get? b=ψ u)(c:s.z<=a)(d:gw X.prog X.w (f6 H a o) h' a o):
  Inv X Γ σ (f6 H a o) {s with heap:=h',toks:=t'}:=I.un (Un.laid k c (I.hok.fresh c)) (I.hok.laid k c d)
def Inv.write(I:Inv X Γ σ H s)(c:A_ (H x))(d:e=x\/H e=ψ (.own x))(k:∀b u,b≠e->s.heap.get? b=ψ u->h'.get? b=ψ u)(f:∃u,h'.get? e=ψ u)
  (a:gw X.prog X.w (f6 H x o) h' x o):Inv X Γ σ (f6 H x o) {s with heap:=h',toks:=t'}:=I.un (Un.write c d k f) (I.hok.write c d k f a)
def Inv.pins_of(I:Inv X Γ σ H s)(h:∀p∈pins',s.heap.get? p.1=ψ p.2/\H p.1=ξ/\p.1≠X.env.locals/\p.1∉X.fs/\∀v,p.2.data≠.cell v):Inv X pins' σ H s:=
 #[I.ok,I.os,I.bare,I.base,I.loc,I.cell,I.free,I.freeC,λp a=>(bV.mp a).elim (λz=>I.pin p (dY _ z)) (h p),I.hok,I.len]
def Ej{N:ι Str}(c:N.Nodup){i j:Nat}{x:Str}(a:N[i]?=ψ x)(b:N[j]?=ψ x):i=j:=by
 let⟨f,d⟩:=cE.mp a;let⟨g,e⟩:=cE.mp b;show(List.getElem_inj c).mp (d.trans e.symm)
def ZN(I:Inv X Γ σ H s)(hN:X.N.Nodup)(hi:X.N[i]?=ψ x)(C:Loc X.env.scope x)(r:RelV v u)
  (h:∀s',Inv X Γ (σ.set i (ψ v)) H s'->(∃a,qA a s.heap s'.heap/\(a=X.env.locals\/X.env.cells.lookup x=ψ a))->Q () s') (hf:X.fn x=ζ\/X.env.scope.names.lookup x=ψ .local:=by walk_at "loc"):wpAny M A (storeName X.env x u) Q E s:=by
 let⟨m,W,hl⟩:=id I.loc;have O:(X.env.scope.kind == .class || (X.env.scope.kind == .module && X.env.locals != X.env.globals))=χ:=by rw[I.ok.kind];rfl
 have hiσ:i<σ.length:=by rw[I.len];show(cE.mp hi).1
 have cne:=I.cne;have g:∀{a:Addr}{h':Heap},(∃o,s.heap.get? a=ψ o/\H a=ξ)->qA a s.heap h'->ls X.prog X.w H h':=λ{a h'} ha f b ob e=>by
  let⟨_,_,D⟩:=ha;show(I.hok b ob e).stay (λc R B q=>(f.2 c ?_).trans q) (λ_ q=>q) λ_ _ q=>q;rintro rfl;rcases B with rfl |B
  ·rw[D] at e;cases e
  ·rw[D] at B;cases B
 rcases C with G |G
 ·show wpAny_storeName_local G W (λh' mz f=>?_) O;let⟨oL,_,_,Y,_⟩:=id W;show h _ #[I.ok,I.os,I.bare,#[λb o e n J C=>?_,λb o e n J C=>?_,I.base.free,λb o e C=>?_,I.base.tups,I.base.frzs,I.base.tbls],#[_,mz,λj y Z l F e3=>?_],λy c e=>?_,I.free,I.freeC,λp hp=>?_,g #[oL,Y,I.free] f,~~~I.len] #[_,f,.inl rfl]
  ·show(f.2 b (bO (bF (aZ e) I.ok.above))).trans (I.base.keep b o e n J C)
  ·let⟨sl,l⟩:=I.base.slot b o e n J C;show#[sl,(f.2 b (bO (bF (aZ e) I.ok.above))).trans l]
  ·let⟨o',l⟩:=I.base.there b o e C;show#[o',(f.2 b (bO (bF (aZ e) I.ok.above))).trans l]
  ·by_cases K:j=i
   ·subst K;rw[hi] at l;cases l;rw[gK hiσ] at F;cases F;show#[u,r,.inl #[G,η]]
   ·rw[hV (Ne.symm K)] at F;let⟨u',r',q⟩:=hl j y Z l F e3;show#[u',r',?_];rcases q with⟨k,e⟩ | ⟨k,c,e,z⟩
    ·show .inl #[k,?_];have:y≠x:=λe=>K (Ej hN l (e▸hi));simp[this,e]
    ·show .inr #[k,c,e,z.sameBut f (cne y c e)]
  ·let⟨R,z⟩:=I.cell y c e;show#[R,z.sameBut f (cne y c e)]
  ·let⟨e,n,T,nf,d⟩:=I.pin p hp;show#[(f.2 p.1 T).trans e,n,T,nf,d]
 ·have L:X.fn x=ζ:=by
   rcases hf with z |z
   ·show z
   ·rw[z] at G;cases G
  let⟨c,B⟩:=I.ok.has x (.inl G);let⟨R,z⟩:=I.cell x c B;show wpAny_storeName_cell I.ok.kind G B z (λh' t9 f=>?_);let⟨oc,vd,P⟩:=id z;show h {s with heap:=h'} #[I.ok,I.os,I.bare,#[λb o e n J C=>?_,λb o e n J C=>?_,I.base.free,λb o e C=>?_,I.base.tups,I.base.frzs,I.base.tbls],#[m,W.sameBut f (Ne.symm (cne x c B)),λj y Z l F e3=>?_],λy U e=>?_,I.free,I.freeC,λp hp=>?_,g #[oc,vd,I.freeC x c B] f,~~~I.len] #[c,f,.inr B]
  ·show(f.2 b (bO (bF (aZ e) (I.ok.cab x c L B)))).trans (I.base.keep b o e n J C)
  ·let⟨sl,l⟩:=I.base.slot b o e n J C;show#[sl,(f.2 b (bO (bF (aZ e) (I.ok.cab x c L B)))).trans l]
  ·let⟨o',l⟩:=I.base.there b o e C;show#[o',(f.2 b (bO (bF (aZ e) (I.ok.cab x c L B)))).trans l]
  ·by_cases K:j=i
   ·subst K;rw[hi] at l;cases l;rw[gK hiσ] at F;cases F;show#[u,r,.inr #[.inl G,c,B,t9]]
   ·rw[hV (Ne.symm K)] at F;let⟨u',r',q⟩:=hl j y Z l F e3;show#[u',r',?_];rcases q with q | ⟨k,U,e,z'⟩
    ·show .inl q
    ·show .inr #[k,U,e,z'.sameBut f ?_];rintro rfl;show K (Ej hN l (I.ok.inj _ _ _ e B▸hi))
  ·by_cases P_:U=c
   ·subst P_;show#[_,t9]
   ·let⟨w2,z2⟩:=I.cell y U e;show#[w2,z2.sameBut f P_]
  ·let⟨e,n,T,nf,d⟩:=I.pin p hp;show#[(f.2 p.1 ?_).trans e,n,T,nf,d];intro q;rw[q,vd] at e;have q':oc=p.2:=dG e;show d R (by rw[<-q'];show P)
def MU(I:Inv X Γ σ H s)(a:X.N.Nodup)(hi:X.N[i]?=ψ x)(b:Loc X.env.scope x)(r:RelV v u)
  (h:∀s',Inv X Γ (σ.set i (ψ v)) H s'->Q () s') (c:X.fn x=ζ\/X.env.scope.names.lookup x=ψ .local:=by walk_at "loc"):wpAny M A (storeName X.env x u) Q E s:=
 ZN I a hi b r (λs' d _=>h s' d) c
def Inv.call'(I:Inv X Γ σ H s)(d:s'.os=s.os)(u:Un (t8 X.stack) ch H H' s.heap s'.heap)(a:ls X.prog X.w H' s'.heap)(f:AllBare s'.gens)
  (g:∀b∈ch,(b∈X.ex\/X.s₀.z<=b)/\b≠X.env.locals/\(∀x c,X.env.cells.lookup x=ψ c->c≠b)/\∀p∈X.pn++Γ,p.1≠b):Inv X Γ σ H' s':=by
 let⟨h',g',d',t',h⟩:=s';have e:h=s.os:=d;subst e;show I.call (g':=g') (t':=t') (d':=d') u a f g
end
abbrev XK:=aF->Option Addr->Hp->Prop
abbrev St:=ι (Option V)
abbrev VK:=V->Hp->Prop
abbrev TE:=St->Hp->VK->Prop
abbrev TT:=St->Hp->(Bool->Hp->Prop)->Prop
abbrev TA:=St->Hp->(ι V->Hp->Prop)->Prop
structure uf where
 nx:St->Hp->Prop
 rt:VK
 bk:St->Hp->Prop:=λ_ _=>False
 ct:St->Hp->Prop:=λ_ _=>False
abbrev TS:=uf->St->Hp->Prop
def EP(X:Cx)(Γ:ι (Addr×Obj))(Z:St)(Q:VK)(u:aF)(b:aJ):Prop:=∃v a,Inv X Γ Z a b/\RelV v u/\Q v a
def TP(X:Cx)(Γ:ι (Addr×Obj))(Z:St)(Q:Bool->Hp->Prop)(b:Bool)(c:aJ):Prop:=∃a,Inv X Γ Z a c/\Q b a
def AP(X:Cx)(Γ:ι (Addr×Obj))(Z:St)(Q:ι V->Hp->Prop)(c:ι aF)(d:aJ):Prop:=∃a b,Inv X Γ Z b d/\c6 a c/\Q a b
def SP(X:Cx)(Γ:ι (Addr×Obj))(D:uf)(f:Flow)(c:aJ):Prop:=
 match f with
 | .next=>∃b a,Inv X Γ b a c/\D.nx b a
 | .brk=>∃b a,Inv X Γ b a c/\D.bk b a
 | .cont=>∃b a,Inv X Γ b a c/\D.ct b a
 | .ret u=>∃v b a,Inv X Γ b a c/\RelV v u/\D.rt v a
abbrev Θ{α:Type}(X:Cx):=@PySem.wpAny α (PySem.model X.prog X.w) X.A
def PE(X:Cx)(e:Expr)(t:TE):Prop:=
 ∀(Γ:ι (Addr×Obj))(s:aJ)(Z:St)(H:Hp)(Q:VK),Inv X Γ Z H s->t Z H Q->Θ X (eval e X.env) (EP X Γ Z Q) X.xe s
def PT(X:Cx)(e:Expr)(t:TT):Prop:=
 ∀(Γ:ι (Addr×Obj))(s:aJ)(Z:St)(H:Hp)(Q:Bool->Hp->Prop),Inv X Γ Z H s->t Z H Q->Θ X (isTrue e X.env (eval e X.env)) (TP X Γ Z Q) X.xe s
def PW(X:Cx)(e:Expr)(t:TT):Prop:=
 ∀(a:Sem aF)(Γ:ι (Addr×Obj))(s:aJ)(Z:St)(H:Hp)(Q:Bool->Hp->Prop),Inv X Γ Z H s->t Z H Q->Θ X (isTrue e X.env a) (TP X Γ Z Q) X.xe s
def PW.pt{t:TT}(h:PW X e t):PT X e t:=h _
def PA(X:Cx)(es:ι Expr)(t:TA):Prop:=
 ∀(a:Pos)(Γ:ι (Addr×Obj))(s:aJ)(Z:St)(H:Hp)(Q:ι V->Hp->Prop),Inv X Γ Z H s->t Z H Q->Θ X (spliced (backTo a (starEach es X.env))) (AP X Γ Z Q) X.xe s
def PS(X:Cx)(st:Stmt)(t:TS):Prop:=
 ∀(Γ:ι (Addr×Obj))(s:aJ)(Z:St)(H:Hp)(D:uf),Inv X Γ Z H s->t D Z H->Θ X (exec st X.env) (SP X Γ D) X.xe s
def qf(X:Cx)(st:ι Stmt)(t:TS):Prop:=
 ∀(Γ:ι (Addr×Obj))(s:aJ)(Z:St)(H:Hp)(D:uf),Inv X Γ Z H s->t D Z H->Θ X (execs st X.env) (SP X Γ D) X.xe s
def h8{α:Type}{t:Sem α}{Q b:α->aJ->Prop}{s:aJ}(h:wpAny M A t Q E s)(c:∀a s,Q a s->b a s):wpAny M A t b E s:=gM h c λ_ _ x=>x
section
variable{X:Cx}
def ag(i:Nat):TE:=λZ H Q=>∃v,Z[i]?=ψ (ψ v)/\Q v H
def tC(v:V):TE:=λ_ H Q=>Q v H
def N3{pos:Pos}(j:X.N[i]?=ψ x)(k:sx X.env.scope x)(d:(x == ("__debug__":Str))=χ:=by decide)(n:(x == ("__classdict__":Str))=χ:=by decide):PE X (.Name x pos) (ag i):=by
 intro Γ s Z H Q I h;let⟨v,e,h⟩:=h;let⟨m,o,q⟩:=I.loc;let⟨u,r,l⟩:=q i x v j e k;have a:EP X Γ Z Q u s:=#[v,H,I,r,h];rcases l with⟨b,w⟩ | ⟨b,c,f,g⟩
 ·show CH (GI I.ok.kind b o w a) d
 ·rcases b with b |b
  ·show CH (wpAny_loadName_cell I.ok.kind b f g a) d
  ·show CH (HU I.ok.kind b f g a n) d
def Iw{i j pos}:PE X (.Constant (.int i) j pos) (tC (.int i)):=λ_ _ _ H _ I h=>KF #[.int i,H,I.tok _,#[_,rfl],h]
def X2{b j pos}:PE X (.Constant (.bool b) j pos) (tC (.bl b)):=λ_ _ _ H _ I h=>Constant_bool #[.bl b,H,I,rfl,h]
def M9{j pos}:PE X (.Constant .none j pos) (tC .non):=λ_ _ _ H _ I h=>Constant_none #[.non,H,I,rfl,h]
def Gl(X:Cx)(x:Str):Prop:=X.env.kindOf x=ψ .globalImplicit
def Xv{s:aJ}{Z:St}{pos:Pos}(I:Inv X Γ Z H s)(a:Gl X x)(b:X.mg x=ψ u)(h:Q u s)
  (c:(x == ("__debug__":Str))=χ:=by decide):Θ X (eval (.Name x pos) X.env) Q E s:=
 wS I.ok.kind a (Calls.loadGlobal_global (by rw[I.ok.glob];show I.mod.glob.keeps I.bk) b h) c
def lU{E:aF->aJ->Prop}{Γ:ι (Addr×Obj)}{s:aJ}{Z:St}{H:Hp}{x:Str}{u:aF}{pos:Pos}{Q:aF->aJ->Prop}(I:Inv X Γ Z H s)(a:Gl X x)(b:X.mg x=ξ)(c:bootBuiltins x=ψ u)(h:Q u s)
  (d:x≠"__name__":=by decide) (e:(x == ("__debug__":Str))=χ:=by decide):Θ X (eval (.Name x pos) X.env) Q E s:=by
 let⟨i,f,g⟩:=I.mod.blt;show wS I.ok.kind a (Calls.loadGlobal_builtin (by rw[I.ok.glob];show I.mod.glob.keeps I.bk) b (by rw[I.ok.blt];show f.keeps I.bk) ((g x d).trans c) h) e
def Yq{pos:Pos}(a:Gl X x)(b:X.mg x=ξ)(c:bootBuiltins x=ψ u)(r:RelV v u)(d:x≠"__name__":=by decide)(e:(x == ("__debug__":Str))=χ:=by decide):PE X (.Name x pos) (tC v):=
 λ_ _ _ H _ I h=>lU I a b c #[v,H,I,r,h] d e
variable{ta tb:TE}{pos:Pos}
def tB(t:TE):TT:=λZ H Q=>t Z H λx a=>∃c,x = .bl c/\Q c a
def O1{t:TE}(h:PE X e t)(a:∀whole,isTrue e X.env whole=(do let v <-whole;standAt e.pos;holding [v] (truthy v)):=by intro _;rfl):PT X e (tB t):=by
 intro Γ s Z H Q I b;show isTrue_plain (h8 (h Γ s Z H _ I b) λv j ⟨x,c,f,g,i⟩=>?_) (a _);let⟨d,rfl,q⟩:=i;cases g;show tH #[c,f,q]
variable{rest:ι Expr}
def dw(t u:TT):TT:=λZ H Q=>t Z H λc a=>if c=ζ then u Z a Q else Q χ a
def tOr(t u:TT):TT:=λZ H Q=>t Z H λc a=>if c=ζ then Q ζ a else u Z a Q
def fg(t:TT):TT:=λZ H Q=>t Z H λc a=>Q (!c) a
def Zd(b:PT X a tA):PW X (.BoolOp .And [a] pos) tA:=by
 intro d Γ s Z H Q I h;show isTrue_and (h8 (b Γ s Z H Q I h) λc f e=>?_);cases c with
 |true=>show isTrue_and_nil e
 |false=>show e
def O4(b:PT X a tA):PW X (.BoolOp .Or [a] pos) tA:=by
 intro d Γ s Z H Q I h;show isTrue_or (h8 (b Γ s Z H Q I h) λc f e=>?_);cases c with
 |false=>show isTrue_or_nil e
 |true=>show e
def O3(g:PT X a tA)(i:PW X (.BoolOp .And (b::rest) pos) tB'):PW X (.BoolOp .And (a::b::rest) pos) (dw tA tB'):=by
 intro j Γ s Z H Q I h;show isTrue_and (h8 (g Γ s Z H _ I h) λc k ⟨d,e,f⟩=>?_);cases c with
 |true=>show i j Γ k Z d Q e f
 |false=>show#[d,e,f]
def X7(g:PT X a tA)(i:PW X (.BoolOp .Or (b::rest) pos) tB'):PW X (.BoolOp .Or (a::b::rest) pos) (tOr tA tB'):=by
 intro j Γ s Z H Q I h;show isTrue_or (h8 (g Γ s Z H _ I h) λc k ⟨d,e,f⟩=>?_);cases c with
 |true=>show#[d,e,f]
 |false=>show i j Γ k Z d Q e f
def O0(b:PT X a tA):PT X (.UnaryOp .Not a pos) (fg tA):=by
 intro Γ s Z H Q I h;show isTrue_not (b Γ s Z H (λc d=>Q (!c) d) I h)
def Z4(ta tb:TE):TE:=λY H Q=>ta Y H λx a=>∃c,x = .bl c/\if c=ζ then tb Y a Q else Q (.bl χ) a
def ad(ta:TE):TE:=λZ H Q=>ta Z H λx a=>∃c,x = .bl c/\Q (.bl (!c)) a
def N1{op}{t:TE}(h:PE X a t):PE X (.BoolOp op [a] pos) t:=λΓ s Z H Q I b=>BoolOp_one (h Γ s Z H Q I b)
def M7(g:PE X a ta)(i:PE X (.BoolOp .And (b::rest) pos) tb):PE X (.BoolOp .And (a::b::rest) pos) (Z4 ta tb):=by
 intro Γ s Y H Q I h;show BoolOp_and (h8 (g Γ s Y H _ I h) λv j ⟨x,e,f,k,d⟩=>?_);let⟨c,rfl,d⟩:=d;cases k;show tH ?_;cases c with
 |true=>show i Γ j Y e Q f d
 |false=>show#[.bl χ,e,f,rfl,d]
def N0(d:PE X a ta):PE X (.UnaryOp .Not a pos) (ad ta):=by
 intro Γ s Z H Q I h;show UnaryOp_ (h8 (d Γ s Z H _ I h) λv i ⟨x,e,f,g,b⟩=>?_);let⟨c,rfl,b⟩:=b;cases g;show not_of (tH #[.bl (!c),e,f,rfl,b])
end
def j9(K:aH)(H:Hp)(a:Addr)(xs:ι V):Prop:=
 Rd H a (.lst xs) \/
  ∃(o:Obj)(b:Array aF)(n:Nat),K.lookup a=ψ o/\o.cls = .type "list"/\o.dict=ξ/\o.data = .seq b n/\b.size<=sizeLine/\c6 xs b.toList
def ju(K:aH)(H:Hp)(a:Addr)(xs:ι V):Prop:=
 Rd H a (.tup xs) \/
  ∃(o:Obj)(b:Array aF)(n:Nat),K.lookup a=ψ o/\o.cls = .type "tuple"/\o.data = .seq b n/\b.size<=sizeLine/\c6 xs b.toList
def ar:aF->Option V
 | .none=>ψ .non
 | .bool b=>ψ (.bl b)
 | .int i _=>ψ (.int i)
 | .str x _=>ψ (.str x)
 | .bytes b _=>ψ (.byt b)
 | .float b _=>ψ (.flt b)
 | .ref a=>ψ (.ref a)
 | .type n=>ψ (.ty n)
 |_=>ξ
def RelV.abs(r:RelV x u):ar u=ψ x:=by
 cases x with
 |non=>cases r;rfl
 |bl _=>cases r;rfl
 |int _=>let⟨t,rfl⟩:=r;rfl
 |str _=>let⟨t,rfl⟩:=r;rfl
 |byt _=>let⟨t,rfl⟩:=r;rfl
 |flt _=>let⟨t,rfl⟩:=r;rfl
 |ref _=>cases r;rfl
 |ty _=>cases r;rfl
def RelV.inj(r:RelV x u)(q:RelV y u):x=y:=dG (r.abs.symm.trans q.abs)
def c6.inj(h:c6 xs us)(k:c6 ys us):xs=ys:=by
 induction h generalizing ys with
 |nil=>cases k;rfl
 |cons r t a=>cases k with |cons b c=>rw[r.inj b,a c]
section
variable{σ:St}{H:Hp}{s:aJ}{a:Addr}{xs ys:ι V}
def j9.of{K:aH}(h:H a=ψ (.lst xs)):j9 K H a xs:=.inl (.inl h)
def ju.of{K:aH}(h:H a=ψ (.tup xs)):ju K H a xs:=.inl (.inl h)
def Inv.list(I:Inv X Γ σ H s)(h:j9 X.K H a xs):∃its:ι aF,c6 xs its/\PlainL s.heap a its.toArray/\xs.length<=sizeLine:=by
 rcases h with h | ⟨o,its,n,b,c,d,f,g,r⟩
 ·let⟨z,its,n,r,e⟩:=h.ok I.hok;show#[its,r,#[_,n,e,rfl,rfl,rfl],z]
 ·show#[its.toList,r,#[o,n,I.kIn a o b,c,d,~~~f],?_];have e:=r.length;erw[bX] at e;lia
def Inv.tuple(I:Inv X Γ σ H s)(h:ju X.K H a xs):∃its:ι aF,c6 xs its/\IsTup s.heap a its.toArray/\xs.length<=sizeLine:=by
 rcases h with h | ⟨o,its,n,b,c,d,f,r⟩
 ·let⟨z,its,r,p⟩:=h.ok I.hok;show#[its,r,p,z]
 ·show#[its.toList,r,#[o,I.kIn a o b,c,n,~~~d],?_];have e:=r.length;erw[bX] at e;lia
def Inv.list_inj(I:Inv X Γ σ H s)(h:j9 X.K H a xs)(h':j9 X.K H a ys):xs=ys:=by
 obtain⟨c,r,⟨o,n,e,_,_,d⟩,_⟩:=I.list h;obtain⟨b,i,⟨j,k,f,_,_,g⟩,_⟩:=I.list h';rw[e] at f;cases f;rw[d] at g;injection g with d1 _;have:c=b:= ~~~Φ Array.toList d1
 subst this;show r.inj i
def Inv.tuple_inj(I:Inv X Γ σ H s)(h:ju X.K H a xs)(h':ju X.K H a ys):xs=ys:=by
 obtain⟨c,r,⟨o,e,_,n,d⟩,_⟩:=I.tuple h;obtain⟨b,i,⟨j,f,_,k,g⟩,_⟩:=I.tuple h';rw[e] at f;cases f;rw[d] at g;injection g with d1 _;have:c=b:= ~~~Φ Array.toList d1
 subst this;show r.inj i
end
abbrev Cx.wish(X:Cx)(E:aF->aJ->Prop):Cx:={X with xe:=E}
abbrev Cx.nox(X:Cx):Cx:=X.wish λ_ _=>False
def Cx.Ok.wish{X:Cx}(ok:X.Ok)(E:aF->aJ->Prop):(X.wish E).Ok:=
 #[ok.mod,ok.kind,ok.glob,ok.blt,ok.above,ok.inj,ok.has,ok.cab,ok.hd,ok.frames,ok.stk,ok.exf,ok.bs,ok.bsz,ok.noex,ok.exfs,ok.funs,ok.frf]
def Cx.Ok.unwish{X:Cx}{E:aF->aJ->Prop}(ok:(X.wish E).Ok):X.Ok:=
 #[ok.mod,ok.kind,ok.glob,ok.blt,ok.above,ok.inj,ok.has,ok.cab,ok.hd,ok.frames,ok.stk,ok.exf,ok.bs,ok.bsz,ok.noex,ok.exfs,ok.funs,ok.frf]
section
variable{X:Cx}{σ:St}{s:aJ}
def Inv.wish(I:Inv X Γ σ H s)(E:aF->aJ->Prop):Inv (X.wish E) Γ σ H s:=#[I.ok.wish E,I.os,I.bare,I.base,I.loc,I.cell,I.free,I.freeC,I.pin,I.hok,I.len]
def Inv.unwish(I:Inv (X.wish E) Γ σ H s):Inv X Γ σ H s:=#[I.ok.unwish,I.os,I.bare,I.base,I.loc,I.cell,I.free,I.freeC,I.pin,I.hok,I.len]
def SP.unwish{D:uf}(h:SP (X.wish E) Γ D f s'):SP X Γ D f s':=by
 cases f with
 |next=>let⟨a,b,I,q⟩:=h;show#[a,b,I.unwish,q]
 |brk=>let⟨a,b,I,q⟩:=h;show#[a,b,I.unwish,q]
 |cont=>let⟨a,b,I,q⟩:=h;show#[a,b,I.unwish,q]
 |ret u=>let⟨v,a,b,I,r,q⟩:=h;show#[v,a,b,I.unwish,r,q]
def qf.nox{st:ι Stmt}{t:TS}(h:qf X.nox st t):qf X st t:=λΓ s σ H D I a=>
 gM (h Γ s σ H D (I.wish _) a) (λ_ _ q=>q.unwish) λ_ _ z=>mV z
end
section
variable{X:Cx}{st:Stmt}{rest:ι Stmt}{t u:TS}{te:TE}{pos:Pos}
def aa:TS:=λD Z H=>D.nx Z H
def fj(t u:TS):TS:=λD Z H=>t {D with nx:=u D} Z H
def Yz:qf X [] aa:=λ_ _ Z H _ I h=>vO #[Z,H,I,h]
def Ur(a:PS X st t)(b:qf X rest u):qf X (st::rest) (fj t u):=by
 intro Γ s Z H D I h;show OZ (h8 (a Γ s Z H {D with nx:=u D} I h) λf c q=>?_);cases f with
 |next=>
  let⟨d,e,g,q⟩:=q;show b Γ c d e D g q
 |ret v=>show q
 |brk=>show q
 |cont=>show q
def Za(a:PS X st t):qf X [st] t:=by
 intro Γ s Z H D I h;show OZ (h8 (a Γ s Z H D I h) λf b q=>?_);cases f with
 |next=>show vO q
 |ret v=>show q
 |brk=>show q
 |cont=>show q
def Inv.quiet{Z:St}{s:aJ}(I:Inv X Γ Z H s):interactive X.env=χ:=by simp[interactive,I.ok.kind]
def Z9(te:TE):TS:=λD Y H=>te Y H λ_ a=>D.nx Y a
def SU(a:PE X e te)(b:swapsWith e ξ pos.line X.env=pure χ:=by rfl):PS X (.Expr e pos) (Z9 te):=by
 intro Γ s Y H D I h;show wpAny_Expr_any (h8 (a Γ s Y H _ I h) λv g ⟨x,c,d,i,f⟩=>#[Y,c,d,f]) I.quiet b
def fi(te:TE):TS:=λD Z H=>te Z H D.rt
def N9(a:PE X e te):PS X (.Return (ψ e) pos) (fi te):=by
 intro Γ s Z H D I h;show wpAny_Return_some (h8 (a Γ s Z H _ I h) λv g ⟨x,b,c,d,f⟩=>#[x,Z,b,c,d,f])
def fb(c:TT)(t u:TS):TS:=λD Z H=>c Z H λb a=>if b=ζ then t D Z a else u D Z a
def X6{c:Expr}(j:PT X c tc)(k:qf X a t)(l:qf X b u):PS X (.If c a b pos) (fb tc t u):=by
 intro Γ s Z H D I h;show wpAny_If (h8 (j Γ s Z H _ I h) λd e ⟨f,g,i⟩=>?_);cases d with
 |true=>show k Γ e Z f D g i
 |false=>show l Γ e Z f D g i
def Q7:TS:=λ_ _ _=>False
def Uo:PS X st Q7:=λ_ _ _ _ _ _ h=>h.elim
end
abbrev TG:=V->St->Hp->(St->Hp->Prop)->Prop
abbrev wz:=ι V->St->Hp->(St->Hp->Prop)->Prop
def PG(X:Cx)(a:Expr)(t:TG):Prop:=
 ∀(Γ:ι (Addr×Obj))(s:aJ)(Z:St)(H:Hp)(v:V)(u:aF)(Q:St->Hp->Prop),Inv X Γ Z H s->RelV v u->t v Z H Q ->
  Θ X (assign a X.env u) (λ_ d=>∃b c,Inv X Γ b c d/\Q b c) X.xe s
def u8(X:Cx)(ts:ι Expr)(t:wz):Prop:=
 ∀(Γ:ι (Addr×Obj))(s:aJ)(Z:St)(H:Hp)(a:ι V)(b:ι aF)(Q:St->Hp->Prop),Inv X Γ Z H s->c6 a b->t a Z H Q ->
  Θ X (assignInOrder ((assignEach ts X.env).map (·.2)) b) (λ_ e=>∃c d,Inv X Γ c d e/\Q c d) X.xe s
section
variable{X:Cx}{pos:Pos}
def A8(i:Nat):TG:=λv Z H Q=>Q (Z.set i (ψ v)) H
def Yt(a:X.N.Nodup)(hi:X.N[i]?=ψ x)(b:Loc X.env.scope x)(c:X.fn x=ζ\/X.env.scope.names.lookup x=ψ .local:=by walk_at "loc"):PG X (.Name x pos) (A8 i):=by
 intro Γ s Z H v u Q I r h;show MV (MU I a hi b r (λe d=>#[_,H,d,h]) c)
def bo:wz:=λa Z H Q=>a=[]/\Q Z H
def U7(t:TG)(u:wz):wz:=λa Z H Q=>∃v r,a=v::r/\t v Z H λb c=>u r b c Q
def Yu:u8 X [] bo:=by
 intro Γ s Z H a b Q I r h;let⟨e,h⟩:=h;subst e;cases r;show LI #[Z,H,I,h]
def Uk{t:TG}(a:PG X e t)(b:u8 X es u)
  (c:(assignEach (e::es) X.env).map (·.2)=assign e X.env::(assignEach es X.env).map (·.2):=by rfl):u8 X (e::es) (U7 t u):=by
 intro Γ s Z H m n Q I r h;let⟨v,o,d,h⟩:=h;subst d;cases r with
 |cons r f=>
  rw[c];show xA (h8 (a Γ s Z H _ _ _ I r h) λ_ g ⟨i,j,k,l⟩=>?_);show b Γ g i j _ _ Q k f l
def bq(K:aH)(n:Nat)(t:wz):TG:=λv Z H Q=>∃a b,v = .ref a/\ju K H a b/\b.length=n/\t b Z H Q
def N4{es:ι Expr}{k:Nat}{t:wz}{n:Nat}(g:X.calm=ζ)(h:u8 X es t)
  (i:(assignEach es X.env).length=n:=by rfl) (c:(assignEach es X.env).findIdx? (·.1)=ξ:=by rfl):PG X (.Tuple es k pos) (bq X.K n t):=by
 intro Γ s Z H v u Q I r d;let⟨a,j,l,m,q,d⟩:=d;subst l;cases r;let⟨w,f,y,C⟩:=I.tuple m;show assign_Tuple_tuple (I.ok.hd g) y (by simp[i,<-q,f.length]) c λz A=>?_;have B:Inv X Γ Z H {s with heap:=z}:=I.kept (t':=s.toks) λb o e=>A b o (bO (aZ e)) e;show h Γ _ Z H j _ Q B (~~~f) d
def Z5(a:TE)(g:TG):TS:=λD Y H=>a Y H λx b=>g x Y b D.nx
def N6(a:PE X e te)(b:PG X tg g)(c:swapsWithSole [tg] e pos.line X.env=pure χ:=by rfl)(d:swappedStores [tg] e X.env=pure ξ:=by rfl)
  (f:(assignEach [tg] X.env).map (·.2)=[assign tg X.env]:=by rfl):PS X (.Assign [tg] e pos) (Z5 te g):=by
 intro Γ s Y H D I h;show wpAny_Assign_stores (h8 (a Γ s Y H _ I h) λv i ⟨x,j,k,l,m⟩=>?_) c d;rw[f];show h8 (b Γ i Y j x v _ k l m) λ_ n q=>q
def Bm(a:X.N.Nodup)(hi:X.N[i]?=ψ x)(b:Loc X.env.scope x)(c:PE X e te)(d:swapsWith e (ψ (.Name x pos')) pos.line X.env=pure χ:=by rfl)(f:X.fn x=ζ\/X.env.scope.names.lookup x=ψ .local:=by walk_at "loc"):
  PS X (.Assign [.Name x pos'] e pos) (Z5 te (A8 i)):=by
 intro Γ s Y H D I h;show wpAny_Assign_Name (h8 (c Γ s Y H _ I h) λv n ⟨y,g,j,k,l⟩=>?_) d;show MU j a hi b k (λo m=>#[_,g,m,l]) f
def fh(i j:Nat)(a:TA):TS:=λD Z H=>a Z H λb c=>∃v w,b=[v,w]/\D.nx ((Z.set i (ψ v)).set j (ψ w)) c
def N8{g k pt:Pos}{kt k2 y4}(C:X.calm=ζ)(m:X.N.Nodup)(hi:X.N[i]?=ψ x)(E:X.N[j]?=ψ y)(F:i≠j)
  (n:X.env.scope.names.lookup x=ψ .local) (u:X.env.scope.names.lookup y=ψ .local) (G:PA X [a,b] ta)
  (J:swappedStores [.Tuple [.Name x g,.Name y k] kt pt] (.Tuple [a,b] k2 y4) X.env=pure (ψ [x,y]))
  (K:swapsWithSole [.Tuple [.Name x g,.Name y k] kt pt] (.Tuple [a,b] k2 y4) pos.line X.env=pure χ:=by rfl):
  PS X (.Assign [.Tuple [.Name x g,.Name y k] kt pt] (.Tuple [a,b] k2 y4) pos) (fh i j ta):=by
 intro Γ s Z H D I h;rw[exec_Assign_arm];show aC (IU ?_);rw[K];show aC (aO ?_);rw[υ μ];show aC (Tuple_ (h8 (G _ Γ s Z H _ I h) λL c ⟨vs,A,M,O,l⟩=>?_));let⟨v,w,P,l⟩:=l;subst P;obtain⟨d,f,rfl,Q,R⟩:∃d f,L=[d,f]/\RelV v d/\RelV w f:=by
  cases O with
  |cons p q=>
   cases q with
   |cons T U=>
    cases U;show#[_,_,rfl,p,T]
 show fQ ?_ (by show 2<=sizeLine;decide);have V:Inv X Γ Z A {c with heap:=c.heap.push {cls:=.type "tuple",data:=.seq [d,f].toArray}}:=M.kept (t':=c.toks) λb o e=>aN _ e;rw[J];show aC (aO ?_);show Θ X (do rule "assign.swapped-stores";let items <-unpackItems (.ref c.z) 2 ξ;assignInOrder [λv=>bindName X.env y v,λv=>bindName X.env x v] items.reverse;pure Flow.next) _ _ _;show aC (rS (aC (unpackItems_tuple (items:=(mt [d,f])) (I.ok.hd C) (NG c.heap _) λh' W=>?_)));have Y:=V.kept (h':=h') (t':=c.toks) λb o e=>W b o (bO (aZ e)) e;show wpAny _ _ (assignInOrder [λv=>bindName X.env y v,λv=>bindName X.env x v] [f,d] >>= λ_=>pure Flow.next) _ _ _;show aC (xA (WU (MU Y m E (.inl u) R (λs2 I4=>?_) (.inr u))));show xA (WU (MU I4 m hi (.inl n) Q (λs3 B=>LI (aO ?_)) (.inr n)));rw[List.set_comm _ _ (Ne.symm F)] at B;show#[_,A,B,l]
end
section
variable{pos:Pos}
def Q8(c:TT)(g:TS):TS:=λD Z H=>∃W:Nat->St->Hp->Prop,(∃m,W m Z H)/\∀m Z H,W m Z H ->
 c Z H λb a=>if b=ζ then ∃N:St->Hp->Prop,(∀d e,N d e->∃f,f<m/\W f d e)/\g {D with nx:=N,ct:=N,bk:=D.nx} Z a else D.nx Z a
def Uq{c:Expr}(u:PassesOwn (model X.prog X.w) X.A X.env X.xe)(G:PT X c tc)(J:qf X body tb):PS X (.While c body [] pos) (Q8 tc tb):=by
 intro Γ s Z H D I h;obtain⟨W,⟨K,L⟩,a⟩:=h;show wpAny_While (codeAny_whileLoop (λn M=>∃y z,Inv X Γ y z M/\W n y z) ?_ K #[Z,H,I,L]);rintro n O ⟨g,B,P,Q⟩;show mM u (h8 (G Γ O g B _ P (a n g B Q)) λb R ⟨C,E,i⟩=>?_);cases b with
 |true=>
  let⟨N,F,i⟩:=i;rw[Ω rfl];show mM u (h8 (J Γ R g C _ E i) λf T j=>?_);cases f with
  |next=>
   let⟨d,e,k,l⟩:=j;let⟨m,o,q⟩:=F d e l;show#[m,o,d,e,k,q]
  |cont=>
   let⟨d,e,k,l⟩:=j;let⟨m,o,q⟩:=F d e l;show#[m,o,d,e,k,q]
  |brk=>show j
  |ret v=>show j
 |false=>
  rw[υ bR];show vO #[g,C,E,i]
end
structure It where
 go:Nat->Hp->Prop
 yld:Nat->Hp->V->Hp->Prop
 stop:Nat->Hp->Prop
def IZ(X:Cx)(Γ:ι (Addr×Obj))(H:Hp)(b:Addr):Prop:=
 H b=ξ/\b≠X.env.locals/\b∉X.fs/\(b∈X.ex\/X.s₀.z<=b)/\(∀x c,X.env.cells.lookup x=ψ c->c≠b)/\∀p∈X.pn++Γ,p.1≠b
def Inv.fpOk{Z:St}{s:aJ}{b:Addr}(I:Inv X Γ Z H s)(a:s.z<=b)(d:H' b=ξ):IZ X Γ H' b:=by
 show#[d,lE (bF I.lt a),I.nofs a,.inr (dC I.sz a),λx c e z=>?_,λp f z=>?_]
 ·let⟨v,q⟩:=I.cell x c e;show Ψ (bF q.lt (by rw[z];show a)) (iC _)
 ·show Ψ (bF (aZ (I.pin p f).1) (by rw[z];show a)) (iC _)
structure oh(P:bP)(w:cS)(K:aH)(tg:Expr)(J:It)(fp:List Addr)(it:Addr)(tn:Nat->Heap->Prop):Prop where
 mem:it∈fp
 obj:∀i h,tn i h->∀b∈fp,∃o,h.get? b=ψ o/\∀v,o.data≠.cell v
 keep:∀i h h',tn i h->(∀b∈fp,∀o,h.get? b=ψ o->h'.get? b=ψ o)->tn i h'
 item:∀(X:Cx),X.prog=P->X.w=w->X.K=K->X.calm=ζ->∀(i:Nat)(Γ:ι (Addr×Obj))(s:aJ)(σ:St)(H:Hp)(E:aF->aJ->Prop),Inv X Γ σ H s->(∀b∈fp,IZ X Γ H b)->tn i s.heap->J.go i H ->
  wpAny (model P w) X.A (pyNext (.ref it)) (λr s1=>∃u,r=ψ u /\
   wpAny (model P w) X.A (letOwnedTupleGo tg (.ref it) u) (λ_ s2=>∃x H',Inv X Γ σ H' s2/\RelV x u/\J.yld i H x H'/\tn (i+1) s2.heap/\∀b∈fp,H' b=ξ) E s1) E s
 done:∀(X:Cx),X.prog=P->X.w=w->X.K=K->X.calm=ζ->∀(i:Nat)(Γ:ι (Addr×Obj))(s:aJ)(σ:St)(H:Hp)(E:aF->aJ->Prop),Inv X Γ σ H s->(∀b∈fp,IZ X Γ H b)->tn i s.heap->J.stop i H ->
  wpAny (model P w) X.A (pyNext (.ref it)) (λr s1=>r=ξ/\Inv X Γ σ H s1) E s
 self:∀(A:cV)(i:Nat)(s:aJ)(Q:aF->aJ->Prop)(E:aF->aJ->Prop),tn i s.heap->Q (.ref it) s->wpAny (model P w) A (pyIter (.ref it)) Q E s
abbrev TI:=St->Hp->(It->Hp->Prop)->Prop
def PIE(X:Cx)(Γ:ι (Addr×Obj))(Z:St)(h:Expr)(R:It->Hp->Prop)(a:aF)(d:aJ):Prop:=
 ∃(e:Addr)(f:ι Addr)(g:Nat->Heap->Prop)(J:It)(c:Hp),a = .ref e/\Inv X Γ Z c d/\oh X.prog X.w X.K h J f e g/\g 0 d.heap/\(∀b∈f,IZ X Γ c b)/\R J c
def PI(X:Cx)(a iter:Expr)(b:TI):Prop:=
 ∀(Γ:ι (Addr×Obj))(s:aJ)(Z:St)(H:Hp)(R:It->Hp->Prop),Inv X Γ Z H s->b Z H R ->
  Θ X (eval iter X.env) (λv c=>Θ X (pyIter v) (PIE X Γ Z a R) X.xe c) X.xe s
def UQ{s:aJ}(b:s.heap.get? it=ψ o)(c:o.cls = .type n)(d:o.data = .fields vs)
  (e:["enumerate","zip","dict_itemiterator","dict_reverseitemiterator","odict_iterator","itertools.zip_longest","itertools.pairwise"].contains n=χ) (a:Q () s):wpAny M A (letOwnedTupleGo tg (.ref it) u) Q E s:=by
 unfold letOwnedTupleGo;cases tg <;> first
  |show aO a
  | (cases u <;> first
    |show aO a
    | (show aC (wpAny_load b ?_);rw[c,d];show wpAny M A (if(["enumerate","zip","dict_itemiterator","dict_reverseitemiterator","odict_iterator","itertools.zip_longest","itertools.pairwise"].contains n && vs[0]? == ψ (rawInt _))=ζ then _ else _) Q E s;rw[υ (by intro h;rw[e,wQ] at h;cases h)];show aO a))
def Itl(K:aH)(a:Addr):It:=
 #[λi H=>∃b x,j9 K H a b/\b[i]?=ψ x,λi H x c=>c=H/\∀b,j9 K H a b->b[i]?=ψ x,λi H=>∃b,j9 K H a b/\b.length<=i]
def Itt(K:aH)(a:Addr):It:=
 #[λi H=>∃b x,ju K H a b/\b[i]?=ψ x,λi H x c=>c=H/\∀b,ju K H a b->b[i]?=ψ x,λi H=>∃b,ju K H a b/\b.length<=i]
def xw(lo:Int)(n:Nat):It:=#[λi _=>i<n,λi H x a=>a=H/\x = .int (lo+i),λi _=>n<=i]
def Qi{P:bP}{w:cS}{K:aH}{Q:Expr}(a f:Addr):oh P w K Q (Itl K a) [f] f (λi h=>h.IsListIter f a i) where
 mem:=η
 obj:=λi h st b g=>by
  have e:b=f:= ~~~g
  subst e;let⟨o,e,c,d⟩:=st;show#[o,e,λv z=>by rw[d] at z;cases z]
 keep:=λi h j st k=>st.at λo e=>k f η o e
 item:=by
  intro X n q y N i Γ s Z H E I l st A;subst n q y;let⟨R,x,m,B⟩:=A;let⟨C,D,p,T⟩:=I.list m;let⟨u,U,V⟩:=D.get B;let⟨F,G,W,J,L,M⟩:=l f η;show wpAny_pyNext_list_item st p.isList (x:=u) (~~~U) λj O Y=>?_;have I1:Inv X Γ Z H {s with heap:=j}:=I.turned (t':=s.toks) (λb o g e=>(Y.2 b g).trans e) F G J L M;let⟨o,e,c,d⟩:=id O;show#[u,rfl,UQ (s:={s with heap:=j}) e c d μ #[x,H,I1,V,#[rfl,λys hy=>by rw[I.list_inj hy m];show B],O,λb g=>(l b g).1]]
 done:=by
  intro X n q y N i Γ s Z H E I l st A;subst n q y;let⟨R,m,B⟩:=A;let⟨C,D,p,T⟩:=I.list m;let⟨F,G,W,J,L,M⟩:=l f η;have hl:=D.length;show wpAny_pyNext_list_end (I.ok.hd N) st p.isList ε λj eb=>#[rfl,I.turned (t':=s.toks) (λb o g e=>eb b o g e) F G J L M]
 self:=λ_ _ _ _ _ st h=>wpAny_pyIter_listiter st h
def Jy{P:bP}{w:cS}{K:aH}{Q:Expr}(a f:Addr):oh P w K Q (Itt K a) [f] f (λi h=>h.IsTupleIter f a i) where
 mem:=η
 obj:=λi h st b g=>by
  have e:b=f:= ~~~g
  subst e;let⟨o,e,c,d⟩:=st;show#[o,e,λv z=>by rw[d] at z;cases z]
 keep:=λi h l st k=>st.at λo e=>k f η o e
 item:=by
  intro X q y A N i Γ s Z H E I m st B;subst q y A;let⟨R,x,n,C⟩:=B;let⟨j,D,p,T⟩:=I.tuple n;let⟨u,U,V⟩:=D.get C;let⟨F,G,W,J,L,M⟩:=m f η;show wpAny_pyNext_tuple_item st (show s.heap.IsTuple a j.toArray from p) (x:=u) (~~~U) λl O Y=>?_;have I1:Inv X Γ Z H {s with heap:=l}:=I.turned (t':=s.toks) (λb o g e=>(Y.2 b g).trans e) F G J L M;let⟨o,e,c,d⟩:=id O;show#[u,rfl,UQ (s:={s with heap:=l}) e c d μ #[x,H,I1,V,#[rfl,λys hy=>by rw[I.tuple_inj hy n];show C],O,λb g=>(m b g).1]]
 done:=by
  intro X q y A N i Γ s Z H E I m st B;subst q y A;let⟨R,n,C⟩:=B;let⟨j,D,p,T⟩:=I.tuple n;let⟨F,G,W,J,L,M⟩:=m f η;have hl:=D.length;show wpAny_pyNext_tuple_end (I.ok.hd N) st (show s.heap.IsTuple a j.toArray from p) ε λl eb=>#[rfl,I.turned (t':=s.toks) (λb o g e=>eb b o g e) F G J L M]
 self:=λ_ _ _ _ _ st h=>wpAny_pyIter_tupleiter st h
def WP{P:bP}{w:cS}{K:aH}{G:Expr}(a:Addr)(lo:Int)(n:Nat):oh P w K G (xw lo n) [a] a (λi h=>IsRangeIter h a (lo+(i:Nat)*1) ((n:Int)-(i:Nat)) 1) where
 mem:=η
 obj:=λi h st b c=>by
  have e:b=a:= ~~~c
  subst e;show#[_,st,λv z=>by
   have J:xY _=NC v:=z;cases J]
 keep:=λi h d st k=>k a η _ st
 item:=by
  intro X g j l m i Γ s Z H E I f st q;subst g j l;let⟨u,y,L,A,B,C⟩:=f a η;have W:=PH (prog:=X.prog) (w:=X.w) (I.ok.hd m) a lo 1 n;show W.item i s _ _ q st λv d D M F N=>?_;let⟨t,rfl⟩:=M;have O:Inv X Γ Z H {s with heap:=d,toks:=D}:=I.turned (λb o c e=>N b o (~~~c) e) u y A B C;show#[_,rfl,UQ (s:={s with heap:=d,toks:=D}) (n:="range_iterator") F rfl rfl μ #[.int (lo+i),H,O,#[t,?_],#[rfl,rfl],F,λb c=>(f b c).1]];rw[Int.mul_one]
 done:=by
  intro X g j l m i Γ s Z H E I f st q;subst g j l;let⟨u,y,L,A,B,C⟩:=f a η;show tG (I.ok.hd m) st (by have:n<=i:=q;lia) λd Q=>#[rfl,I.turned (t':=s.toks) (λb o c e=>Q b o c e) u y A B C]
 self:=λ_ _ _ _ _ st h=>oE st h
section
variable{X:Cx}{tg:Expr}
def U9(K:aH)(c:TE):TI:=λZ H R=>c Z H λx b=>∃a,x = .ref a/\(∃d,j9 K b a d)/\R (Itl K a) b
def br(K:aH)(c:TE):TI:=λZ H R=>c Z H λx b=>∃a,x = .ref a/\(∃d,ju K b a d)/\R (Itt K a) b
def Yv(f:PE X l tl):PI X tg l (U9 X.K tl):=by
 intro Γ s Z H R I h;show h8 (f Γ s Z H _ I h) λv c ⟨x,g,d,i,j⟩=>?_;obtain⟨a,e,⟨u,k⟩,q⟩:=j;subst e;cases i;let⟨m,w,p,y⟩:=d.list k;show yX p.isList ?_;show#[c.z,[c.z],_,_,g,rfl,d.kept (t':=c.toks) λb o e=>aN _ e,Qi a _,#[_,bQ _ rfl,rfl,rfl],λb n=>?_,q];have e:b=c.z:= ~~~n
 subst e;show d.fpOk (aS _) (d.hok.fresh (aS _))
def N5(g:PE X l tl):PI X tg l (br X.K tl):=by
 intro Γ s Z H R I h;show h8 (g Γ s Z H _ I h) λv c ⟨x,i,d,j,k⟩=>?_;obtain⟨a,e,⟨u,m⟩,q⟩:=k;subst e;cases j;let⟨f,w,p,y⟩:=d.tuple m;show wpAny_pyIter_tuple (show c.heap.IsTuple a f.toArray from p) ?_;show#[c.z,[c.z],_,_,i,rfl,d.kept (t':=c.toks) λb o e=>aN _ e,Jy a _,#[_,bQ _ rfl,rfl,rfl],λb n=>?_,q];have e:b=c.z:= ~~~n
 subst e;show d.fpOk (aS _) (d.hok.fresh (aS _))
def Fg{Z:St}{s:aJ}{lo hi:Int}{t u v:Tok}(I:Inv X Γ Z H s)(c:-(2 ^ 62)<=lo)(d:lo<2 ^ 62)(f:-(2 ^ 62)<=hi)(g:hi<2 ^ 62)
  (q:R (xw lo (hi-lo).toNat) H):Θ X (pyIter (.ref s.z)) (PIE X Γ Z tg R) E {s with heap:=s.heap.push {cls:=.type "range",data:=.fields (mt [.int lo t,.int hi u,.int 1 v])},toks:=tk}:=by
 show xV (ED ..) (small_one c d f g) ?_;have a:Inv X Γ Z H {s with heap:=s.heap.push {cls:=.type "range",data:=.fields (mt [.int lo t,.int hi u,.int 1 v])},toks:=tk}:=I.kept λb o e=>aN _ e;show#[(s.heap.push {cls:=.type "range",data:=.fields (mt [.int lo t,.int hi u,.int 1 v])}).objs.size,[(s.heap.push {cls:=.type "range",data:=.fields (mt [.int lo t,.int hi u,.int 1 v])}).objs.size],_,_,H,rfl,
  a.kept (t':=tk) λb o e=>aN _ e,WP _ lo (hi-lo).toNat,?_,λb h=>?_,q]
 ·have i:lo+((0:Nat):Int)*1=lo:=η
  have j:(((hi-lo).toNat:Nat):Int)-((0:Nat):Int)=dS lo hi 1:=by rw[XR];split <;> lia
  show IsRangeIter _ _ (lo+((0:Nat):Int)*1) ((((hi-lo).toNat:Nat):Int)-((0:Nat):Int)) 1;rw[i,j];show bQ _ rfl
 ·have e:b=(s.heap.push {cls:=.type "range",data:=.fields (mt [.int lo t,.int hi u,.int 1 v])}).objs.size:= ~~~h
  subst e;show a.fpOk (aS _) (a.hok.fresh (aS _))
def V0(a:TA):TI:=λZ H R=>a Z H λb c=>∃j:Int,b=[.int j]/\-(2 ^ 62)<=j/\j<2 ^ 62/\R (xw 0 j.toNat) c
def V2(a:TA):TI:=λZ H R=>a Z H λb c=>∃i j:Int,b=[.int i,.int j]/\(-(2 ^ 62)<=i/\i<2 ^ 62/\-(2 ^ 62)<=j/\j<2 ^ 62)/\R (xw i (j-i).toNat) c
def Ox{p pos:Pos}(c:Gl X "range")(d:X.mg "range" = ξ)(f:PA X [a] ta)(g:starEach [a] X.env=[(χ,eval a X.env)]:=by rfl):PI X tg (.Call (.Name "range" p) [a] [] pos) (V0 ta):=by
 intro Γ s Z H R I h;show Call_ (lU I c d BU (cN (h8 (f pos Γ s Z H _ I h) λn o ⟨u,v,i,k,b⟩=>?_) g rfl));let⟨j,e,b,l,q⟩:=b;subst e;cases k with
 |cons r m=>
  cases m;let⟨t,rfl⟩:=r;show call_range_1 (Fg i ν ν b l (~~~q))
def Oy{a b:Expr}{f:TA}{p pos:Pos}(k:Gl X "range")(l:X.mg "range" = ξ)(m:PA X [a,b] f)(n:starEach [a,b] X.env=[(χ,eval a X.env),(χ,eval b X.env)]:=by rfl)(g:starEach [b] X.env=[(χ,eval b X.env)]:=by rfl):
  PI X tg (.Call (.Name "range" p) [a,b] [] pos) (V2 f):=by
 intro Γ s Z H R I h;show Call_ (lU I k l BU (cN (h8 (m pos Γ s Z H _ I h) λA B ⟨C,D,o,u,c⟩=>?_) (by rw[n,g]) (by rw[g];rfl)));obtain⟨i,j,e,⟨c,v,w,y⟩,q⟩:=c;subst e;cases u with
 |cons r d=>
  cases d with
  |cons z d=>
   cases d;let⟨t,rfl⟩:=r;let⟨E,rfl⟩:=z;show call_range_2 (Fg o c v w y q)
def eh(d:TI)(g:TG)(e:TS):TS:=λD Z H=>d Z H λJ f=>∃W:Nat->Nat->St->Hp->Prop,(∃m,W 0 m Z f)/\∀i m Z H,W i m Z H ->
 (J.stop i H/\D.nx Z H)\/(J.go i H/\∃N:St->Hp->Prop,(∀b a,N b a->∃c,c<m/\W (i+1) c b a)/\∀x a,J.yld i H x a->g x Z a λh j=>e {D with nx:=N,ct:=N,bk:=D.nx} h j)
def Bj(a:ι Addr)(h:Heap):ι (Addr×Obj):=a.filterMap λb=>(h.get? b).map λo=>(b,o)
def uD(a:b∈fp)(e:h.get? b=ψ o):(b,o)∈Bj fp h:=nY.mpr #[b,a,by rw[e];rfl]
def Oo(a:p∈Bj fp h):p.1∈fp/\h.get? p.1=ψ p.2:=by
 let⟨b,c,e⟩:=nY.mp a;cases q:h.get? b with
 |none=>rw[q] at e;cases e
 |some o=>
  rw[q] at e;have d:(b,o)=p:=dG e;subst d;show#[c,q]
def Inv.pinned{Z:St}{s:aJ}(I:Inv X Γ Z H s)(f:∀b∈fp,IZ X Γ H b)(g:∀b∈fp,∃o,s.heap.get? b=ψ o/\∀v,o.data≠.cell v):Inv X (Γ++Bj fp s.heap) Z H s:=
 I.pins_of λp h=>(bV.mp h).elim (λz=>I.pin p (bI _ z)) λz=>by
  let⟨a,e⟩:=Oo z;let⟨i,j,k,_⟩:=f p.1 a;let⟨o,c,d⟩:=g p.1 a;rw[e] at c;cases c;show#[e,i,j,k,d]
def Inv.unpinned{Z:St}{s:aJ}(I:Inv X (Γ++pl) Z H s):Inv X Γ Z H s:=I.pins_of λp a=>I.pin p (bI _ (dY _ a))
def N7{pos:Pos}(y:PassesOwn (model X.prog X.w) X.A X.env X.xe)(U:X.calm=ζ)(hi:PI X tg iter wi)(hg:PG X tg g)(a:qf X body tb)
  (hs:∀x,foldedSetIterable iter X.env x=pure x:=by intro _;rfl):PS X (.For tg iter body [] pos) (eh wi g tb):=by
 intro Γ s Z H D I h;show wpAny_For (h8 (hi Γ s Z H _ I h) λv s1 h1=>h8 h1 λitv s2 h2=>?_) hs;obtain⟨it,z,V,J,H2,e,I2,T,pj,Y,W,⟨m0,w0⟩,B⟩:=h2;subst e;have L:∀{l:Hp},(∀b∈z,l b=ξ)->∀b∈z,IZ X Γ l b:=λhn b a=>#[hn b a,(Y b a).2];show codeAny_forLoop_any (λn s'=>∃i C l,Inv X Γ C l s'/\V i s'.heap/\(∀b∈z,l b=ξ)/\W i n C l) ?_ m0 #[0,Z,H2,I2,pj,λb a=>(Y b a).1,w0];rintro n s3 ⟨i,E,K,I3,wj,F,w3⟩;rcases B i n E K w3 with⟨stop,qn⟩ | ⟨go,N,hN,step⟩
 ·show mM y (h8 (T.done X rfl rfl rfl U i Γ s3 E K X.xe I3 (L F) wj stop) λr s4 ⟨M,I4⟩=>?_);subst M;show vO #[E,K,I4,qn]
 ·show mM y (h8 (T.item X rfl rfl rfl U i Γ s3 E K X.xe I3 (L F) wj go) λr s4 ⟨u,M,h4⟩=>?_);subst M;show mM y (h8 h4 λ_ s5 ⟨x,H5,I5,r5,y5,O,P⟩=>?_);have Q:=I5.pinned (L P) (T.obj _ _ O);show mM y (h8 (hg _ s5 E H5 x u _ Q r5 (step x H5 y5)) λ_ s6 ⟨Z6,H6,I6,q6⟩=>?_);show mM y (h8 (a _ s6 Z6 H6 _ I6 q6) λf R q=>?_);have again:∀{c:St}{j:Hp},Inv X (Γ++Bj z s5.heap) c j R->N c j->∃m,m<n/\∃i C l,Inv X Γ C l R/\V i R.heap/\(∀b∈z,l b=ξ)/\W i m C l:=λ{c j} k G=>by
   let⟨m',hm,w7⟩:=hN c j G;show#[m',hm,i+1,c,j,k.unpinned,T.keep _ _ _ O λb a o e=>(k.pin (b,o) (bI _ (bI _ (uD a e)))).1,λb a=>?_,w7];let⟨o,e,d⟩:=T.obj _ _ O b a;show(k.pin (b,o) (bI _ (bI _ (uD a e)))).2.1
  cases f with
  |next=>let⟨c,j,k,G⟩:=q;show again k G
  |cont=>let⟨c,j,k,G⟩:=q;show again k G
  |brk=>let⟨c,j,k,q⟩:=q;show#[c,j,k.unpinned,q]
  |ret v=>let⟨x7,c,j,k,r7,q⟩:=q;show#[x7,c,j,k.unpinned,r7,q]
end
abbrev R2:=V->V->Hp->VK->Prop
def o_(X:Cx)(f:aF->aF->Sem aF)(r:R2):Prop:=
 ∀(Γ:ι (Addr×Obj))(s:aJ)(Z:St)(H:Hp)(x y:V)(v u:aF)(Q:VK),Inv X Γ Z H s->RelV x v->RelV y u->r x y H Q ->
  Θ X (f v u) (EP X Γ Z Q) X.xe s
def UnR(X:Cx)(f:aF->Sem aF)(r:V->Hp->VK->Prop):Prop:=
 ∀(Γ:ι (Addr×Obj))(s:aJ)(Z:St)(H:Hp)(x:V)(v:aF)(Q:VK),Inv X Γ Z H s->RelV x v->r x H Q ->
  Θ X (f v) (EP X Γ Z Q) X.xe s
def HW(X:Cx)(f:aF)(r:ι V->Hp->VK->Prop):Prop:=
 ∀(Γ:ι (Addr×Obj))(s:aJ)(Z:St)(H:Hp)(a:ι V)(b:ι aF)(Q:VK),Inv X Γ Z H s->c6 a b->r a H Q ->
  Θ X (call f b) (EP X Γ Z Q) X.xe s
def tOp(r:R2)(a b:TE):TE:=λZ H Q=>a Z H λx c=>b Z c λy d=>r x y d Q
def tUn(r:V->Hp->VK->Prop)(a:TE):TE:=λZ H Q=>a Z H λx b=>r x b Q
def rI(C:Int->Int->Prop)(g:Int->Int->V):R2:=λx y H Q=>∃i j,x = .int i/\y = .int j/\C i j/\Q (g i j) H
def zw(g:Int->Int->V):R2:=λx y H Q=>∃i j,x = .int i/\y = .int j/\Q (g i j) H
def rU(g:Int->V):V->Hp->VK->Prop:=λx H Q=>∃i,x = .int i/\Q (g i) H
section
variable{a b c:Expr}{pos:Pos}
def E3(d:PE X a ta)(e:PE X b tb){s:aJ}{Z:St}{R:V->V->Hp->Prop}(I:Inv X Γ Z H s)
  (h:ta Z H λx H1=>tb Z H1 λy H2=>R x y H2) {Q:aF->aJ->Prop} {f:aF->aF->Sem aF}
  (g:∀v u s2 x y H2,Inv X Γ Z H2 s2->RelV x v->RelV y u->R x y H2->Θ X (f v u) Q X.xe s2):
  Θ X (eval a X.env) (λv s₁=>Θ X (eval b X.env) (λu s₂=>Θ X (f v u) Q X.xe s₂) X.xe s₁) X.xe s:=by
 show h8 (d Γ s Z H _ I h) λv i ⟨x,H1,j,k,l⟩=>?_;show h8 (e Γ i Z H1 _ j l) λu s2 ⟨y,H2,m,n,o⟩=>?_;show g v u s2 x y H2 m k n o
def X4(d:o_ X (binaryOp op) r)(e:PE X a ta)(f:PE X b tb):PE X (.BinOp a op b pos) (tOp r ta tb):=by
 intro Γ s Z H Q I h;show wpAny_BinOp (E3 e f I h λv u g x y i j k l q=>d Γ g Z i x y v u Q j k l q)
def X5(d:UnR X (unaryOp op) r)(e:PE X a ta):PE X (.UnaryOp op a pos) (tUn r ta):=by
 intro Γ s Z H Q I h;show UnaryOp_ (h8 (e Γ s Z H _ I h) λv f ⟨x,g,i,j,k⟩=>d Γ f Z g x v Q i j k)
def zt{g:Int->Int->Int}
  (rule:∀(i j:Int)(t u:Tok)(s:aJ)(Q:aF->aJ->Prop)(E:aF->aJ->Prop),C i j->Q (.int (g i j) s.toks) {s with toks:=s.toks+1}->Θ X (f (.int i t) (.int j u)) Q E s):
  o_ X f (rI C λi j=>.int (g i j)):=by
 intro Γ s Z H x y v u Q I d e h;let⟨i,j,rfl,rfl,k,q⟩:=h;let⟨t,rfl⟩:=d;let⟨l,rfl⟩:=e;show rule i j t l s _ _ k #[.int (g i j),H,I.tok _,#[_,rfl],q]
def Ym{g:Int->Int->Bool}
  (rule:∀(i j:Int)(t u:Tok)(s:aJ)(Q:aF->aJ->Prop)(E:aF->aJ->Prop),Q (.bool (g i j)) s->Θ X (f (.int i t) (.int j u)) Q E s):
  o_ X f (zw λi j=>.bl (g i j)):=by
 intro Γ s Z H x y v u Q I d e h;let⟨i,j,rfl,rfl,q⟩:=h;let⟨t,rfl⟩:=d;let⟨k,rfl⟩:=e;show rule i j t k s _ _ #[.bl (g i j),H,I,rfl,q]
def unI{g:Int->Int}
  (rule:∀(i:Int)(t:Tok)(s:aJ)(Q:aF->aJ->Prop)(E:aF->aJ->Prop),Q (.int (g i) s.toks) {s with toks:=s.toks+1}->Θ X (f (.int i t)) Q E s):
  UnR X f (rU λi=>.int (g i)):=by
 intro Γ s Z H x v Q I d h;let⟨i,rfl,q⟩:=h;let⟨t,rfl⟩:=d;show rule i t s _ _ #[.int (g i),H,I.tok _,#[_,rfl],q]
def R5:UnR X (unaryOp .USub) (rU λi=>.int (-i)):=unI λ_ _ _ _ _ q=>neg_int q
end
def Z2:V->V->Bool
 | .non,.non=>ζ | .non,.int _=>ζ | .int _,.non=>ζ | .non,.bl _=>ζ | .bl _,.non=>ζ | .non,.str _=>ζ | .str _,.non=>ζ
 | .int _,.int _=>ζ | .bl _,.bl _=>ζ | .str _,.str _=>ζ | .byt _,.byt _=>ζ
 | .int _,.str _=>ζ | .str _,.int _=>ζ | .bl _,.str _=>ζ | .str _,.bl _=>ζ
 |_,_=>χ
def rEq:R2:=λx y H Q=>Z2 x y=ζ/\Q (.bl (decide (x=y))) H
def rNe:R2:=λx y H Q=>Z2 x y=ζ/\Q (.bl (!decide (x=y))) H
def La:decide (V.int i=V.int j)=(i == j):=by
 rw[qT];simp
def Sf:decide (V.bl i=V.bl j)=(i == j):=by
 rw[qT];simp
def Lb:decide (V.str i=V.str j)=(i == j):=by
 rw[qT];simp
def Kz:decide (V.byt i=V.byt j)=(i.toList == j.toList):=by
 rw[qT];cases i;cases j;simp
section
variable{a b c:Expr}{pos:Pos}
def jE{Z:St}{s:aJ}(I:Inv X Γ Z H s)(q:Q (.bl k) H)(e:k=k'):EP X Γ Z Q (.bool k') s:=by
 subst e;show#[.bl k,H,I,rfl,q]
def C0:o_ X (compareOp .Eq) rEq:=by
 intro Γ s Z H x y v u Q I g d h;let⟨f,q⟩:=h;cases x with
 |non=>
  cases g;cases y with
  |non=>cases d;show PySem.EqNone.eq_none_none (jE I q η)
  |bl j=>cases d;show PySem.EqNone.eq_none_bool (jE I q η)
  |int j=>let⟨e,rfl⟩:=d;show PySem.EqNone.eq_none_int (jE I q η)
  |str j=>let⟨e,rfl⟩:=d;show PySem.EqNone.eq_none_str (jE I q η)
  |_=>show Ψ (show χ=ζ from f) bR
 |bl i=>
  cases g;cases y with
  |non=>cases d;show PySem.EqNone.eq_bool_none (jE I q η)
  |bl j=>cases d;show eq_bool (jE I q Sf)
  |str j=>let⟨e,rfl⟩:=d;show PySem.EqMixed.eq_bool_str (jE I q η)
  |_=>show Ψ (show χ=ζ from f) bR
 |int i=>
  let⟨t,rfl⟩:=g;cases y with
  |non=>cases d;show PySem.EqNone.eq_int_none (jE I q η)
  |int j=>let⟨e,rfl⟩:=d;show eq_int (jE I q La)
  |str j=>let⟨e,rfl⟩:=d;show PySem.EqMixed.eq_int_str (jE I q η)
  |_=>show Ψ (show χ=ζ from f) bR
 |str i=>
  let⟨t,rfl⟩:=g;cases y with
  |non=>cases d;show PySem.EqNone.eq_str_none (jE I q η)
  |bl j=>cases d;show PySem.EqMixed.eq_str_bool (jE I q η)
  |int j=>let⟨e,rfl⟩:=d;show PySem.EqMixed.eq_str_int (jE I q η)
  |str j=>let⟨e,rfl⟩:=d;show eq_str (jE I q Lb)
  |_=>show Ψ (show χ=ζ from f) bR
 |byt i=>
  let⟨t,rfl⟩:=g;cases y with
  |byt j=>let⟨e,rfl⟩:=d;show PySem.W.eq_bytes (jE I q Kz)
  |_=>show Ψ (show χ=ζ from f) bR
 |_=>cases y <;> show Ψ (show χ=ζ from f) bR
def C1:o_ X (compareOp .NotEq) rNe:=by
 intro Γ s Z H x y v u Q I g d h;let⟨f,q⟩:=h;cases x with
 |non=>
  cases g;cases y with
  |non=>cases d;show PySem.EqNone.ne_none_none (jE I q η)
  |bl j=>cases d;show PySem.EqNone.ne_none_bool (jE I q η)
  |int j=>let⟨e,rfl⟩:=d;show PySem.EqNone.ne_none_int (jE I q η)
  |str j=>let⟨e,rfl⟩:=d;show PySem.EqNone.ne_none_str (jE I q η)
  |_=>show Ψ (show χ=ζ from f) bR
 |bl i=>
  cases g;cases y with
  |non=>cases d;show PySem.EqNone.ne_bool_none (jE I q η)
  |bl j=>cases d;show ne_bool (jE I q (Φ not Sf))
  |str j=>let⟨e,rfl⟩:=d;show PySem.EqMixed.ne_bool_str (jE I q η)
  |_=>show Ψ (show χ=ζ from f) bR
 |int i=>
  let⟨t,rfl⟩:=g;cases y with
  |non=>cases d;show PySem.EqNone.ne_int_none (jE I q η)
  |int j=>let⟨e,rfl⟩:=d;show ne_int (jE I q (Φ not La))
  |str j=>let⟨e,rfl⟩:=d;show PySem.EqMixed.ne_int_str (jE I q η)
  |_=>show Ψ (show χ=ζ from f) bR
 |str i=>
  let⟨t,rfl⟩:=g;cases y with
  |non=>cases d;show PySem.EqNone.ne_str_none (jE I q η)
  |bl j=>cases d;show PySem.EqMixed.ne_str_bool (jE I q η)
  |int j=>let⟨e,rfl⟩:=d;show PySem.EqMixed.ne_str_int (jE I q η)
  |str j=>let⟨e,rfl⟩:=d;show ne_str (jE I q (Φ not Lb))
  |_=>show Ψ (show χ=ζ from f) bR
 |byt i=>
  let⟨t,rfl⟩:=g;cases y with
  |byt j=>let⟨e,rfl⟩:=d;show PySem.W.ne_bytes (jE I q (Φ not Kz))
  |_=>show Ψ (show χ=ζ from f) bR
 |_=>cases y <;> show Ψ (show χ=ζ from f) bR
def X0:o_ X (compareOp .Lt) (zw λi j=>.bl (decide (i<j))):=Ym λ_ _ _ _ _ _ _ q=>lt_int q
def W9:o_ X (compareOp .LtE) (zw λi j=>.bl (decide (i<=j))):=Ym λ_ _ _ _ _ _ _ q=>le_int q
def W8:o_ X (compareOp .Gt) (zw λi j=>.bl (decide (j<i))):=Ym λ_ _ _ _ _ _ _ q=>gt_int q
def W7:o_ X (compareOp .GtE) (zw λi j=>.bl (decide (j<=i))):=Ym λ_ _ _ _ _ _ _ q=>ge_int q
def Tx(b:Expr)(h:op≠.In:=by decide)(d:op≠.NotIn:=by decide):behindInMarks op b=χ:=by
 have e:(op == CmpOp.In)=χ:=by cases op <;> first |rfl |show Ψ rfl h
 have f:(op == CmpOp.NotIn)=χ:=by cases op <;> first |rfl |show Ψ rfl d
 cases b <;> simp[behindInMarks,e,f]
def Ys(d:o_ X (compareOp op) r)(e:PE X a ta)(f:PE X b tb)(g:behindInMarks op b=χ):PE X (.Compare a [op] [b] pos) (tOp r ta tb):=by
 intro Γ s Z H Q I h;show wpAny_Compare1 (E3 e f I h λv u i x y j k l m q=>d Γ i Z j x y v u Q k l m q) g
def af(t:TE):TT:=λZ H Q=>t Z H λx d=>∃k,x = .bl k/\Q k d
def Zb(d:o_ X (compareOp op) r)(f:PE X a ta)(g:PE X b tb)(i:behindInMarks op b=χ):PT X (.Compare a [op] [b] pos) (af (tOp r ta tb)):=by
 intro Γ s Z H Q I h;show wpAny_isTrue_Compare1 (h8 (f Γ s Z H _ I h) λv j ⟨x,l,m,n,o⟩=>h8 (g Γ j Z l _ m o) λu q ⟨y,w,A,B,C⟩=>
  h8 (d Γ q Z w x y v u _ A n B C) λc J ⟨z,D,E,F,k,e,G⟩=>?_) i
 subst e;cases F;show tH #[D,E,G]
def Ba:(sizeLine:Nat)<2 ^ 63:=by rw[fK];decide
def vals1(r:c6 [x] us):∃u,us=[u]/\RelV x u:=by
 cases r with
 |cons d e=>cases e;show#[_,rfl,d]
def vals2(r:c6 [x,y] us):∃u w',us=[u,w']/\RelV x u/\RelV y w':=by
 cases r with
 |cons d e=>
  cases e with
  |cons f g=>cases g;show#[_,_,rfl,d,f]
def Rj:HW X (.builtin "abs") (λxs H Q=>∃i,xs=[.int i]/\Q (.int (if i<0 then -i else i)) H):=by
 intro Γ s Z H xs d Q I r h;let⟨i,rfl,q⟩:=h;let⟨u,rfl,t,rfl⟩:=vals1 r;show call_abs_int λu e=>#[.int (if i<0 then -i else i),H,I.tok _,#[_,rfl],q]
def Nh(e:X.calm=ζ):HW X (.builtin "max") (λxs H Q=>∃i j,xs=[.int i,.int j]/\Q (.int (if j > i then j else i)) H):=by
 intro Γ s Z H xs f Q I r h;let⟨i,j,rfl,q⟩:=h;obtain⟨u,g,rfl,⟨t,rfl⟩,⟨l,rfl⟩⟩:=vals2 r;show max_two_ints (I.ok.hd e) λm n k=>#[_,H,I.kept k,?_,q];by_cases d:j > i
 ·rw[Ω d,Ω d];show#[_,rfl]
 ·rw[υ d,υ d];show#[_,rfl]
def Ni(e:X.calm=ζ):HW X (.builtin "min") (λxs H Q=>∃i j,xs=[.int i,.int j]/\Q (.int (if j<i then j else i)) H):=by
 intro Γ s Z H xs f Q I r h;let⟨i,j,rfl,q⟩:=h;obtain⟨u,g,rfl,⟨t,rfl⟩,⟨l,rfl⟩⟩:=vals2 r;show min_two_ints (I.ok.hd e) λm n k=>#[_,H,I.kept k,?_,q];by_cases d:j<i
 ·rw[Ω d,Ω d];show#[_,rfl]
 ·rw[υ d,υ d];show#[_,rfl]
end
structure xy(h:Heap)(x dx C:Addr)(mA:Str->Option aF):Prop where
 obj:h.get? x=ψ (CL C dx)
 ns:h.Ns1 dx mA
 ne:dx≠x
def Oj{h:Heap}{c:Addr}{d:Str->Option aF}(n:h.Ns1 c d):∃od,h.get? c=ψ od/\∀name,EM name od=ψ (d name):=by
 let⟨o,f,s,g,i,j,_,k⟩:=n;show#[o,g,λname=>?_];have e:=k name;unfold nsFind findBy at e;rw[<-Array.find?_toList] at e;unfold EM;rw[i];fail;split
 ·rename_i y q;rw[q] at e;show Φ ψ e
 ·rename_i q;rw[q] at e;have a:f.toList.any (·.refKey)=χ:=by
   rw[List.any_eq_false];intro y l;let⟨z,t,b⟩:=j y (pH.mp l);simp[DictEntry.refKey,b]
  have m:¬f.toList.any (·.refKey)=ζ:=by rw[a];show bR
  rw[υ m];show Φ ψ e
def xy.look(I:xy h x dx C mA):∃od,PySem.W.InstAt h x (CL C dx) C (ψ od)/\∀name,EM name od=ψ (mA name):=
 let ⟨od,ho,hl⟩:=Oj I.ns
 #[od,#[I.obj,rfl,rfl,ho],hl]
def m6.some_of(r:m6 (ψ v) o):∃u,o=ψ u/\RelV v u:=by
 cases o with
 |none=>show(show False from r).elim
 |some u=>show#[u,rfl,r]
section
variable{fs fs':ι (Str×V)}
def Xn(b:ls P w H h)(e:H a=ψ (.ins C dx fs)):∃mA,xy h a dx C mA/\(∀f,m6 (fs.lookup f) (mA f))/\PySem.Within mA (fs.map (·.1))/\fs.length<=1000/\H dx=ψ (.own a):=by
 let⟨d,z,c,g,mA,n,r,q⟩:=(show gw P w H h a (.ins C dx fs) from b a _ e);show#[mA,#[g,n,c],r,q,z,d]
end
structure Cls(K:aH)(C:Addr):Prop where
 pg:NV K C Str.empty=ζ
 hd:PySem.W.hasDictIn K C=ζ
 po:PySem.W.plainOver K C=ζ
 sa:EL K (.ref C) "__setattr__" = ψ (ψ (.builtin "object.__setattr__"))
def Cls.get{K:aH}{C:Addr}(c:Cls K C)(f:Str):NV K C f=ζ:=c.pg
section
variable{σ:St}{H:Hp}{s:aJ}{c:aF}
inductive m7(K:aH)(H:Hp):V->aF->Prop where
 |non:m7 K H .non (.type "NoneType")
 |bl (x:Bool):m7 K H (.bl x) (.type "bool")
 |int (i:Int):m7 K H (.int i) (.type "int")
 |str (x:Str):m7 K H (.str x) (.type "str")
 |flt (x:UInt64):m7 K H (.flt x) (.type "float")
 |lst {a:Addr} {xs:List V} (e:H a=ψ (.lst xs)):m7 K H (.ref a) (.type "list")
 |frz {a:Addr} {o:Obj} {xs:List V} (e:H a=ψ (.frz o (.lst xs))):m7 K H (.ref a) (.type "list")
 |tup {a:Addr} {xs:List V} (e:H a=ψ (.tup xs)):m7 K H (.ref a) (.type "tuple")
 |dK {a:Addr} {kvs:List (ij×V)} (e:H a=ψ (.dK kvs)):m7 K H (.ref a) (.type "dict")
 |dT {a:Addr} {kvs:List (List ij×V)} (e:H a=ψ (.dT kvs)):m7 K H (.ref a) (.type "dict")
 |ins {a C dx:Addr} {fs:List (Str×V)} (e:H a=ψ (.ins C dx fs)) (cl:Cls K C) (ha:EL K (.ref C) "__class__" = ψ (ψ (.builtin "object.__class__")))
   (hn:PySem.W.specialIn K (.builtin "object.__class__") "__get__" = ψ (ψ (.builtin "getset_descriptor.__get__"))) (htk:PySem.W.takesIn K (.builtin "object.__class__")=ψ ζ)
   (hm:PySem.W.mroIn K C (.type "object")=ψ ζ):m7 K H (.ref a) (.ref C)
def Oa{u t:aF}(I:Inv X Γ σ H s)(d:RelV x u)(B:m7 X.K H x t)(e:lR X.K t c=ψ b)(h:∀tk,Q (.bool b) {s with toks:=tk}):
  wpAny (model X.prog X.w) A (call (.builtin "isinstance") [u,c]) Q E s:=by
 cases B with
 |non=>cases (show u=dO from d);show gN PySem.W.kitx_none I.kIn oB e (λz=>nomatch z) h
 |bl y=>cases (show u=JL y from d);show gN PySem.W.kitx_bool I.kIn oB e (λz=>nomatch z) h
 |int i=>let⟨t,q⟩:=(show ∃t,u=AI i t from d);cases q;show gN PySem.W.kitx_int I.kIn oB e (λz=>nomatch z) h
 |str y=>let⟨t,q⟩:=(show ∃t,u=NW y t from d);cases q;show gN PySem.W.kitx_str I.kIn oB e (λz=>nomatch z) h
 |flt y=>let⟨t,q⟩:=(show ∃t,u=Value.float y t from d);cases q;show gN PySem.W.kitx_float I.kIn oB e (λz=>nomatch z) h
 | @lst a k f=>
  cases (show u=eG a from d);let⟨_,_,n,_,g⟩:=(show gw X.prog X.w H s.heap a (.lst k) from I.hok a _ f);show gN yD I.kIn #[_,g,rfl] e (λz=>nomatch z) h
 | @frz a D k f=>
  cases (show u=eG a from d);let⟨_,_,_,n,_,g⟩:=(show gw X.prog X.w H s.heap a (.frz D (.lst k)) from I.hok a _ f);show gN yD I.kIn #[_,g,rfl] e (λz=>nomatch z) h
 | @tup a k f=>
  cases (show u=eG a from d);let⟨_,_,_,p⟩:=(show gw X.prog X.w H s.heap a (.tup k) from I.hok a _ f);let⟨o,g,l,_⟩:=p;show gN PySem.W.kitx_tuple I.kIn #[o,g,l] e (λz=>nomatch z) h
 | @dK a j f=>
  cases (show u=eG a from d);let⟨_,_,P,_,p⟩:=(show gw X.prog X.w H s.heap a (.dK j) from I.hok a _ f);let⟨o,F,G,g,l,_⟩:=p;show gN LA I.kIn #[o,g,l.1] e (λz=>nomatch z) h
 | @dT a j f=>
  cases (show u=eG a from d);let⟨_,_,k,_,o,F,G,g,l,_⟩:=(show gw X.prog X.w H s.heap a (.dT j) from I.hok a _ f);show gN LA I.kIn #[o,g,l.1] e (λz=>nomatch z) h
 | @ins a C R fs f v L M m N=>
  cases (show u=eG a from d);let⟨T,O,_⟩:=Xn I.hok f;let⟨U,J,_⟩:=O.look;show gN (PySem.W.kitx_own (v.get _) v.hd L M m N) I.kIn J e (λz=>nomatch z) h
end
structure h9(k:Nat)(A:cV):Prop where
 hd:A.handled=ξ
 dp:A.depth+3*k+5<recursionLimit
 un:A.units+16*k+200<cLine
def h9.mono(r:h9 k A)(h:j<=k:=by decide):h9 j A:=#[r.hd,by have:=r.dp;lia,by have:=r.un;lia]
def h9.deeper(r:h9 (k+1) A)(env:Env):h9 k (A.deeper env):=
 #[r.hd,by have:=r.dp;show A.depth+1+3*k+5<_;lia,by have:=r.un;show A.units+3+16*k+200<_;lia]
def h9.in1(r:h9 (k+1) A):h9 k A.in1:=
 #[r.hd,by have:=r.dp;show A.depth+3*k+5<_;lia,by have:=r.un;show A.units+1+16*k+200<_;lia]
def h9.depth(r:h9 k A):A.depth<recursionLimit:=by have:=r.dp;lia
def h9.units(r:h9 k A):A.units+64<cLine:=by have:=r.un;lia
def fe:TA:=λ_ H Q=>Q [] H
def Z7(a:TE)(b:TA):TA:=λY H Q=>a Y H λx c=>b Y c λd e=>Q (x::d) e
section
variable{t:TA}{pos:Pos}
def OO:PA X [] fe:=λ_ _ _ _ H Q I h=>oY #[[],H,I,.nil,h]
def yJ(a:PE X e te)(b:PA X es t)(c:starEach (e::es) X.env=(χ,eval e X.env)::starEach es X.env:=by rfl):PA X (e::es) (Z7 te t):=by
 intro pos Γ s Y H Q I h;rw[c];show wpAny _ _ (spliced ((χ,eval e X.env)::backTo pos (starEach es X.env))) _ _ s;show lK (h8 (a Γ s Y H _ I h) λu d ⟨x,f,g,i,j⟩=>?_);show h8 (b pos Γ d Y f _ g j) λq v ⟨k,l,m,n,o⟩=>#[x::k,l,m,.cons i n,o]
def fk(t:TA):TE:=λZ H Q=>t Z H λa b=>a.length<=sizeLine/\∀p,b p=ξ->Q (.ref p) (f6 b p (.tup a))
def fc(t:TA):TE:=λZ H Q=>t Z H λa b=>a.length<=sizeLine/\∀p,b p=ξ->Q (.ref p) (f6 b p (.lst a))
def N2{x1}(h:PA X es t):PE X (.Tuple es x1 pos) (fk t):=by
 intro Γ s Z H Q I f;show wpAny_Tuple_spliced (h8 (h pos Γ s Z H _ I f) λg a ⟨i,c,d,r,z,q⟩=>#[by rw[<-r.length];show z,?_]);have j:c a.z=ξ:=d.hok.fresh (aS _);show#[.ref a.z,f6 c a.z (.tup i),d.laid (t':=a.toks) (λb u e=>aN _ e) (aS _) ?_,rfl,q _ j];show#[z,g,r,#[_,bQ _ rfl,rfl,_,rfl]]
def Uh(h:PA X es t):PE X (.List es pos) (fc t):=by
 intro Γ s Z H Q I f;show wpAny_List_spliced (h8 (h pos Γ s Z H _ I f) λg a ⟨i,c,d,r,z,q⟩=>#[by rw[<-r.length];show z,?_]);have j:c a.z=ξ:=d.hok.fresh (aS _);show#[.ref a.z,f6 c a.z (.lst i),d.laid (t':=a.toks) (λb u e=>aN _ e) (aS _) ?_,rfl,q _ j];show#[z,g,0,r,bQ _ rfl]
end
abbrev Sp:=ι V->Hp->VK->XK->Prop
abbrev xu:=ι Env->Hp->aJ->XK->aF->aJ->Prop
structure vi(P:bP)(w:cS)(K:aH)(mg:Str->Option aF)(base:Heap)(A:cV)(outer:List Env)(s:aJ)(H:Hp):Prop where
 frames:A.frames=ψ outer
 mod:Mod K mg base
 bs:∀b o,base.get? b=ψ o->s.heap.get? b=ψ o/\H b=ξ
 bsz:base.objs.size<=s.z
 funs:s.heap.FunFrames base outer
 frf:∀b∈t8 outer,H b=ξ
 hok:ls P w H s.heap
 bare:AllBare s.gens
def CE(outer:ι Env)(P:bP)(w:cS)(H:Hp)(s:aJ)(Q:VK)(u:aF)(a:aJ):Prop:=
 ∃v b,a.os=s.os/\AllBare a.gens/\Un (t8 outer) [] H b s.heap a.heap/\ls P w b a.heap/\RelV v u/\Q v b
def CR(b:xu)(outer:ι Env)(P:bP)(w:cS)(H:Hp)(s:aJ)(Q:VK)(E:XK)(r:Result)(a:aJ):Prop:=
 match r with
 | .ok (.ret u)=>CE outer P w H s Q u a
 | .ok _=>False
 | .error e=>b outer H s E e a
structure lm(P:bP)(w:cS)(K:aH)(mg:Str->Option aF)(base:Heap)(CX:xu)(k:Nat)(f:Addr)(fd:lM)(ps:List Str)(sp:Sp):Prop where
 len:∀vs H Q E,sp vs H Q E->vs.length=ps.length
 run:∀(A:cV)(outer:ι Env)(s:aJ)(H:Hp)(args:Args)(us:ι aF)(vs:ι V)(Q:VK)(E:XK),h9 k A->vi P w K mg base A outer s H->BindsTo s fd args (ps.zip us)->c6 vs us->sp vs H Q E ->
  codeAny (model P w) A (.call (.ref f) args) (CR CX outer P w H s Q E) s
section
variable{σ:St}{s s':aJ}
def Inv.env0(I:Inv X Γ σ H s):vi X.prog X.w X.K X.mg X.base X.A X.stack s H:=
 #[I.ok.frames,I.ok.mod,I.bs,dC I.ok.bsz I.sz,I.stack,I.stkFree,I.hok,I.bare]
def Inv.after(I:Inv X Γ σ H s)(h:CE X.stack X.prog X.w H s Q u s'):EP X Γ σ Q u s':=by
 let⟨v,f,os,a,un,c,r,q⟩:=h;let⟨i,g,d,t,e⟩:=s';obtain rfl:e=s.os:=os;show#[v,f,I.call (h':=i) (g':=g) (d':=d) (t':=t) (ch:=[]) un c a (λb z=>Ψ z η),r,q]
end
def Z6(a:Sp)(b:ι V)(E:XK)(t:TA):TE:=λY H Q=>t Y H λc d=>a (c++b) d Q E
def Binds(K:aH)(d:lM)(b:ι Str)(c:ι aF):Prop:=
 ∀(s:aJ)(a:ι aF),K.In s.heap->(a++c).length=b.length->BindsTo s d #[a,[]] (b.zip (a++c))
def Binds.all{K:aH}{b:lM}{a:ι Str}(h:∀us:ι aF,us.length=a.length->bindArgs b ⟨us,[]⟩=pure (a.zip us)):Binds K b a []:=λs us _ c=>by
 rw[bU] at c⊢;show .of_eq (h us c)
def Hg(b:xu)(X:Cx)(E:XK):Prop:=∀(Γ:ι (Addr×Obj))(Z:St)(H:Hp)(s:aJ)(e:aF)(a:aJ),Inv X Γ Z H s->b X.stack H s E e a->X.xe e a
section
variable{f C:Addr}{sp:Sp}{p pos apos:Pos}{t:TA}
def P5{Z:St}{s:aJ}(F:lm X.prog X.w X.K X.mg X.base CX k f fd ps sp)(c:h9 k X.A)(d:Binds X.K fd ps ds)(g:c6 x9 ds)(i:Hg CX X E)
  (I:Inv X Γ Z H s) (r:c6 vs us) (h:sp (vs++x9) H Q E):Θ X (call (.ref f) us) (EP X Γ Z Q) X.xe s:=by
 have b:c6 (vs++x9) (us++ds):=r.append g;have j:(us++ds).length=ps.length:=by rw[<-b.length];show F.len _ _ _ _ h
 show KG (oD (F.run X.A X.stack s H #[us,[]] (us++ds) (vs++x9) Q E c I.env0 (d s us I.kIn j) b h) λr l a=>?_);cases r with
 |error e=>show i Γ Z H s e l I a
 |ok m=>
  cases m with
  |ret u=>show I.after a
  |next=>show mV a
  |brk=>show mV a
  |cont=>show mV a
def Yr(F:lm X.prog X.w X.K X.mg X.base CX k f fd ps sp)(b:h9 k X.A)(c:Gl X x)(d:X.mg x=ψ (.ref f))(g:lQ X.K (.ref f)=ζ)(i:Binds X.K fd ps ds)(j:c6 x9 ds)(l:Hg CX X E)
  (m:PA X (e::es) t) (n:(x == ("__debug__":Str))=χ:=by decide) (o:starEach (e::es) X.env=(χ,eval e X.env)::starEach es X.env:=by rfl) (u:(backTo pos (starEach es X.env)).any (·.1)=χ:=by rfl):
  PE X (.Call (.Name x p) (e::es) [] pos) (Z6 sp x9 E t):=by
 intro Γ s Y H Q I h;show eP (Xv I c d ?_ n);show PySem.W.callWith_K (h₀:=X.base) I.ok.mod.kin g (h8 (m pos Γ s Y H _ I h) λv y ⟨z,B,a,r,q⟩=>#[a.kIn,?_]) o u;show P5 F b i j l a r q
structure Mk(K:aH)(C f:Addr):Prop where
 makes:PySem.W.makesIn K C=ζ
 init:EL K (.ref C) "__init__" = ψ (ψ (.ref f))
 fn:PySem.W.isFn K (.ref f)=ζ
 kp:lQ K (.ref C)=ζ
end
structure jo(N P:List Str)(sc:Scope):Prop where
 kind:sc.kind = .function
 co:sc.isCoroutine=χ
 gen:sc.isGenerator=χ
 nd:N.Nodup
 pre:N.take P.length=P
 par:∀x∈P,sc.names.lookup x=ψ .local\/sc.names.lookup x=ψ .cell
 nofree:∀y∈sc.names,y.2≠.free
theorem YE{kindOf:Str->Option NameKind}{x:Str}:∀{binds:ι (Str×aF)}{m:Str->Option aF},(∀v,(x,v)∉binds)->bindL kindOf binds m x=m x
 | [],_,_=>rfl
 | (n,v)::r,m,h=>by
  unfold bindL;rw[YE λw a=>h w (bH _ a)];split
  ·have:x≠n:=(by rintro rfl;show h v cT);simp[this]
  ·rfl
theorem YC{kindOf:Str->Option NameKind}{x:Str}:∀{binds:ι (Str×aF)}{m:Str->Option aF},(∀v,(x,v)∉binds)->bindC kindOf binds m x=m x
 | [],_,_=>rfl
 | (n,v)::r,m,h=>by
  unfold bindC;rw[YC λw a=>h w (bH _ a)];split
  ·rfl
  ·have:x≠n:=(by rintro rfl;show h v cT);simp[this]
theorem YD{kindOf:Str->Option NameKind}{x:Str}{v:aF}:∀{P:ι Str}{vs:ι aF}{i:Nat}{m:Str->Option aF},P.Nodup->P[i]?=ψ x->vs[i]?=ψ v->kindOf x=ψ .local ->
  bindL kindOf (P.zip vs) m x=ψ v
 | [],_,_,_,_,h,_,_=>by simp at h
 |_::_,[],_,_,_,_,h,_=>by simp at h
 |p::P,w::vs,0,m,c,a,b,d=>by
  simp at a b;subst a;subst b;show bindL kindOf ((p,w)::P.zip vs) m p=_;unfold bindL;rw[YE λv e=>(iB.mp c).1 (mK e).1,Ω d];simp
 |p::P,w::vs,i+1,m,c,a,b,d=>by
  show bindL kindOf ((p,w)::P.zip vs) m x=_;unfold bindL;show YD (i:=i) (iB.mp c).2 (~~~a) (~~~b) d
theorem YB{kindOf:Str->Option NameKind}{x:Str}{v:aF}:∀{P:ι Str}{vs:ι aF}{i:Nat}{m:Str->Option aF},P.Nodup->P[i]?=ψ x->vs[i]?=ψ v->kindOf x≠ψ .local ->
  bindC kindOf (P.zip vs) m x=ψ v
 | [],_,_,_,_,h,_,_=>by simp at h
 |_::_,[],_,_,_,_,h,_=>by simp at h
 |p::P,w::vs,0,m,c,a,b,d=>by
  simp at a b;subst a;subst b;show bindC kindOf ((p,w)::P.zip vs) m p=_;unfold bindC;rw[YC λv e=>(iB.mp c).1 (mK e).1,υ d];simp
 |p::P,w::vs,i+1,m,c,a,b,d=>by
  show bindC kindOf ((p,w)::P.zip vs) m x=_;unfold bindC;show YB (i:=i) (iB.mp c).2 (~~~a) (~~~b) d
def start(N:ι Str)(vs:ι V):St:=vs.map ψ++eY (N.length-vs.length) ξ
def LM(d:xu)(P:bP)(w:cS)(K:aH)(mg:Str->Option aF)(base:Heap)(N:ι Str)(a:Str)(scope:Scope)(f:Addr)(c:aF)(A:cV)(outer:ι Env)(s:aJ)(H:Hp)(E:XK):Cx where
 prog:=P
 w:=w
 K:=K
 mg:=mg
 base:=base
 A:=A.deeper (envOfC a scope s.z f c)
 N:=N
 s₀:=s
 H₀:=H
 env:=envOfC a scope s.z f c
 outer:=outer
 stack:=envOfC a scope s.z f c::outer
 ex:=[]
 calm:=ζ
 fn:=λ_=>ζ
 pn:=[]
 xe:=λe g=>wpAny (model P w) (A.deeper (envOfC a scope s.z f c)) (leaving (envOfC a scope s.z f c) e) (λ_ b=>d outer H s E e b) (λh b=>d outer H s E h b) g
def Cp{a:Scope}{n:Nat}{x:Str}(h:a.names.lookup x=ψ .cell):∃c,(cellsFrom n a.names []).lookup x=ψ c:=by
 have q:=BS a.names n [] (.inl h);show Option.isSome_iff_exists.mp q
def Nz{J:xu}{P:bP}{w:cS}{K:aH}{mg:Str->Option aF}{base:Heap}{N l:ι Str}{d:Str}{scope:Scope}{f:Addr}{C:aF}{A:cV}{outer:ι Env}{s L:aJ}{H:Hp}{E:XK}{G:ι aF}{vs:ι V}
  (S:jo N l scope) (Q:A.handled=ξ) (j:vi P w K mg base A outer s H) (U:vs.length=l.length) (r:c6 vs G)
  (x:InCallC s s.z (bindL (envOfC d scope s.z f C).kindOf (l.zip G) λ_=>ξ) (cellsFrom (s.z+1) scope.names []) (bindC (envOfC d scope s.z f C).kindOf (l.zip G) λ_=>ξ) L):
  Inv (LM J P w K mg base N d scope f C A outer s H E) [] (start N vs) H L:=by
 have W:l.length<=N.length:=by have:=Φ iM S.pre;rw[gH] at this;lia
 let⟨D,X,rfl,M⟩:=x.done;have I:∀b:Addr,b∉(LM J P w K mg base N d scope f C A outer s H E).ex:=λb z=>Ψ (show b∈([]:ι Addr) from z) η;show#[#[j.mod,S.kind,rfl,rfl,aS _,λy z c D g=>?_,λy m=>?_,λy c _ h=>?_,λ_=>Q,Around.frames_deeper j.frames,.inr #[rfl,rfl],λb z=>Ψ z (I b),j.bs,j.bsz,λb _ _=>I b,λb z=>Ψ z (I b),j.funs,j.frf],
  rfl,j.bare,Un.kept M,#[_,x.toInCall.ns,λi y v D g Y=>?_],λy c h=>#[_,x.cell y c h],j.hok.fresh (aS _),λy c h=>?_,λp o=>Ψ (show p∈([]:ι (Addr×Obj)) from o) η,j.hok.kept M,?_]
 ·show name_of_addr x.apart (jR D) (jR g)
 ·have m:scope.names.lookup y=ψ .cell\/scope.names.lookup y=ψ .free:=m;rcases m with m |m
  ·show Cp m
  ·show Ψ rfl (S.nofree _ (jR m))
 ·show kF (x.above y c (jR h))
 ·have F:i<vs.length:=by
   unfold start at g;by_cases F:i<vs.length
   ·show F
   ·rw[fD (~~~F)] at g;rw[jA] at g;split at g <;> cases g
  have R:vs[i]?=ψ v:=by
   unfold start at g;rw[eX (~~~F),bJ] at g;cases e:vs[i]? with
   |none=>rw[e] at g;cases g
   |some a=>rw[e] at g;cases g;rfl
  let⟨u,O,T⟩:=r.get R;have o:l[i]?=ψ y:=by
   rw[<-S.pre,List.getElem?_take_of_lt ν];show D
  have B:l.Nodup:=by rw[<-S.pre];show S.nd.sublist (KS _ _)
  show#[u,T,?_];rcases S.par y (bA o) with k |k
  ·show .inl #[k,YD B o O k]
  ·let⟨c,e⟩:=Cp (n:=s.z+1) k;show .inr #[.inl k,c,e,?_];have q:=x.cell y c e;rw[YB B o O (by show scope.names.lookup y≠_;rw[k];decide)] at q;show q
 ·show j.hok.fresh (kF (x.above y c (jR h)))
 ·unfold start;show _=N.length;rw[aU,aG,lZ];lia
def A6{C:xu}{P:bP}{w:cS}{K:aH}{mg:Str->Option aF}{base:Heap}{k:Nat}{f:Addr}{name a:Str}{c:Arguments}{d:ι Stmt}{scope:Scope}{T kV j U g ct oc:aF}{X od:Option Addr}
  {qm:Array (Option aF)} {N D:ι Str} {G:Sp} (lk:K.lookup f=ψ #[oc,od,.func (mP name a c d scope T kV j U X g ct),qm]) (jv:nJ K g a=ζ) (S:jo N D scope)
  (len:∀vs H Q E,G vs H Q E->vs.length=D.length)
  (jt:∀(A:cV)(outer:ι Env)(s:aJ)(H:Hp)(vs:ι V)(Q:VK)(E:XK),h9 k (A.deeper (envOfC a scope s.z f g))->G vs H Q E ->
   ∃t,qf (LM C P w K mg base N a scope f g A outer s H E) d t/\t {nx:=λ_ H'=>Q .non H',rt:=Q} (start N vs) H):
  lm P w K mg base C (k+1) f (mP name a c d scope T kV j U X g ct) D G:=by
 show#[len,λA outer s H Y us vs Q E L l hb r m=>?_];have hl:=len _ _ _ _ m;have Z:K.In s.heap:=l.mod.kin.keeps λb o e=>(l.bs b o e).1;have M:s.heap.NoLimit:=l.mod.nolimit.keeps λb o e=>(l.bs b o e).1;have h:∀y∈D.zip us,scope.names.lookup y.1=ψ .local\/(scope.names.lookup y.1=ψ .cell/\((cellsFrom (s.z+1) scope.names []).lookup y.1).isSome=ζ):=λ⟨n,v⟩ hy=>by
  rcases S.par n (mK hy).1 with q |q
  ·show .inl q
  ·show .inr #[q,BS _ _ _ (.inl q)]
 show codeAny_call_function L.depth (Z _ _ lk) rfl S.co S.gen rfl (PySem.W.codeRec_of Z jv) (hb _ _ _ _ ?_);show wpAny_newFunctionEnv_cells S.kind h λenv he s1 x=>?_;subst he;show#[M.keeps x.toInCall.keep,codeAny_func ?_];let⟨t,ht,hq⟩:=jt A outer s H vs Q E (L.deeper _) m;have I:Inv (LM C P w K mg base N a scope f g A outer s H E) [] (start N vs) H s1:=Nz S L.hd l hl r x;show gM (ht [] s1 (start N vs) H _ I hq) (λfl O i=>?_) λe O i=>i;have B:∀{F:St}{H':Hp}{v:V}{u:aF},Inv (LM C P w K mg base N a scope f g A outer s H E) [] F H' O->RelV v u->Q v H'->CE outer P w H s Q u O:=
  λ{F H' v u} J R q=>#[v,H',J.os,J.bare,J.base,J.hok,R,q]
 cases fl with
 |ret u=>
  let⟨v,F,H',J,R,q⟩:=i;show B J R q
 |next=>
  let⟨F,H',J,q⟩:=i;show B (v:=V.non) (u:=dO) J rfl q
 |brk=>
  let⟨_,_,_,q⟩:=i;show mV q
 |cont=>
  let⟨_,_,_,q⟩:=i;show mV q
section
variable{p pos:Pos}{t:TA}{id T:String}{r:ι V->Hp->VK->Prop}
def tCB(r:ι V->Hp->VK->Prop)(t:TA):TE:=λZ H Q=>t Z H λa b=>r a b Q
def VX(a:HW X (.builtin id) r)(b:Gl X x)(c:X.mg x=ξ)(d:bootBuiltins x=ψ (.builtin id))(f:PA X (e::es) t)(g:x≠"__name__":=by decide)(i:(x == ("__debug__":Str))=χ:=by decide)
  (j:starEach (e::es) X.env=(χ,eval e X.env)::starEach es X.env:=by rfl) (k:(backTo pos (starEach es X.env)).any (·.1)=χ:=by rfl):PE X (.Call (.Name x p) (e::es) [] pos) (tCB r t):=by
 intro Γ s Z H Q I h;show eP (lU I b c d ?_ g i);show iE (h8 (f pos Γ s Z H _ I h) λl m ⟨n,o,q,u,v⟩=>a Γ m Z o n l Q q u v) j k
def ZA(a:HW X (.type T) r)(b:Gl X x)(c:X.mg x=ξ)(d:bootBuiltins x=ψ (.type T))(f:PA X (e::es) t)(g:x≠"__name__":=by decide)(i:(x == ("__debug__":Str))=χ:=by decide)
  (j:starEach (e::es) X.env=(χ,eval e X.env)::starEach es X.env:=by rfl) (k:(backTo pos (starEach es X.env)).any (·.1)=χ:=by rfl):PE X (.Call (.Name x p) (e::es) [] pos) (tCB r t):=by
 intro Γ s Z H Q I h;show eP (lU I b c d ?_ g i);show cN (h8 (f pos Γ s Z H _ I h) λl m ⟨n,o,q,u,v⟩=>a Γ m Z o n l Q q u v) j k
end
end L2
namespace HT
open PySem PyProof.Rows
def lexLt:ι Int->ι Int->Bool
 | [],[]=>χ
 | [],_::_=>ζ
 |_::_,[]=>χ
 |x::a,y::b=>if x=y then lexLt a b else decide (x<y)
section
variable{prog:bP}{w:cS}{A:cV}{E:aF->aJ->Prop}{s:aJ}
def cat_tup{t b:Addr}(v:IsTup s.heap t vs.toArray)(y:IsTup s.heap b ws.toArray)(g:vs≠[])
  (B:ws=[]->Q (.ref t) s) (C:ws≠[]->Q (.ref s.z) {s with heap:=s.heap.push {cls:=.type "tuple",data:=.seq (vs++ws).toArray}})
  (hsz:vs.length+ws.length<=sizeLine):Δ prog w A (binaryOp .Add (.ref t) (.ref b)) Q E s:=by
 obtain⟨⟨cls,h,data,i⟩,c,j,n,k⟩:=id v;obtain⟨⟨l,m,data2,o⟩,d,q,u,a⟩:=id y;simp only at j k q a;subst j k q a;have e:vs.toArray++ws.toArray=(vs++ws).toArray:=η
 by_cases f:ws=[]
 ·show LK #[_,c,rfl] #[_,d,rfl] OL XT BR AF (zD _ _)
   (tuple_addW1 t b vs.toArray ws.toArray n u h m i o (~~~g) (by simp[f])) #[c,d,B f]
 ·show LK #[_,c,rfl] #[_,d,rfl] OL XT BR AF (zD _ _)
   (tuple_addW2 t b vs.toArray ws.toArray n u h m i o (~~~g) (~~~f) (by rw[aY,aY];show hsz)) #[c,d,?_]
  rw[e];show C f
def sIx(n d:Nat):Option Int->Nat
 |none=>d
 |some v=>if v<0 then(v+(n:Int)).toNat else min v.toNat n
def sIx_none(n d:Nat):sIx n d ξ=d:=rfl
def sIx_nat(n d k:Nat):sIx n d (ψ (k:Int))=min k n:=by
 show(if(k:Int)<0 then((k:Int)+(n:Int)).toNat else min (k:Int).toNat n)=min k n;rw[υ ν,gU]
def P6(n d:Nat)(b:d<=n)(o:Option Int):sIx n d o<=n:=by
 cases o with
 |none=>show b
 |some v=>
  show(if v<0 then(v+(n:Int)).toNat else min v.toNat n)<=n;by_cases a:v<0
  ·rw[Ω a];lia
  ·rw[υ a];show Nat.min_le_right _ _
def Kq(v:Int)(n d:Nat):(if v<0 then max (v+(n:Int)) 0 else min v (n:Int))=((sIx n d (ψ v):Nat):Int):=by
 show(if v<0 then max (v+(n:Int)) 0 else min v (n:Int))=(((if v<0 then(v+(n:Int)).toNat else min v.toNat n):Nat):Int);by_cases a:v<0
 ·erw[Ω a];lia
 ·erw[υ a];lia
def Hj(lo hi:Option Int)(n:Nat):qH lo hi 1 (n:Int)=(((sIx n 0 lo:Nat):Int),((sIx n n hi:Nat):Int)):=by
 have a:¬((1:Int)<0):=ν
 unfold qH;erw[a,if_false];show oN ?_ ?_
 ·cases lo with
  |none=>rfl
  |some v=>show Kq v n 0
 ·cases hi with
  |none=>rfl
  |some v=>show Kq v n n
def Ix(i j:Nat):mF (i:Int) (j:Int) 1=j-i:=by
 unfold mF;have a:(1:Int) > 0:=ν
 erw[a,if_true,Int.ediv_one];split <;> lia
def WM(p:IsPart v o)(h:Q o s):Δ prog w A (Builtin.Slice.slicePartIndex v) Q E s:=by
 cases p with
 |none=>show WN h
 |int i t=>show slicePart_int h
def OV{e:Addr}{a b:aF}{lo hi:Option Int}{n:Nat}{Q:Int×Int×Nat->aJ->Prop}(f:s.heap.IsSliceOf e a b .none)(g:IsPart a lo)(i:IsPart b hi)
  (h:Q (((sIx n 0 lo:Nat):Int),1,sIx n n hi-sIx n 0 lo) s):Δ prog w A (wR (.ref e) (pure (n:Int))) Q E s:=by
 let⟨os,c,j,d⟩:=id f;unfold wR Builtin.Slice.sliceFields;show aC (aC (QO c d (x:=a) rfl (aC (QO c d (x:=b) rfl (aC (QO c d (x:=.none) rfl (aO ?_)))))));show aC (WN ?_);show wpAny _ _ (if((1:Int) == 0)=ζ then _ else _) _ _ s;rw[υ μ];show aC (WM g (aC (WM i (aC (aO ?_)))));show wpAny _ _ (match qH lo hi 1 (n:Int) with | (lo,hi)=>pure (lo,(1:Int),mF lo hi 1)) _ _ s;rw[Hj lo hi n];show wpAny _ _ (pure (((sIx n 0 lo:Nat):Int),(1:Int),mF ((sIx n 0 lo:Nat):Int) ((sIx n n hi:Nat):Int) 1)) _ _ s;rw[Ix];show aO h
def Um(xs:Array aF)(i k:Nat):((bT k).filterMap λ(m:Nat)=>xs[((i:Int)+(m:Int)*1).toNat]?).toArray=((xs.toList.drop i).take k).toArray:=by
 have e:(λ(m:Nat)=>xs[((i:Int)+(m:Int)*1).toNat]?)=λm=>xs[i+m]?:=by
  funext m;have:((i:Int)+(m:Int)*1).toNat=i+m:=ν
  rw[this]
 rw[e];have:=pick_run xs i k;rw[List.filterMap_map] at this;have a:((λx=>xs[x]?) ∘ λx=>i+x)=λm=>xs[i+m]?:=rfl;rw[a] at this;rw[this]
def getItem_tuple_cut{t c:Addr}{lo hi:Option Int}(a:IsTup s.heap t items)(g:s.heap.IsSliceOf c vl vu .none)(i:IsPart vl lo)(j:IsPart vu hi)
  (k:¬(sIx items.size 0 lo=0/\sIx items.size items.size hi=items.size))
  (h:Q (.ref s.z) {s with heap:=s.heap.push {cls:=.type "tuple",data:=.seq ((items.toList.drop (sIx items.size 0 lo)).take (sIx items.size items.size hi-sIx items.size 0 lo)).toArray}})
  (hsz:items.size<=sizeLine):Δ prog w A (getItem (.ref t) (.ref c)) Q E s:=by
 have b:sizeOk (.seq ((items.toList.drop (sIx items.size 0 lo)).take (sIx items.size items.size hi-sIx items.size 0 lo)).toArray):=by
  show((items.toList.drop (sIx items.size 0 lo)).take (sIx items.size items.size hi-sIx items.size 0 lo)).toArray.size<=sizeLine;rw[aY,gH,fO,bX];lia
 have n:sIx items.size items.size hi<=items.size:=P6 _ _ (aS _) hi;let⟨os,l,d,o⟩:=id g;have e:s.TypeIs (.ref c) "slice":=#[os,l,d];unfold getItem
 try with_reducible show gI ?_
 first |show aC (aO ?_) |skip
 show aC (wpAny_sequenceKey a.typeIs μ ?_);show aC (kQ (name:=gW "__getitem__") a.typeIs tJ
  (iG tJ a.typeIs entry_tuple_getitem ?_ (args_tuple_getitem _ _)))
 show wpAny _ _ (Builtin.Tuple.tupleItemsOf (.ref t) >>= _) _ _ s;show aC (tupleItemsOf_ a ?_);show aC (wH e ?_);rw[Ω μ];show aC (OV g i j ?_);have f:¬((((sIx items.size 0 lo:Nat):Int) == 0 && (1:Int) == 1 && (sIx items.size items.size hi-sIx items.size 0 lo) == items.size)=ζ):=by
  intro q;rw[jY,jY] at q;have u:((sIx items.size 0 lo:Nat):Int)=0:=eq_of_beq q.1.1;have v:sIx items.size items.size hi-sIx items.size 0 lo=items.size:=eq_of_beq q.2;show k #[ν,ν]
 show wpAny _ _ (if(((sIx items.size 0 lo:Nat):Int) == 0 && (1:Int) == 1 && (sIx items.size items.size hi-sIx items.size 0 lo) == items.size)=ζ then _ else _) _ _ s;rw[υ f,Um]
 first
  |show aC (m:=mU _) (fQ (aO ⟨_,rfl,aO h⟩) b)
  |show aC (m:=mU _) (fQ (aC (aO (aO ⟨_,rfl,aO h⟩))) b)
  |show aC (aC (m:=mU _) (fQ (aO (aO ⟨_,rfl,aO h⟩)) b))
  |show aC (aC (m:=mU _) (fQ (aO ⟨_,rfl,aO h⟩) b))
end
end HT
namespace L2
open PySem PySem.Spec PyProof.Rows
abbrev TO:=St->Hp->(Option Int->Hp->Prop)->Prop
def PO(X:Cx)(e:Option Expr)(t:TO):Prop:=
 ∀(Γ:ι (Addr×Obj))(s:aJ)(Z:St)(H:Hp)(Q:Option Int->Hp->Prop),Inv X Γ Z H s->t Z H Q ->
  Θ X (evalPart e X.env) (λu b=>∃o a,Inv X Γ Z a b/\IsPart u o/\Q o a) X.xe s
def Zs:TO:=λ_ H Q=>Q ξ H
def ae(t:TE):TO:=λZ H Q=>t Z H λx a=>∃i,x = .int i/\Q (ψ i) a
def intsAre_of{ns:ι Int}:∀{us:ι aF},c6 (ns.map V.int) us->IntsAre us ns:=by
 induction ns with
 |nil=>intro us r;rw[cF] at r;cases r;show .nil
 |cons n ns a=>
  intro us r;rw[aM] at r;cases r with
  |cons b c=>
   let⟨t,e⟩:=b;subst e;show .cons n t (a c)
section
variable{X:Cx}{te:TE}{lo hi:Option Expr}{tl th:TO}{pos p2:Pos}
def Lx:PO X ξ Zs:=by
 intro Γ s Z H Q I h;rw[IB];show aO #[ξ,H,I,.none,h]
def Bk(h:PE X e te):PO X (ψ e) (ae te):=by
 intro Γ s Z H Q I a;rw[evalPart_some];show h8 (h Γ s Z H _ I a) λu g ⟨x,b,c,d,f⟩=>?_;let⟨i,rfl,q⟩:=f;let⟨t,rfl⟩:=d;show#[ψ i,b,c,.int i t,q]
def x6(X:Cx)(r:V->Option Int->Option Int->Hp->VK->Prop):Prop:=
 ∀(Γ:ι (Addr×Obj))(s:aJ)(Z:St)(H:Hp)(x:V)(v a b:aF)(lo hi:Option Int)(c:Addr)(Q:VK),Inv X Γ Z H s->RelV x v->s.heap.IsSliceOf c a b .none->IsPart a lo->IsPart b hi->r x lo hi H Q ->
  ∃T id,typeLookup (.type T) "__getitem__" = pure (ψ (.builtin id))/\s.TypeIs v T/\Θ X (getItem v (.ref c)) (EP X Γ Z Q) X.xe s
def x6.or(h:x6 X r)(h':x6 X r'):x6 X (λx lo hi H Q=>r x lo hi H Q\/r' x lo hi H Q):=by
 intro Γ s Z H x v a b lo hi c Q I d e f g q;rcases q with q |q
 ·show h Γ s Z H x v a b lo hi c Q I d e f g q
 ·show h' Γ s Z H x v a b lo hi c Q I d e f g q
def tSl(r:V->Option Int->Option Int->Hp->VK->Prop)(te:TE)(tl th:TO):TE:=λZ H Q=>te Z H λx a=>tl Z a λl b=>th Z b λu c=>r x l u c Q
def Ui(g:x6 X r)(i:PE X e te)(j:PO X lo tl)(k:PO X hi th):PE X (.Subscript e (.Slice lo hi ξ p2) pos) (tSl r te tl th):=by
 intro Γ s Z H Q I h;show Subscript_ (h8 (i Γ s Z H _ I h) λv m ⟨x,n,o,w,y⟩=>?_);show wpAny_Slice (h8 (j Γ m Z n _ o y) λc A ⟨l,B,C,D,E⟩=>h8 (k Γ A Z B _ C E) λd a ⟨u,f,F,G,J⟩=>?_);rw[IB];show aO ?_;have K:Inv X Γ Z f {a with heap:=a.heap.push {cls:=.type "slice",data:=.fields (mt [c,d,.none])}}:=F.kept (t':=a.toks) λb O q=>aN _ q;let⟨T,id,L,M,N⟩:=g Γ {a with heap:=a.heap.push {cls:=.type "slice",data:=.fields (mt [c,d,.none])}} Z f x v c d l u a.z Q K w (JA ..) D G J;show Θ X (subscriptTail e (.Slice lo hi ξ p2) v (.ref a.z)) (EP X Γ Z Q) X.xe {a with heap:=a.heap.push {cls:=.type "slice",data:=.fields (mt [c,d,.none])}};show tail_any (ops:=[.ref a.z,v]) M L N (by with_unfolding_all rfl)
def Cy(xs:ι V)(lo hi:Option Int):ι V:=(xs.drop (HT.sIx xs.length 0 lo)).take (HT.sIx xs.length xs.length hi-HT.sIx xs.length 0 lo)
def PK(xs:ι V)(lo hi:Option Int):(Cy xs lo hi).length<=xs.length:=by
 unfold Cy;rw[gH,fO];lia
def dh(K:aH):V->Option Int->Option Int->Hp->VK->Prop:=λx lo hi H Q=>∃a b,x = .ref a/\ju K H a b /\
 ¬(HT.sIx b.length 0 lo=0/\HT.sIx b.length b.length hi=b.length)/\∀p,H p=ξ->Q (.ref p) (f6 H p (.tup (Cy b lo hi)))
def Q1:x6 X (dh X.K):=by
 intro Γ s Z H x v u w lo hi y Q I i j k l h;let⟨a,d,rfl,m,n,q⟩:=h;cases i;let⟨e,r,f,g⟩:=I.tuple m;have c:e.toArray.size=d.length:=by rw[aY];show r.length.symm
 show#["tuple",_,PyProof.Rows.slot_tuple_getitem.lookup,f.typeIs,?_];show HT.getItem_tuple_cut f j k l (by rw[c];show n) ?_ (by rw[c];show g);rw[c];show#[.ref s.z,_,I.laid (t':=s.toks) (o:=.tup (Cy d lo hi)) (λb A q=>aN _ q) (aS _) ?_,rfl,q _ (I.hok.fresh (aS _))];show#[dC (PK d lo hi) g,_,(r.drop (HT.sIx d.length 0 lo)).take (HT.sIx d.length d.length hi-HT.sIx d.length 0 lo),NG _ _]
def Y1(K:aH):R2:=λx y H Q=>∃a b d c,x = .ref a/\y = .ref b/\ju K H a d/\ju K H b c/\d≠[]/\d.length+c.length<=sizeLine /\
 (c=[]->Q (.ref a) H)/\(c≠[]->∀p,H p=ξ->Q (.ref p) (f6 H p (.tup (d++c))))
def c6.nil_iff(r:c6 xs us):us=[]↔xs=[]:=by
 cases r with
 |nil=>simp
 |cons _ _=>simp
def Yp:o_ X (binaryOp .Add) (Y1 X.K):=by
 intro Γ s Z H x y v u Q I f g h;let⟨a,b,i,j,rfl,rfl,k,l,m,e,n,A⟩:=h;cases f;cases g;let⟨B,d,C,_⟩:=I.tuple k;let⟨D,c,p2,_⟩:=I.tuple l;show HT.cat_tup C p2 (λz=>m (d.nil_iff.mp z)) (λz=>#[.ref a,H,I,rfl,n (c.nil_iff.mp z)]) (λz=>?_) (by rw[<-d.length,<-c.length];show e);show#[.ref s.z,_,I.laid (t':=s.toks) (o:=.tup (i++j)) (λb E q=>aN _ q) (aS _) ?_,rfl,A (λw=>z (c.nil_iff.mpr w)) _ (I.hok.fresh (aS _))];show#[by rw[aU];show e,_,d.append c,NG _ _]
end
def s_(n:Nat)(i:Int):Option Nat:=if 0<=i then(if i<n then ψ i.toNat else ξ) else if -(n:Int)<=i then ψ (i+n).toNat else ξ
def my{α:Type}(xs:ι α)(i:Int):Option α:=(s_ xs.length i).bind λj=>xs[j]?
def Xq(h:s_ n i=ψ j):seqIndex? i n=ψ j/\j<n/\-(n:Int)<=i/\i<n:=by
 unfold s_ at h;by_cases b:0<=i
 ·rw[Ω b] at h;by_cases a:i<n
  ·rw[Ω a] at h;have e:i.toNat=j:=dG h;show#[by rw[seqIndex_of b a,e],ν,ν,a]
  ·rw[υ a] at h;cases h
 ·rw[υ b] at h;by_cases a:-(n:Int)<=i
  ·rw[Ω a] at h;have e:(i+n).toNat=j:=dG h;show#[by rw[seqIndex_neg ν a,e],ν,a,ν]
  ·rw[υ a] at h;cases h
def Ac{α:Type}{xs:ι α}{v:α}(h:my xs i=ψ v):∃j,seqIndex? i xs.length=ψ j/\xs[j]?=ψ v/\j<xs.length/\-(xs.length:Int)<=i/\i<xs.length:=by
 unfold my at h;cases e:s_ xs.length i with
 |none=>rw[e] at h;cases h
 |some j=>
  rw[e] at h;let⟨a,b,c,d⟩:=Xq e;show#[j,a,h,b,c,d]
def qW{α:Type}{xs:ι α}{j:Nat}{v:α}(h:xs[j]?=ψ v):my xs (j:Int)=ψ v:=by
 have a:j<xs.length:=(cE.mp h).1;have e:s_ xs.length (j:Int)=ψ j:=by
  unfold s_;rw[Ω ν,Ω ν];simp
 unfold my;rw[e];show h
def Ab(b:Expr):Prop:=∀o i,subscripted b χ o i=operate [o,i] (getItem o i)
def xx(X:Cx)(r:R2):Prop:=
 ∀(b a:Expr)(Γ:ι (Addr×Obj))(s:aJ)(Z:St)(H:Hp)(x y:V)(v u:aF)(Q:VK),Inv X Γ Z H s->RelV x v->RelV y u->r x y H Q ->
  subscripted a χ v u=operate [v,u] (getItem v u)->Θ X (subscriptTail b a v u) (EP X Γ Z Q) X.xe s
def MtR(X:Cx)(id:String)(r:V->ι V->Hp->VK->Prop):Prop:=
 ∀(Γ:ι (Addr×Obj))(s:aJ)(Z:St)(H:Hp)(x:V)(a:ι V)(v:aF)(b:ι aF)(Q:VK),Inv X Γ Z H s->RelV x v->c6 a b->r x a H Q ->
  Θ X (call (.builtin id) (v::b)) (EP X Γ Z Q) X.xe s
section
variable{X:Cx}{a b:Expr}{pos:Pos}
def xx.or(h:xx X r)(h':xx X r'):xx X (λx y H Q=>r x y H Q\/r' x y H Q):=by
 intro c d Γ s Z H x y v u Q I e f q g;rcases q with q |q
 ·show h c d Γ s Z H x y v u Q I e f q g
 ·show h' c d Γ s Z H x y v u Q I e f q g
def X3(c:xx X r)(d:PE X a ta)(e:PE X b tb)(f:Ab b):PE X (.Subscript a b pos) (tOp r ta tb):=by
 intro Γ s Z H Q I h;show Subscript_ (E3 d e I h λv u g x y i j k l q=>c a b Γ g Z i x y v u Q j k l q (f _ _))
def cq(K:aH):R2:=λx y H Q=>∃p c i v,x = .ref p/\y = .int i/\j9 K H p c/\my c i=ψ v/\Q v H
def cu(K:aH):R2:=λx y H Q=>∃p c i v,x = .ref p/\y = .int i/\ju K H p c/\my c i=ψ v/\Q v H
def Xr:xx X (cq X.K):=by
 intro e f Γ s Z H x y v u Q I A B h m;let⟨p,N,i,z,rfl,rfl,C,D,q⟩:=h;cases A;let⟨t,rfl⟩:=B;let⟨g,r,k,O⟩:=I.list C;let⟨j,d,E,P,F,G⟩:=Ac D;let⟨w,n,J⟩:=r.get E;have L:=r.length;have R:=Ba;have c:EP X Γ Z Q w s:=#[z,H,I,J,q];by_cases o:0<=i
 ·have l:i.toNat=j:=by
   rw[seqIndex_of o G] at d;show dG d
  show item_listR k.isList o ν (by rw[l];simpa using n) c m
 ·have l:(i+(g.toArray.size:Int)).toNat=j:=by
   rw[seqIndex_neg ν F] at d;rw[aY,<-L];show dG d
  show tD (x:=w) k.isList.typeIs slot_list_getitem.lookup
   (wpAny_getItem_list_neg (Q:=λr M=>r=w/\EP X Γ Z Q r M) k.isList ν (by rw[aY] <;> lia) ν (by rw[l];simpa using n) #[rfl,c]) m
def J8:xx X (cu X.K):=by
 intro c d Γ s Z H x y v u Q I g k h l;let⟨p,G,i,z,rfl,rfl,m,n,q⟩:=h;cases g;let⟨t,rfl⟩:=k;let⟨o,r,f,J⟩:=I.tuple m;let⟨j,A,B,L,M,N⟩:=Ac n;let⟨w,C,D⟩:=r.get B;have E:=r.length;have O:=Ba;have e:EP X Γ Z Q w s:=#[z,H,I,D,q];show tD (x:=w) f.typeIs slot_tuple_getitem.lookup
  (XJ (j:=j) (Q:=λr F=>r=w/\EP X Γ Z Q r F) f ν ν (by rw[aY,<-E];show A) (~~~C) #[rfl,e]) l
def Bw(lo hi:Option Int)(n:Nat):(sliceBounds lo hi ξ n).1=((HT.sIx n 0 lo:Nat):Int)/\(sliceBounds lo hi ξ n).2.1=((HT.sIx n n hi:Nat):Int)/\(sliceBounds lo hi ξ n).2.2=1:=by
 show#[?_,?_,rfl]
 ·cases lo with
  |none=>simp[sliceBounds,HT.sIx]
  |some i=>
   erw[sliceBounds,HT.sIx,NS,show(1:Int) > 0 by decide,if_true];by_cases h:i<0
   ·erw[h,if_true] <;> lia
   ·erw[h,if_false] <;> lia
 ·cases hi with
  |none=>simp[sliceBounds,HT.sIx]
  |some i=>
   erw[sliceBounds,HT.sIx,NS,show(1:Int) > 0 by decide,if_true];by_cases h:i<0
   ·erw[h,if_true] <;> lia
   ·erw[h,if_false] <;> lia
def XU(its:ι aF)(lo hi:Option Int):slicePick its.toArray lo hi ξ=((its.drop (HT.sIx its.length 0 lo)).take (HT.sIx its.length its.length hi-HT.sIx its.length 0 lo)).toArray:=by
 let⟨c,d,e⟩:=Bw lo hi its.toArray.size;unfold slicePick;rw[c,d,e];erw[sliceRange_one,pick_run,aY] <;> rfl
def df(K:aH):V->Option Int->Option Int->Hp->VK->Prop:=λx lo d H Q=>∃a c,x = .ref a/\j9 K H a c/\∀p,H p=ξ->Q (.ref p) (f6 H p (.lst (Cy c lo d)))
def Zl:x6 X (df X.K):=by
 intro Γ s Z H x v u w lo e y Q I g i j k h;let⟨a,c,rfl,l,q⟩:=h;cases g;let⟨m,r,f,n⟩:=I.list l;have d:=r.length;show#["list",_,slot_list_getitem.lookup,f.isList.typeIs,?_];show zR f.isList i j k .none η ?_ (by rw[aY] <;> lia);rw[XU,<-d];show#[.ref s.z,_,I.laid (t':=s.toks) (o:=.lst (Cy c lo e)) (λb A q=>aN _ q) (aS _) ?_,rfl,q _ (I.hok.fresh (aS _))];show#[dC (PK c lo e) n,_,0,(r.drop (HT.sIx c.length 0 lo)).take (HT.sIx c.length c.length e-HT.sIx c.length 0 lo),bQ _ rfl]
def Ae:HW X (.builtin "len") (λxs H Q=>∃p ys,xs=[.ref p]/\(j9 X.K H p ys\/ju X.K H p ys)/\Q (.int ys.length) H):=by
 intro Γ s Z H xs k Q I r h;let⟨p,ys,rfl,d,q⟩:=h;let⟨u,rfl,i⟩:=vals1 r;cases i;have l:=Ba;rcases d with d |d
 ·let⟨e,f,g,j⟩:=I.list d;have c:=f.length;show Calls.call_len_list g.isList (by erw[aY] <;> lia) #[.int ys.length,H,I.tok _,#[s.toks+1,by rw[aY,c]],q]
 ·let⟨e,f,g,j⟩:=I.tuple d;have c:=f.length;show len_tuple g (by erw[aY] <;> lia) #[.int ys.length,H,I.tok _,#[s.toks+1,by rw[aY,c]],q]
def Af:HW X (.type "list") (λxs H Q=>∃p ys,xs=[.ref p]/\(j9 X.K H p ys\/ju X.K H p ys)/\∀l,H l=ξ->Q (.ref l) (f6 H l (.lst ys))):=by
 intro Γ s Z H xs F Q I r h;let⟨p,ys,rfl,i,q⟩:=h;let⟨u,rfl,E⟩:=vals1 r;cases E;have j:∀(c:ι aF),c6 ys c->ys.length<=sizeLine->∀(d:Heap)(f:Nat),(∀b D,s.heap.get? b=ψ D->d.get? b=ψ D) ->
   d.get? s.z=ψ {cls:=.type "list",dict:=ξ,data:=.seq c.toArray f,slots:=(mt [])}->EP X Γ Z Q (.ref s.z) {s with heap:=d}:=λc g k d f m e=>
  #[.ref s.z,_,I.laid (t':=s.toks) m (aS _) (show gw X.prog X.w _ d _ (.lst ys) from#[k,c,f,g,e]),rfl,q _ (I.hok.fresh (aS _))]
 rcases i with i |i
 ·let⟨c,g,y,k⟩:=I.list i;have v:=g.length;let⟨o,A,B,n,C⟩:=y.isList;show XG p (.inl rfl) A B C (λd f m e=>j c g k d f m e) (by erw[aY] <;> lia)
 ·let⟨c,g,y,k⟩:=I.tuple i;have v:=g.length;let⟨o,A,B,n,C⟩:=y;show XG p (.inr rfl) A B C (λd f m e=>j c g k d f m e) (by erw[aY] <;> lia)
def XI:HW X (.type "tuple") (λxs H Q=>∃p ys,xs=[.ref p]/\((j9 X.K H p ys/\∀l,H l=ξ->Q (.ref l) (f6 H l (.tup ys)))\/(ju X.K H p ys/\Q (.ref p) H))):=by
 intro Γ s Z H xs z Q I r h;let⟨p,ys,rfl,h⟩:=h;let⟨u,rfl,n⟩:=vals1 r;cases n;rcases h with⟨f,q⟩ | ⟨f,q⟩
 ·let⟨c,g,i,j⟩:=I.list f;have k:=g.length;show call_tuple_list i.isList (λd v=>?_) (by erw[aY] <;> lia);have m:Inv X Γ Z H {s with heap:=d}:=I.kept (t':=s.toks) v;have y:Inv X Γ Z (f6 H d.objs.size (.tup ys)) {s with heap:=d.push {cls:=.type "tuple",data:=.seq c.toArray}}:=
   m.laid (t':=s.toks) (λb o e=>aN _ e) (aS _) (show gw X.prog X.w _ _ _ (.tup ys) from#[j,c,g,NG _ _])
  show#[.ref d.objs.size,_,y,rfl,q _ (m.hok.fresh (aS _))]
 ·let⟨c,g,i,j⟩:=I.tuple f;show call_tuple_same i #[.ref p,H,I,rfl,q]
def tyV(K:aH)(T:String)(x:V)(H:Hp):Prop:=match x with
 | .str _=>T = "str"
 | .int _=>T = "int"
 | .ref p=>(T = "list"/\∃d,j9 K H p d)\/(T = "tuple"/\∃o,K.lookup p=ψ o/\o.cls = .type "tuple"/\o.dict=ξ) \/
   (T = "dict"/\((∃c,H p=ψ (.dK c))\/∃c,H p=ψ (.dT c)))\/(T = "set"/\∃S n,H p=ψ (.set S n))
 |_=>False
def Wi{Z:St}{s:aJ}{T:String}(I:Inv X Γ Z H s)(r:RelV x v)(g:tyV X.K T x H):
  s.TypeIs v T/\∀a,v = .ref a->∃ob,s.heap.get? a=ψ ob/\ob.dict=ξ:=by
 cases x with
 |str z=>
  let⟨t,rfl⟩:=r;cases (show T = "str" from g);show#[typeIs_str s z t,λ_ e=>nomatch e]
 |int i=>
  let⟨t,rfl⟩:=r;cases (show T = "int" from g);show#[typeIs_int s i t,λ_ e=>nomatch e]
 |ref p=>
  cases r;rcases g with⟨rfl,w,m⟩ | ⟨rfl,o,d,q,h⟩ | ⟨rfl,d⟩ | ⟨rfl,S,n,d⟩
  ·let⟨u,_,l,_⟩:=I.list m;show#[l.isList.typeIs,λa e=>?_];cases e;let⟨o,n,e,c,h,_⟩:=l;show#[o,e,h]
  ·show#[#[o,I.kIn p o d,q],λa e=>?_];cases e;show#[o,I.kIn _ o d,h]
  ·have z:∃o,s.heap.get? p=ψ o/\o.ExactDict:=by
    rcases d with⟨j,d⟩ | ⟨j,d⟩
    ·let⟨_,_,_,_,o,_,_,e,f,_⟩:=I.hok p _ d;show#[o,e,f]
    ·let⟨_,_,_,_,o,_,_,e,f,_⟩:=I.hok p _ d;show#[o,e,f]
   let⟨o,e,f⟩:=z;show#[#[o,e,f.1],λa k=>?_];cases k;show#[o,e,f.2.1]
  ·let⟨o,_,_,_,e,f,_⟩:=I.hok p _ d;show#[#[o,e,f.1],λa k=>?_];cases k;show#[o,e,f.2.1]
 |_=>show mV g
def dz(K:aH)(T:String)(r:V->ι V->Hp->VK->Prop)(d:TE):TE:=λZ H Q=>d Z H λx c=>tyV K T x c/\r x [] c Q
def tBM(K:aH)(T:String)(r:V->ι V->Hp->VK->Prop)(d:TE)(t:TA):TE:=λZ H Q=>d Z H λx c=>tyV K T x c/\t Z c λe f=>r x e f Q
variable{o e:Expr}{es:ι Expr}{to:TE}{t:TA}{name:Str}{apos cpos:Pos}{T id:String}{r:V->ι V->Hp->VK->Prop}
def M8(g:PlainAttrs T)(slot:Slot T name id)(c:typeOf (.builtin id)=pure (.type "method_descriptor"))(i:MtR X id r)(j:PE X o to)
  (k:attributeBase o name X.env (eval o X.env)=eval o X.env:=by rfl) (l:(apos.endLine == cpos.line)=ζ:=by rfl):PE X (.Call (.Attribute o name apos) [] [] cpos) (dz X.K T r to):=by
 intro Γ s Z H Q I h;show wpAny_Call_method0_late k l (h8 (j Γ s Z H _ I h) λv m ⟨x,n,d,f,q,u⟩=>?_);let⟨w,y⟩:=Wi d f q;show#[T,id,g,slot,c,w,y,sE rfl (PySem.evalArgs_none (i Γ m Z n x [] v [] Q d f .nil u))]
def Lu(i:PlainAttrs T)(slot:Slot T name id)(c:typeOf (.builtin id)=pure (.type "method_descriptor"))(j:MtR X id r)(k:PE X o to)(l:PA X (e::es) t)
  (m:attributeBase o name X.env (eval o X.env)=eval o X.env:=by rfl)
  (n:((backTo cpos (starEach (e::es) X.env)).all (λx=>!x.1) && (backToKw cpos (keywordEach [] X.env)).all (λx=>x.1.isSome)
   && decide ((e::es).length+([]:ι pA).length+(if([]:ι pA).isEmpty then 0 else 1)<30))=ζ:=by rfl)
  (q:(apos.endLine == cpos.line)=ζ:=by rfl) (u:starEach (e::es) X.env=(χ,eval e X.env)::starEach es X.env:=by rfl) (w:(backTo cpos (starEach es X.env)).any (·.1)=χ:=by rfl):
  PE X (.Call (.Attribute o name apos) (e::es) [] cpos) (tBM X.K T r to t):=by
 intro Γ s Z H Q I h;show wpAny_Call_method_late m n q rfl (h8 (k Γ s Z H _ I h) λv y ⟨x,z,d,f,A,B⟩=>?_);let⟨C,D⟩:=Wi d f A;show#[T,id,i,slot,c,C,D,?_];have g:=l cpos Γ y Z z _ d B;rw[u] at g⊢;show sE (by show(χ || (backTo cpos (starEach es X.env)).any (·.1))=χ;rw[w] <;> rfl) (EB ?_);show h8 g λE F ⟨G,J,L,M,N⟩=>j Γ F Z J x G v E Q L f M N
end
def MtM(X:Cx)(id:String)(r:V->ι V->Hp->VK->Prop):Prop:=
 ∀(Γ:ι (Addr×Obj))(s:aJ)(Z:St)(H:Hp)(x:V)(a:ι V)(v:aF)(b:ι aF)(Q:VK),Inv X Γ Z H s->RelV x v->c6 a b->r x a H Q ->
  Θ X (call (.builtin id) (v::b)) (EP X Γ Z Q) X.xe s
def c6.one(h:c6 [x] us):∃u,us=[u]/\RelV x u:=by
 cases h with
 |cons r t=>cases t;show#[_,rfl,r]
def c6.two(h:c6 [x,y] us):∃u v,us=[u,v]/\RelV x u/\RelV y v:=by
 cases h with
 |cons r t=>
  let⟨_,rfl,q⟩:=c6.one t;show#[_,_,rfl,r,q]
theorem c6.zero:∀{us:ι aF},c6 [] us->us=[]
 |_,.nil=>rfl
def c6.dropLast(h:c6 xs us):c6 xs.dropLast us.dropLast:=by
 induction h with
 |nil=>show .nil
 |cons r t a=>
  cases t with
  |nil=>show .nil
  |cons q b=>show .cons r a
def Ic{α:Type}(l:ι α):l.eraseIdx (l.length-1)=l.dropLast:=by
 induction l with
 |nil=>rfl
 |cons a r c=>
  cases r with
  |nil=>rfl
  |cons b r=>
   have e:(a::b::r).length-1=((b::r).length-1)+1:=by
    have d:(a::b::r).length=r.length+2:=rfl;have f:(b::r).length=r.length+1:=rfl;lia
   rw[e,List.eraseIdx_cons_succ,c]
   all_goals rfl
section
variable{X:Cx}{Γ:ι (Addr×Obj)}{σ:St}{H:Hp}{s:aJ}{l b:Addr}{xs ys zs:ι V}
def Inv.lset{its its':ι aF}{n:Nat}{f:Array aF->Array aF}{t':Nat}(I:Inv X Γ σ H s)(a:H l=ψ (.lst xs))
  (e:s.heap.get? l=ψ {cls:=.type "list",data:=.seq its.toArray n}) (c:f its.toArray=its'.toArray) (d:c6 ys its') (hz:ys.length<=sizeLine):
  Inv X Γ σ (f6 H l (.lst ys)) {s with heap:=s.heap.update l (fA f),toks:=t'}:=by
 have q:=NU e f;rw[c] at q;show I.write (x:=l) (e:=l) (by rw[a];show trivial) (.inl rfl) (λi u g h=>(eD s.heap (fA f) (Ne.symm g)).trans h) #[_,q] ?_;show#[hz,its',_,d,q]
def Inv.lnew(I:Inv X Γ σ H s)(a:c6 ys its)(hz:ys.length<=sizeLine):
  Inv X Γ σ (f6 H s.z (.lst ys)) {s with heap:=s.heap.push {cls:=.type "list",data:=.seq its.toArray},toks:=t'}:=
 I.laid (λ_ _ q=>aN _ q) (aS _) #[hz,its,0,a,bQ _ rfl]
def Inv.fresh(I:Inv X Γ σ H s):H s.z=ξ:=I.hok.fresh (aS _)
def Inv.lstM(I:Inv X Γ σ H s)(a:H l=ψ (.lst xs)):xs.length<=sizeLine/\∃(its:ι aF)(n:Nat),c6 xs its/\xs.length=its.length/\s.heap.get? l=ψ {cls:=.type "list",data:=.seq its.toArray n}:=by
 let⟨z,its,n,r,e⟩:=I.hok l _ a;show#[z,its,n,r,r.length,e]
def Ty(h:n<=sizeLine):mT n=χ:=by
 unfold mT;show decide_eq_false ν
end
def Lz:V->ι V->Hp->VK->Prop:=λx b H Q=>∃l a y,x = .ref l/\b=[y]/\H l=ψ (.lst a)/\a.length<sizeLine/\Q .non (f6 H l (.lst (a++[y])))
def YY:MtM X "list.append" Lz:=by
 intro Γ s Z H x g v i Q I c d h;let⟨l,j,y,rfl,rfl,b,k,q⟩:=h;cases c;let⟨u,rfl,f⟩:=d.one;let⟨z,a,n,r,m,e⟩:=I.lstM b;show BV F.slot_list_append #[_,e,rfl] F.entry_list_append (F.args_list_append_2 _ _) (LC l a.toArray n u (by rw[aY];lia)) #[e,?_];show#[.non,_,I.lset (its':=a++[u]) b e η (r.append (.cons f .nil)) ?_,rfl,q];rw[aU,jW];lia
def dc:V->ι V->Hp->VK->Prop:=λx b H Q=>∃l a y,x = .ref l/\b=[]/\H l=ψ (.lst a)/\a[a.length-1]?=ψ y/\Q y (f6 H l (.lst a.dropLast))
def L8:MtM X "list.pop" dc:=by
 intro Γ s Z H x o v w Q I f g h;let⟨l,A,y,rfl,rfl,d,i,q⟩:=h;cases f;have b:=g.zero;subst b;let⟨z,a,n,r,j,e⟩:=I.lstM d;let⟨u,k,m⟩:=r.get i;have c:a.toArray[a.toArray.size-1]?=ψ u:=by
  show a.toArray[a.length-1]?=ψ u;rw[<-tK,<-j];show k
 show BV F.slot_list_pop #[_,e,rfl] F.entry_list_pop (F.args_list_pop_1 _) (MeetsSeq.list_pop_last l a.toArray n u c (by rw[aY];lia)) #[e,?_];show#[y,_,I.lset (its':=a.dropLast) d e ?_ r.dropLast ?_,m,q]
 ·show a.toArray.eraseIdxIfInBounds (a.toArray.size-1)=a.dropLast.toArray;rw[aY,List.eraseIdxIfInBounds_toArray,Ic]
 ·rw[EH];lia
end L2
namespace Att
open PySem PySem.W PySem.Calls PyProof.Rows
def RC:∀(ns:ι Int)(vs:ι aF),WellAll P h vs (ns.map WData.int)->IntsAre vs ns:=by
 intro ns
 induction ns with
 |nil=>
  intro vs w;rw[cF] at w;cases w;show .nil
 |cons n ns c=>
  intro vs w;rw[aM] at w;cases w with
  |cons a b=>
   cases a;show .cons _ _ (c _ b)
def Pz{l:OpenLaw}{n:Nat}(m:l.most=ψ n){P:Params}{h:Heap}{args:ι WData}{b:ι aF}
  (j:l.row.toRowW.claim.pre args=ζ) (g:WellAll P h b args):
  ∃a vs ns,b=[eG a]/\args=[WData.list (ns.map WData.int)]/\h.get? a=ψ {cls:=.type "list",data:=.seq vs.toArray}/\IntsAre vs ns/\ns.length<=n:=by
 have i:WShape.hasAll [] args [.list .int]=ζ:=(pre_splitW j).1;have k:l.pre.holds [] {args:=args} = ζ:=(pre_splitW j).2;let⟨d,r,rfl,o,s⟩:=hasAllW_cons i;obtain rfl:=hasAllW_nil s;let⟨B,rfl,u⟩:=hasW_list o;let⟨ns,rfl⟩:=items_int u;have c:ns.length<=n:=by
  unfold OpenLaw.pre at k;have e:(WTm.not (.lt (.lit (.int (n:Int))) (.len (.arg 0)))).holds [] {args:=[.list (ns.map .int)]} = ζ:=by
   have e:=(holds_andW k).1;rw[m] at e;show e
  have f:=condW_of e (w_not (w_lt w_lit (w_len_list (w_arg rfl))));rw[aG] at f;show Nat.le_of_not_lt λq=>?_;have v:(n:Int)<((ns.length:Nat):Int):=ν
  first
   | (rw[decide_eq_true v] at f;show Ψ f μ)
   | (simp at f;lia)
 cases g with
 |cons w y=>
  cases y;cases w with
  |list z A=>show#[_,_,ns,rfl,rfl,z,RC ns _ A,c]
def Pa(l:OpenLaw)(args:ι WData):l.row.toRowW.claim.post args (.bool ζ) args=ζ:=
 postW_of (r:=l.row.toRowW) (X:=(ζ == ζ))
  (show WShape.has [] (.bool ζ) .bool=ζ by first |rfl |decide |simp[WShape.has,WShape.arms,WShape.armsAll])
  (show(WTm.eq .res (.lit (.bool ζ))).value [] {args:=args,res:=ψ (.bool ζ),after:=args} = ψ (.bool (ζ == ζ)) from w_eq_bool (w_res rfl) w_lit) rfl
def attach_call{l:OpenLaw}{n:Nat}{q:bP}{b:ι Str}{j:(Str->Option aF)->Heap->Prop}{k:cS->Heap->Prop}{d:DefRec}
  (y:l.most=ψ n) (g:d.params.defaults=[])
  (call:∀(w:cS)(s₀ s₁:aJ)(mg mb:Str->Option aF)(fa:Addr)(o:Obj)(pm cd doc:aF)(a:Addr)(vs:ι aF)(ns:ι Int),
   Ground q b [] j w s₀ mg mb s₁.heap->k w s₁.heap ->
   s₁.heap.get? fa=ψ o->o.data = .func (docDef d.name d.params d.body d.scope pm cd doc)->s₁.heap.CodeRec cd d.name->mg d.name=ψ (.ref fa) ->
   s₁.heap.get? a=ψ {cls:=.type "list",data:=.seq vs.toArray}->IntsAre vs ns->ns.length<=n->s₁.gens = (mt []) ->
   codeAny (model l.prog w) callerA (.call (.ref fa) #[[.ref a],[]]) (λr s'=>r = .ok (.ret (.bool ζ))/\OldK s₁.heap s'.heap/\s'.os=s₁.os/\AllBare s'.gens) s₁):
  WalkO q b j k l.row.toRowW d [] (λf vs=>PySem.call f vs):=by
 intro w s₀ s₁ mg mb G Y fa o pm cd doc z kV A B C m h D s u O E v F i H;obtain rfl:z = .none:=Dflts.none m g;obtain rfl:kV = .none:=Dflts.noKw m;let⟨a,vs,ns,rfl,rfl,I,c,e⟩:=Pz y E i;show enter_call (oD (call w s₀ s₁ mg mb fa o pm cd doc a vs ns G Y A (fd_plain B) C h I c e D) λr s' J=>?_);let⟨rfl,K,L,M⟩:=J;show#[.inl #[.bool ζ,.bool ζ,[],rfl,λ_=>rfl,.bool ζ,Pa l _,λ_=>#[mN,λ_ N=>(nomatch N)]],K,L,M]
end Att
namespace L2
open PySem PySem.Spec PyProof.Rows
theorem HA:∀{vs:ι aF}{ns:ι Int},IntsAre vs ns->c6 (ns.map V.int) vs
 |_,_,.nil=>.nil
 |_,_,.cons n t h=>.cons #[t,rfl] (HA h)
abbrev KOf{K:aH}{h:Heap}(_:K.In h):aH:=K
def BW(s:Stmt):Arguments:=match s with
 | .FunctionDef _ a _ _ _ _ _ _ _ _=>a
 |_=>{posonlyargs:=[],args:=[],vararg:=ξ,kwonlyargs:=[],kw_defaults:=[],kwarg:=ξ,defaults:=[]}
def pF(s:Stmt):ι Stmt:=match s with
 | .FunctionDef _ _ b _ _ _ _ _ _ _=>b
 |_=>[]
def fW(s:Stmt):Scope:=match s with
 | .FunctionDef _ _ _ _ _ _ a _ _ _=>a
 |_=>{kind:=.function,names:=[],isGenerator:=χ,isCoroutine:=χ}
abbrev on:xu:=λ_ _ _ _ _ _=>False
abbrev E0:XK:=λ_ _ _=>False
def X1:Hg on X E0:=λ_ _ _ _ _ _ _ h=>h.elim
structure uh(K:aH)(x qual:Str)(st:Stmt)(f:Addr)(fd:lM):Prop where
 ex:∃(oc:aF)(od:Option Addr)(kV doc pm:aF)(an:Option Addr)(i_ ct:aF)(qm:Array (Option aF)),
  fd=mP x qual (BW st) (pF st) (fW st) .none kV doc pm an i_ ct/\K.lookup f=ψ #[oc,od,.func fd,qm]/\nJ K i_ qual=ζ
 kp:lQ K (.ref f)=ζ
section
variable{P:bP}{w:cS}{K:aH}{mg:Str->Option aF}{base:Heap}
def uh.ok{x a:Str}{st:Stmt}{f:Addr}{e:lM}{N b:ι Str}{k:Nat}{c:Sp}(F:uh K x a st f e)(S:jo N b (fW st))(len:∀vs H Q E,c vs H Q E->vs.length=b.length)
  (g:∀(i_:aF)(A:cV)(outer:ι Env)(s:aJ)(H:Hp)(vs:ι V)(Q:VK)(E:XK),h9 k (A.deeper (envOfC a (fW st) s.z f i_))->c vs H Q E ->
   ∃t,qf (LM on P w K mg base N a (fW st) f i_ A outer s H E).nox (pF st) t/\t {nx:=λ_ H'=>Q .non H',rt:=Q} (start N vs) H):lm P w K mg base on (k+1) f e b c:=by
 let⟨n,o,kV,i,u,v,i_,y,B,rfl,j,l⟩:=F.ex;show A6 j l S len λA outer s H vs Q E m d=>?_;let⟨t,h,q⟩:=g i_ A outer s H vs Q E m d;show#[t,h.nox,q]
def G6{x a:Str}{st:Stmt}{f:Addr}{h:aF}{i e:Option Addr}{j:Array (Option aF)}{kV b g d ct:aF}(l:K.lookup f=ψ ⟨h,i,.func (mP x a (BW st) (pF st) (fW st) .none kV b g e d ct),j⟩)
  (c:nJ K d a=ζ) (k:lQ K (.ref f)=ζ):uh K x a st f (mP x a (BW st) (pF st) (fW st) .none kV b g e d ct):=#[#[h,i,kV,b,g,e,d,ct,j,rfl,l,c],k]
end
section
variable{X:Cx}
def pv(i:Nat){x:Str}{pos:Pos}(a:X.N[i]?=ψ x:=by rfl)(b:sx X.env.scope x:=by walk_at "vis")(c:(x == ("__debug__":Str))=χ:=by decide)
  (d:(x == ("__classdict__":Str))=χ:=by decide):PE X (.Name x pos) (ag i):=N3 a b c d
end
end L2
namespace L2.R2
abbrev Pt:=Int×Int
def dH(a b c:Pt):Int:=(b.1-a.1)*(c.2-a.2)-(b.2-a.2)*(c.1-a.1)
def g_(a b:Pt):Prop:=a.1<b.1\/(a.1=b.1/\a.2<b.2)
instance (a b:Pt):Decidable (g_ a b):=by unfold g_;infer_instance
def GY:¬g_ a a:=λh=>h.elim (oS _) λh=>oS _ h.2
def wK{a b c:Pt}(h:g_ a b)(k:g_ b c):g_ a c:=by
 rcases h with h | ⟨h,d⟩
 ·show gJ (k.elim (Int.lt_trans h) λk=>k.1▸h)
 ·show k.elim (λk=>gJ (h▸k)) λk=>gX #[h.trans k.1,Int.lt_trans d k.2]
def CC(a b:Pt):g_ a b\/a=b\/g_ b a:=by
 rcases xZ a.1 b.1 with h |h |h
 ·show gJ (gJ h)
 ·rcases xZ a.2 b.2 with k |k |k
  ·show gJ (gX #[h,k])
  ·show gX (gJ (oN h k))
  ·show gX (gX (gX #[h.symm,k]))
 ·show gX (gX (gJ h))
def AW(h:g_ a b):¬g_ b a:=λk=>GY (wK h k)
def LP(x y:Int):Prop:=0<x\/(x=0/\0<y)
def sH(h:g_ a b):LP (b.1-a.1) (b.2-a.2):=h.elim (λh=>gJ (KP h)) λh=>gX #[by rw[h.1,Int.sub_self],KP h.2]
def TD(h:LP x y)(k:LP x' y'):LP (x+x') (y+y'):=by
 rcases h with h | ⟨rfl,a⟩ <;> rcases k with k | ⟨rfl,b⟩
 ·show gJ (Int.add_pos h k)
 ·show gJ (by rw[KL];show h)
 ·show gJ (by rw[Int.zero_add];show k)
 ·show gX #[rfl,Int.add_pos a b]
def vX(a:0<k)(h:LP x y):LP (k*x) (k*y):=by
 unfold LP at *;rcases h with h | ⟨h,b⟩
 ·show gJ (fT a h)
 ·show gX #[by rw[h,KN],fT a b]
def Ki(a:0<=k)(h:LP x y)(h0:LP z w):LP (z+k*x) (w+k*y):=by
 rcases JB a with b |rfl
 ·show TD h0 (vX b h)
 ·rw[BK,BK,KL,KL];show h0
def Zz(h:LP 0 0):False:=h.elim (oS _) λh=>oS _ h.2
def Hf(h:LP x y)(a:LP (k*x) (k*y)):0<k:=by
 unfold LP at *;rcases h with h | ⟨h,b⟩
 ·rcases a with a | ⟨a,_⟩
  ·show kN a h |> λh=>h
  ·rcases Int.mul_eq_zero.mp a with e |e
   ·subst e;simp at *;
   ·lia
 ·subst h;rcases a with a | ⟨_,a⟩
  ·simp at a
  ·show kN a b
def Aa(d:LP ux uy)(a:LP vx vy)(e:LP wx wy)(h:0<ux*vy-uy*vx)(k:0<vx*wy-vy*wx):
  0<ux*(vy+wy)-uy*(vx+wx)/\0<(ux+vx)*wy-(uy+vy)*wx:=by
 constructor
 ·show Hf a (?_:LP _ _);have:=TD (vX h (TD a e)) (vX k d);have b:(ux*(vy+wy)-uy*(vx+wx))*vx=(ux*vy-uy*vx)*(vx+wx)+(vx*wy-vy*wx)*ux:=δ
  have c:(ux*(vy+wy)-uy*(vx+wx))*vy=(ux*vy-uy*vx)*(vy+wy)+(vx*wy-vy*wx)*uy:=δ
  rw[b,c];show this
 ·show Hf a (?_:LP _ _);have:=TD (vX h e) (vX k (TD d a));have b:((ux+vx)*wy-(uy+vy)*wx)*vx=(ux*vy-uy*vx)*wx+(vx*wy-vy*wx)*(ux+vx):=δ
  have c:((ux+vx)*wy-(uy+vy)*wx)*vy=(ux*vy-uy*vx)*wy+(vx*wy-vy*wx)*(uy+vy):=δ
  rw[b,c];show this
def Gb{a b c d:Pt}(e:g_ a b)(f:g_ b c)(g:g_ c d)(h:0<dH a b c)(k:0<dH b c d):0<dH a b d/\0<dH a c d:=by
 have:=Aa (sH e) (sH f) (sH g) (by unfold dH at h;grind) (by unfold dH at k;grind);unfold dH;constructor
 ·have:=this.1;grind
 ·have:=this.2;grind
def Zw(A:LP ax ay)(P:LP px py)(V:LP vx vy)(a:0<ux*vy-uy*vx)(c:0<=-(ux*ay-uy*ax))(d:0<=ax*vy-ay*vx)(g:0<=ux*py-uy*px)(e:0<=vx*py-vy*px):0<ax*py-ay*px:=by
 have b:=vX a A;have S:=Ki c V b;rw[show(ux*vy-uy*vx)*ax + -(ux*ay-uy*ax)*vx=(ax*vy-ay*vx)*ux by grind,show(ux*vy-uy*vx)*ay + -(ux*ay-uy*ax)*vy=(ax*vy-ay*vx)*uy by grind] at S;have f:0<ax*vy-ay*vx:=by
  rcases JB d with h |h
  ·show h
  ·rw[<-h,BK,BK] at S;show(Zz S).elim
 have T:=Ki e b (vX f (vX a P));rw[show(ax*vy-ay*vx)*((ux*vy-uy*vx)*px)+(vx*py-vy*px)*((ux*vy-uy*vx)*ax)=((ax*py-ay*px)*(ux*vy-uy*vx))*vx by grind,show(ax*vy-ay*vx)*((ux*vy-uy*vx)*py)+(vx*py-vy*px)*((ux*vy-uy*vx)*ay)=((ax*py-ay*px)*(ux*vy-uy*vx))*vy by grind] at T;show kN (Hf V T) a
def Gf(h0:g_ b c0)(d:g_ a b)(f:g_ b p)(g:0<dH a0 b c0)(h:0<=dH a0 b a)(i:0<=dH b c0 a)(j:0<=dH a0 b p)(k:0<=dH b c0 p):0<dH a b p:=by
 have A:=sH d;have P:=sH f;have l:=sH h0;have m:0<(b.1-a0.1)*(c0.2-b.2)-(b.2-a0.2)*(c0.1-b.1):=by
  have e:dH a0 b c0=(b.1-a0.1)*(c0.2-b.2)-(b.2-a0.2)*(c0.1-b.1):=by {unfold dH;grind}
  rw[<-e];show g
 have n:0<=-((b.1-a0.1)*(b.2-a.2)-(b.2-a0.2)*(b.1-a.1)):=by
  have e:dH a0 b a = -((b.1-a0.1)*(b.2-a.2)-(b.2-a0.2)*(b.1-a.1)):=by unfold dH;grind
  rw[<-e];show h
 have o:0<=(b.1-a.1)*(c0.2-b.2)-(b.2-a.2)*(c0.1-b.1):=by
  have e:dH b c0 a=(b.1-a.1)*(c0.2-b.2)-(b.2-a.2)*(c0.1-b.1):=by unfold dH;grind
  rw[<-e];show i
 have q:0<=(b.1-a0.1)*(p.2-b.2)-(b.2-a0.2)*(p.1-b.1):=by
  have e:dH a0 b p=(b.1-a0.1)*(p.2-b.2)-(b.2-a0.2)*(p.1-b.1):=by unfold dH;grind
  rw[<-e];show j
 have s:0<=(c0.1-b.1)*(p.2-b.2)-(c0.2-b.2)*(p.1-b.1):=by
  have e:dH b c0 p=(c0.1-b.1)*(p.2-b.2)-(c0.2-b.2)*(p.1-b.1):=by unfold dH;grind
  rw[<-e];show k
 have c:dH a b p=(b.1-a.1)*(p.2-b.2)-(b.2-a.2)*(p.1-b.1):=by unfold dH;grind
 rw[c];show Zw A P l m n o q s
def kK(p:Pt):ι Pt->ι Pt
 |b::a::r=>if dH a b p<=0 then kK p (a::r) else b::a::r
 |s=>s
def kZ(L:ι Pt):ι Pt:=L.foldl (λs p=>p::kK p s) []
def qe(s:ι Pt):Prop:=s.Pairwise λx y=>g_ y x
def mx(s:ι Pt):Prop:=s.Pairwise g_
def zb(s:ι Pt):Prop:=∀c b a,[c,b,a].Sublist s->0<dH a b c
def Seen(p:Pt)(s:ι Pt):Prop:=∀b a,[b,a].Sublist s->0<dH a b p
theorem QC(p:Pt):∀s,∃l,s=l++kK p s
 | []=>#[[],rfl]
 | [_]=>#[[],rfl]
 |b::a::r=>by
  unfold kK;split
  ·let⟨l,e⟩:=QC p (a::r);show#[b::l,by rw[bZ,<-e]]
  ·show#[[],rfl]
def AX(p:Pt)(s:ι Pt):(kK p s).Sublist s:=by
 let⟨l,e⟩:=QC p s
 conv=>rhs;rw[e]
 show List.sublist_append_right _ _
theorem Ly(p:Pt):∀s,s≠[]->kK p s≠[]
 | [],h=>h
 | [_],_=>by simp[kK]
 |b::a::r,_=>by
  unfold kK;split
  ·show Ly p (a::r) η
  ·simp
theorem Ey(p:Pt):∀s b a r,kK p s=b::a::r->0<dH a b p
 | [],_,_,_,h=>by simp[kK] at h
 | [_],_,_,_,h=>by simp[kK] at h
 |b'::c::d,b,a,r,h=>by
  unfold kK at h;split at h
  ·show Ey p (c::d) b a r h
  ·rename_i e;cases h;lia
def qe.mem{s:ι Pt}(h:qe (b::r))(c:a∈r):g_ a b:=(cG.mp h).1 a c
def du{α:Type}{b a c:α}{r:ι α}(h:[b,a].Sublist (c::r)):(b=c/\a∈r)\/[b,a].Sublist r:=by
 cases h with
 |cons _ h=>show gX h
 |cons_cons _ h=>show gJ #[rfl,~~~h]
def Fs(d:qe (b0::a0::r))(t:zb (b0::a0::r))(i:g_ b0 p)(h:0<dH a0 b0 p):Seen p (b0::a0::r):=by
 have e:∀a,a∈a0::r->0<dH a b0 p:=by
  intro a c;rcases aP.mp c with rfl |c
  ·show h
  ·have g:0<dH a a0 b0:=t b0 a0 a (~~~c);show(Gb (qe.mem (s:=[]) (cG.mp d).2 c) (qe.mem (s:=[]) d η) i g h).2
 intro b a f;rcases du f with⟨rfl,c⟩ |f
 ·show e a c
 ·have j:b∈a0::r:=f.subset η;have g:0<dH a b b0:=t b0 b a (f.cons_cons b0);have k:g_ a b:=by
   have l:qe [b,a]:=lX f (cG.mp d).2;show(cG.mp l).1 a η
  show(Gb k (qe.mem (s:=[]) d j) i g (e b j)).1
def Zq{s:ι Pt}(d:qe s)(t:zb s)(k:∀q∈s,g_ q p):qe (p::kK p s)/\zb (p::kK p s):=by
 have f:=AX p s;have g:qe (kK p s):=lX f d;have i:zb (kK p s):=λc b a h=>t c b a (h.trans f);have j:∀q∈kK p s,g_ q p:=λq l=>k q (f.subset l);have m:Seen p (kK p s):=by
  generalize e:kK p s=u at *
  match u,e with
  | [],_=>intro b a h;cases h
  | [x],_=>intro b a h;have:=h.length_le;simp at this
  |b::a::r,e=>show Fs g i (j b η) (Ey p s b a r e)
 show#[cG.mpr #[j,g],?_];intro c b a h;cases h with
 |cons _ h=>show i c b a h
 |cons_cons _ h=>show m b a h
structure i9(L C:List Pt):Prop where
 inc:mx C
 mem:∀q∈C,q∈L
 first:∀q∈L,∀c r,C=c::r->¬g_ q c
 last:∀q∈L,∀c l,C=l++[c]->¬g_ c q
 side:∀l a b r,C=l++a::b::r->∀q∈L,0<=dH a b q
 bend:∀l a b c r,C=l++a::b::c::r->0<dH a b c
def i9.vertex(H:i9 L C)(o:b∈C)(c:a∈L)(d:p∈L)(h:g_ a b)(j:g_ b p):0<dH a b p:=by
 let⟨l,r,e⟩:=JD o;rcases fS l with rfl | ⟨k,m,rfl⟩
 ·show Ψ h (H.first a c b r e)
 ·match r with
  | []=>show Ψ j (H.last p d b _ e)
  |c0::n=>
   have f:C=k++m::b::c0::n:=(~~~e);have g:C=(k++[m])++b::c0::n:=(~~~e);have i:=H.inc;rw[g] at i;have q:g_ b c0:=(cG.mp (dI.mp i).2.1).1 c0 η;show Gf q h j (H.bend _ _ _ _ _ f) (H.side _ _ _ _ f a c) (H.side _ _ _ _ g a c) (H.side _ _ _ _ f p d) (H.side _ _ _ _ g p d)
theorem ZC(H:i9 L C)(f:p∈L):∀s,qe s->(∀q∈s,q∈L)->(∀q∈s,g_ q p)->∀c∈C,c∈s->c∈kK p s
 | [],_,_,_,_,_,h=>h
 | [_],_,_,_,_,_,h=>h
 |b::a::r,d,m,lt,c,g,h=>by
  unfold kK;split
  ·rename_i i;rcases aP.mp h with rfl |h
   ·show Ψ (H.vertex g (m a η) f (qe.mem (s:=[]) d η) (lt _ η)) ν
   ·show ZC H f (a::r) (cG.mp d).2 (λq e=>m q (bH _ e)) (λq e=>lt q (bH _ e)) c g h
  ·show h
def Mn(H:i9 L C):∀(R:ι Pt)(s:ι Pt),(∀q∈R,q∈L)->mx R->qe s->zb s->(∀q∈s,q∈L)->(∀q∈s,∀p∈R,g_ q p)->(∀c∈C,c∈s\/c∈R) ->
  let S:=R.foldl (λs p=>p::kK p s) s
  qe S/\zb S/\(∀q∈S,q∈L)/\(∀c∈C,c∈S)
 | [],s,_,_,d,t,m,_,b=>#[d,t,m,λc h=> ~~~b c h]
 |p::R,s,e,i,d,t,m,lt,b=>by
  have ok:=Zq d t (p:=p) (λq a=>lt q a p η);show Mn H R (p::kK p s) (λq a=>e q (bH _ a)) (cG.mp i).2 ok.1 ok.2 ?_ ?_ ?_
  ·intro q a;rcases aP.mp a with rfl |a
   ·show e _ η
   ·show m q ((AX p s).subset a)
  ·intro q a r f;rcases aP.mp a with rfl |a
   ·show(cG.mp i).1 r f
   ·show lt q ((AX p s).subset a) r (bH _ f)
  ·intro c g;rcases b c g with h |h
   ·show gJ (bH _ (ZC H (e p η) s d m (λq a=>lt q a p η) c g h))
   ·rcases aP.mp h with rfl |h
    ·show gJ η
    ·show gX h
theorem Km:∀(C:ι Pt)(t:Pt),t∉C->(∃c∈C,g_ c t)->(∃d∈C,g_ t d)->mx C->∃l c d r,C=l++c::d::r/\g_ c t/\g_ t d
 | [],_,_,⟨_,h,_⟩,_,_=>by cases h
 | [x],t,_,⟨c,a,h⟩,⟨d,b,k⟩,_=>by
  simp at a b;subst a;subst b;show Ψ k (AW h)
 |x::y::r,t,j,⟨c,a,h⟩,⟨d,b,k⟩,i=>by
  have f:g_ x t:=by
   rcases aP.mp a with rfl |a
   ·show h
   ·show wK ((cG.mp i).1 c a) h
  rcases CC y t with g |rfl |g
  ·have m:d∈y::r:=by
    rcases aP.mp b with rfl |b
    ·show Ψ k (AW f)
    ·show b
   let⟨l,n,o,q,e,s,u⟩:=Km (y::r) t (λh=>j (bH _ h)) #[y,η,g] #[d,m,k] (cG.mp i).2;show#[x::l,n,o,q,by rw[e];rfl,s,u]
  ·simp at j
  ·show#[[],x,y,r,rfl,f,g]
theorem Av:∀(A B:ι Pt),mx A->mx B->(∀q,q∈A↔q∈B)->A=B
 | [],[],_,_,_=>rfl
 | [],b::B,_,_,h=>Ψ ((h b).mpr η) η
 |a::A,[],_,_,h=>Ψ ((h a).mp η) η
 |a::A,b::B,i,j,h=>by
  have d:=cG.mp i;have f:=cG.mp j;have e:a=b:=by
   rcases aP.mp ((h a).mp η) with e |k
   ·show e
   ·rcases aP.mp ((h b).mpr η) with e |l
    ·show e.symm
    ·show Ψ (f.1 a k) (AW (d.1 b l))
  subst e;congr 1;show Av A B d.2 f.2 λq=>#[λc=>?_,λc=>?_]
  ·rcases aP.mp ((h q).mp (bH _ c)) with rfl |g
   ·show Ψ (d.1 q c) GY
   ·show g
  ·rcases aP.mp ((h q).mpr (bH _ c)) with rfl |g
   ·show Ψ (f.1 q c) GY
   ·show g
def Xm(A B:ι Pt)(g:mx A)(l:mx B)(h:∀x∈A,x∈B):A.Sublist B:=by
 induction B generalizing A with
 |nil=>
  cases A with
  |nil=>show KQ _
  |cons a A=>cases h a (.head _)
 |cons b B i=>
  cases A with
  |nil=>show List.nil_sublist _
  |cons a A=>
   have f:=cG.mp g;have d:=cG.mp l;rcases aP.mp (h a (.head _)) with rfl |j
   ·show(i A f.2 d.2 λx c=>(aP.mp (h x (.tail _ c))).resolve_left λe=>GY (e▸f.1 x c)).cons_cons a
   ·show(i (a::A) g d.2 λx c=>(aP.mp (h x c)).resolve_left λe=>?_).cons b;rcases aP.mp c with k |c
    ·show GY (k▸e▸d.1 a j)
    ·show AW (f.1 x c) (e▸d.1 a j)
def Dv(v:mx L)(H:i9 L C)(s:C≠[]):(kZ L).reverse=C:=by
 let⟨d,t,m,k⟩:=Mn H L [] (λ_ h=>h) v mN (λ_ _ _ h=>by cases h) (λ_ h=>by cases h) (λ_ h=>by cases h) (λc g=>gX (H.mem c g));have b:mx (kZ L).reverse:=gS.mpr d;show Av _ _ b H.inc λq=>#[λi=>?_,λi=>gO.mpr (k q i)];apply Decidable.byContradiction;intro j;have f:q∈kZ L:=gO.mp i;have n:=m q f;have w:∃c∈C,g_ c q:=by
  match C,s with
  |c::r,_=>
   show#[c,η,?_];rcases CC c q with h |rfl |h
   ·show h
   ·simp at j
   ·show Ψ h (H.first q n c r rfl)
 have y:∃d∈C,g_ q d:=by
  rcases fS C with e | ⟨l,c,e⟩
  ·show Ψ e s
  ·show#[c,by simp[e],?_];rcases CC q c with h |rfl |h
   ·show h
   ·simp[e] at j
   ·show Ψ h (H.last q n c l (~~~e))
 let⟨l,c,e,r,o,g,u⟩:=Km C q j w y H.inc;have z:[e,q,c].Sublist (kZ L):=by
  have A:mx [c,q,e]:=by
   show .cons (λx a=>(aP.mp a).elim (λe=>e▸g) λh=>bE.mp h▸wK g u) (.cons (λx a=>bE.mp a▸u) (.cons (λx a=>by cases a) .nil))
  have:[c,q,e].Sublist (kZ L).reverse:=by
   show Xm _ _ A b λx a=>?_;rw[gO];rcases aP.mp a with rfl |a
   ·show k _ (o▸bI _ (.head _))
   ·rcases aP.mp a with rfl |a
    ·show f
    ·show k _ (bE.mp a▸o▸bI _ (.tail _ (.head _)))
  simpa using this.reverse
 have B:=t e q c z;have D:=H.side l c e r o q n;have:dH c e q = - dH c q e:=by unfold dH;grind
 lia
namespace K33
theorem UO{α β:Type}(f g:α->ι β):∀l:ι α,(l.flatMap f++l.flatMap g).Perm (l.flatMap λx=>f x++g x)
 | []=>.refl _
 |x::l=>by
  rw[dA,dA,dA];have a:=UO f g l;have e:f x++l.flatMap f++(g x++l.flatMap g)=f x++(l.flatMap f++(g x++l.flatMap g)):=by rw[cL]
  rw[e,cL];show gB _ ?_;have b:(l.flatMap f++(g x++l.flatMap g)).Perm (g x++(l.flatMap f++l.flatMap g)):=by
   rw[<-cL,<-cL];show sI _ iQ
  show b.trans (gB _ a)
theorem UP{α β:Type}(f:α->ι β)(p:α->Bool)(h:∀x,p x=χ->f x=[]):∀l:ι α,l.flatMap f=(l.filter p).flatMap f
 | []=>rfl
 |x::l=>by
  rw[dA,UP f p h l,nE];by_cases e:p x=ζ
  ·rw[Ω e,dA]
  ·rw[υ e,h x (~~~e),cC]
def YQ{α β:Type}[DecidableEq α](f:α->ι β){l m:ι α}(d:l.Nodup)(g:m.Nodup)(h:∀x∈l,f x≠[]->x∈m)(i:∀x∈m,f x≠[]->x∈l):(l.flatMap f).Perm (m.flatMap f):=by
 have k:∀x,(!(f x).isEmpty)=χ->f x=[]:=λx e=> ~~~e
 rw[UP f (λx=>!(f x).isEmpty) k l,UP f (λx=>!(f x).isEmpty) k m];show List.Perm.flatMap_right _ ?_;have c:∀x,(!(f x).isEmpty)=ζ->f x≠[]:=λx e z=>by rw[z] at e;cases e
 show(wV (d.sublist HH) (g.sublist HH)).mpr λx=>?_;rw[dU,dU];show#[λ⟨a,b⟩=>#[h x a (c x b),b],λ⟨a,b⟩=>#[i x a (c x b),b]]
theorem Dr{α:Type}(p:α->Bool):∀l:ι α,(l.filter p++l.filter λx=>!p x).Perm l
 | []=>.refl _
 |x::l=>by
  have a:=Dr p l;rw[nE,nE];cases e:p x with
  |true=>simpa using a
  |false=>
   erw[aR,if_false,pI,if_true];show zY.trans (.cons x a)
theorem Ds{α:Type}(k:α->Int):∀(cs:ι Int)(es:ι α),cs.Nodup->(∀e∈es,k e∈cs)->(cs.flatMap λc=>es.filter λe=>decide (k e=c)).Perm es
 | [],es,_,h=>by
  cases es with
  |nil=>show .refl _
  |cons e es=>show Ψ (h e (.head _)) dN
 |c::cs,es,f,h=>by
  have a:=iB.mp f;rw[dA];have g:(cs.flatMap λc=>es.filter λe=>decide (k e=c))=cs.flatMap λd=>(es.filter λe=>!decide (k e=c)).filter λe=>decide (k e=d):=by
   rw[NK,NK];congr 1;show kY λd i=>?_;rw[List.filter_filter];show yB λe _=>?_;by_cases z:k e=d
   ·have:¬k e=c:=λy=>a.1 (by rw[<-y,z];show i);rw[decide_eq_true z,decide_eq_false this];rfl
   ·rw[decide_eq_false z];rfl
  rw[g];show List.Perm.trans (gB _ (Ds k cs (es.filter λe=>!decide (k e=c)) a.2 λe j=>?_)) (Dr _ es);have b:=dU.mp j;have:¬k e=c:= ~~~b.2
  show(aP.mp (h e b.1)).resolve_left this
abbrev ie{α:Type}(k:α->Int)(es:ι α)(c:Int):ι α:=es.filter λe=>decide (k e=c)
abbrev nV{α:Type}(k:α->Int)(es fs:ι α)(cs:ι Int):ι (α×α):=cs.flatMap λc=>wW (ie k es c) (ie k fs c)
abbrev mZ{α:Type}(k:α->Int)(es fs:ι α)(cs:ι Int):ι α:=cs.flatMap λc=>(ie k es c).drop (ie k fs c).length
theorem Mz{α β:Type}:∀(xs:ι α)(ys:ι β),(wW xs ys).map (·.1)=xs.take ys.length
 | [],ys=>by simp
 |_::_,[]=>rfl
 |x::xs,y::ys=>by
  rw[hZ,aM,Mz xs ys,aQ,HJ]
theorem Na{α β:Type}:∀(xs:ι α)(ys:ι β),(wW xs ys).map (·.2)=ys.take xs.length
 | [],ys=>by simp
 |_::_,[]=>rfl
 |x::xs,y::ys=>by
  rw[hZ,aM,Na xs ys,aQ,HJ]
def Ec{α β a:Type}(g:β->a)(f:α->ι β)(l:ι α):(l.flatMap f).map g=l.flatMap λx=>(f x).map g:=by rw[List.map_flatMap]
def BX{α:Type}{k:α->Int}{es:ι α}{c:Int}(h:ie k es c≠[]):∃e∈es,k e=c:=by
 let⟨e,a⟩:=List.exists_mem_of_ne_nil _ h;have:=dU.mp a;show#[e,this.1,of_decide_eq_true this.2]
def take_nil{α:Type}{l:ι α}(h:l.take n≠[]):l≠[]/\n≠0:=
 #[λe=>h (by rw[e,XB]),λe=>h (by rw[e,pN])]
def ZO{α:Type}(k:α->Int)(es fs:ι α)(cs:ι Int)(a:cs.Nodup)(h:∀e∈es,k e∈cs):((cs.flatMap λc=>(ie k es c).take (ie k fs c).length)++mZ k es fs cs).Perm es:=by
 show(UO _ _ cs).trans ?_;have e:(cs.flatMap λc=>(ie k es c).take (ie k fs c).length++(ie k es c).drop (ie k fs c).length)=cs.flatMap (ie k es):=by
  congr 1;funext c;rw[iR]
 rw[e];show Ds k cs es a h
def Eu{α:Type}(k:α->Int)(es fs:ι α)(cs:ι Int)(a:cs.Nodup)(h:∀e∈es,k e∈cs):((nV k es fs cs).map (·.1)++mZ k es fs cs).Perm es:=by
 have e:(nV k es fs cs).map (·.1)=cs.flatMap λc=>(ie k es c).take (ie k fs c).length:=by
  unfold nV;rw[Ec];congr 1;funext c;show Mz _ _
 rw[e];show ZO k es fs cs a h
def Uj{α:Type}(k:α->Int)(es fs:ι α)(cs a:ι Int)(g:cs.Nodup)(b:a.Nodup)(h:∀e∈es,k e∈cs)(h':∀e∈fs,k e∈a):((nV k es fs cs).map (·.2)++mZ k fs es a).Perm fs:=by
 have e:(nV k es fs cs).map (·.2)=cs.flatMap λc=>(ie k fs c).take (ie k es c).length:=by
  unfold nV;rw[Ec];congr 1;funext c;show Na _ _
 rw[e];have i:(cs.flatMap λc=>(ie k fs c).take (ie k es c).length).Perm (a.flatMap λc=>(ie k fs c).take (ie k es c).length):=by
  show YQ _ g b (λc _ d=>?_) (λc _ d=>?_)
  ·let⟨x,f,e⟩:=BX (take_nil d).1;show e▸h' x f
  ·have:ie k es c≠[]:=λz=>(take_nil d).2 (by rw[z];rfl);let⟨x,f,e⟩:=BX this;show e▸h x f
 show(sI _ i).trans (ZO k fs es a b h')
def YZ{α:Type}{k:α->Int}{es fs:ι α}{cs:ι Int}{p:α×α}(h:p∈nV k es fs cs):p.1∈es/\p.2∈fs/\k p.2=k p.1:=by
 let⟨c,g,d⟩:=lH.mp h;have e:=dU.mp (mK (a:=p.1) (b:=p.2) d).1;have f:=dU.mp (mK (a:=p.1) (b:=p.2) d).2;show#[e.1,f.1,(of_decide_eq_true f.2).trans (of_decide_eq_true e.2).symm]
def AU{α:Type}{k:α->Int}{es fs:ι α}{cs:ι Int}(a:cs.Nodup)(h:∀e∈es,k e∈cs):(mZ k es fs cs).length<=es.length/\(nV k es fs cs).length<=es.length:=by
 have:=(Eu k es fs cs a h).length_eq;rw[aU,aG] at this;lia
end K33
abbrev mG:=Pt×Pt
def sd(a b:Pt):ι mG:=if a.1<b.1 then[(a,b)] else if b.1<a.1 then[(b,a)] else[]
def nO:Pt->ι Pt->ι mG
 |_,[]=>[]
 |a,b::r=>sd a b++nO b r
def rR:ι Pt->ι mG
 | []=>[]
 |a::r=>nO a (r++[a])
def cov(c:Int)(s:mG):Bool:=decide (s.1.1<=c) && decide (c<s.2.1)
def LS:Pt->ι Pt->Pt
 |a,[]=>a
 |_,b::r=>LS b r
theorem GV:∀(a:Pt)(r:ι Pt)(b:Pt),LS a (r++[b])=b
 |_,[],_=>rfl
 |_,x::r,b=>GV x r b
def vC{α:Type}:ι α->ι (α×α)
 |x::y::r=>(x,y)::vC r
 |_=>[]
def k5(s:mG):Int:=s.2.1-s.1.1
def hB(B:Int)(s:mG)(t:Int):Int:=(s.1.2*k5 s+(s.2.2-s.1.2)*(t-s.1.1))*B.fdiv (k5 s)
def Xj{B w:Int}(a:0<w)(h:w∣B):∃q,B=w*q/\B.fdiv w=q:=by
 let⟨q,rfl⟩:=h;show#[q,rfl,by rw[lD];show Int.mul_fdiv_cancel _ (KO a)]
def Ci(S:ι mG)(c:Int):Prop:=∀s∈S,∀a∈S,cov c s=ζ->cov c a=ζ->hB 60 s c<hB 60 a c->hB 60 s (c+1)<=hB 60 a (c+1)
def GR{c:Int}{s:mG}:cov c s=ζ↔s.1.1<=c/\c<s.2.1:=by unfold cov;simp
def P8{s:mG}(h:s∈sd a b):(s=(a,b)\/s=(b,a))/\0<k5 s:=by
 unfold sd at h;split at h
 ·rw[bE] at h;subst h;show#[.inl rfl,by unfold k5;fail;lia]
 ·split at h
  ·rw[bE] at h;subst h;show#[.inr rfl,by unfold k5;fail;lia]
  ·cases h
theorem Gi:∀{r:ι Pt}{a:Pt}{s:mG},s∈nO a r->∃p q,p∈a::r/\q∈a::r/\s∈sd p q
 | [],_,_,h=>by cases h
 |b::r,a,s,h=>by
  rw[nO] at h;rcases bV.mp h with h |h
  ·show#[a,b,.head _,.tail _ (.head _),h]
  ·let⟨p,q,c,d,e⟩:=Gi h;show#[p,q,.tail _ c,.tail _ d,e]
def Qb{s:mG}(h:s∈rR g):(s.1∈g/\s.2∈g)/\0<k5 s:=by
 cases g with
 |nil=>cases h
 |cons a r=>
  let⟨p,q,c,d,f⟩:=Gi h;have m:∀x∈a::(r++[a]),x∈a::r:=λx b=>by
   rcases aP.mp b with rfl |b
   ·show .head _
   ·rcases bV.mp b with b |b
    ·show .tail _ b
    ·rw[bE.mp b];show .head _
  let⟨e,k⟩:=P8 f;show#[?_,k];rcases e with rfl |rfl
  ·show#[m _ c,m _ d]
  ·show#[m _ d,m _ c]
abbrev IP:=Int×Int
def o8(B c:Int)(s:mG):IP:=(hB B s c,hB B s (c+1))
def sS(M:ι IP):Prop:=M.Pairwise λx y=>x.1<=y.1/\x.2<=y.2
def Vj(h:M.Pairwise λx y=>¬g_ y x)(u:∀x∈M,∀y∈M,x.1<y.1->x.2<=y.2):sS M:=by
 show h.imp_of_mem λ{x y} a b n=>?_;unfold g_ at n;by_cases k:x.1<y.1
 ·show#[lB k,u x a y b k]
 ·lia
def kG(p:Pt):Pt:=(-p.1,-p.2)
def FJ(p:Pt):kG (kG p)=p:=by unfold kG;simp
def wM(a b c:Pt):dH (kG a) (kG b) (kG c)=dH a b c:=by unfold dH kG;grind
def CB:g_ (kG a) (kG b)↔g_ b a:=or_congr JC (and_congr (Int.neg_inj.trans eq_comm) JC)
theorem Ex(p:Pt):∀s,kK (kG p) (s.map kG)=(kK p s).map kG
 | []=>rfl
 | [_]=>rfl
 |b::a::r=>by
  have c:=Ex p (a::r);erw[aM] at c⊢;rw[kK,kK,wM];split
  ·show c
  ·rfl
theorem Gj:∀(L s:ι Pt),(L.map kG).foldl (λs p=>p::kK p s) (s.map kG)=(L.foldl (λs p=>p::kK p s) s).map kG
 | [],_=>rfl
 |p::L,s=>by
  erw[aM,mJ];rw[Ex,<-aM];show Gj L (p::kK p s)
def US(L:ι Pt):kZ (L.map kG)=(kZ L).map kG:=Gj L []
def JQ(h:qe L):mx (L.map kG):=by
 unfold mx;rw[fP];show h.imp λk=>CB.mpr k
def Xl(c:mx L)(H:i9 (L.map kG) (C.map kG))(d:C≠[]):(kZ L.reverse).reverse=C:=by
 have f:mx (L.reverse.map kG):=JQ (gS.mpr c);have g:i9 (L.reverse.map kG) (C.map kG):=by
  have m:∀q,q∈L.reverse.map kG↔q∈L.map kG:=by intro q;simp
  show#[H.inc,λq h=>(m q).mpr (H.mem q h),λq h=>H.first q ((m q).mp h),λq h=>H.last q ((m q).mp h),λl a b r e q h=>H.side l a b r e q ((m q).mp h),H.bend]
 have:=Dv f g (~~~d);rw[US,<-nF] at this;have k:=Φ (pL kG) this;rw[cP,cP] at k;have e:kG ∘ kG=id:=by funext p;show FJ p
 rwa [e,pM,pM] at k
def Ya(A:LP ax ay)(V:LP vx vy)(U:LP ux uy)(a:0<ux*vy-uy*vx)(b:0<=vx*ay-vy*ax)(c:0<=-(ux*ay-uy*ax)):False:=by
 have S:=Ki c V (Ki b U (vX a A));rw[show(ux*vy-uy*vx)*ax+(vx*ay-vy*ax)*ux + -(ux*ay-uy*ax)*vx=0 by grind,show(ux*vy-uy*vx)*ay+(vx*ay-vy*ax)*uy + -(ux*ay-uy*ax)*vy=0 by grind] at S;show Zz S
def OE{a b c q:Pt}(d:g_ b a)(f:g_ b c)(h:0<dH a b c)(g:0<=dH a b q)(i:0<=dH b c q):¬g_ q b:=by
 intro j;have A:=sH j;have V:=sH d;have U:=sH f;have k:0<(c.1-b.1)*(a.2-b.2)-(c.2-b.2)*(a.1-b.1):=by
  have e:dH a b c=(c.1-b.1)*(a.2-b.2)-(c.2-b.2)*(a.1-b.1):=by unfold dH;grind
  rw[<-e];show h
 have l:0<=(a.1-b.1)*(b.2-q.2)-(a.2-b.2)*(b.1-q.1):=by
  have e:dH a b q=(a.1-b.1)*(b.2-q.2)-(a.2-b.2)*(b.1-q.1):=by unfold dH;grind
  rw[<-e];show g
 have m:0<=-((c.1-b.1)*(b.2-q.2)-(c.2-b.2)*(b.1-q.1)):=by
  have e:dH b c q = -((c.1-b.1)*(b.2-q.2)-(c.2-b.2)*(b.1-q.1)):=by unfold dH;grind
  rw[<-e];show i
 show Ya A V U k l m
def Oi{a b c q:Pt}(d:g_ a b)(e:g_ c b)(h:0<dH a b c)(f:0<=dH a b q)(g:0<=dH b c q):¬g_ b q:=λi=>
 OE (CB.mpr d) (CB.mpr e) (by rw[wM];show h) (by rw[wM];show f) (by rw[wM];show g) (CB.mpr i)
def Qv(R:ι Pt):Prop:=∀l a b c s,R=l++a::b::c::s->¬(g_ b a/\g_ b c)
def Qw(R:ι Pt):Prop:=∀l a b s,R=l++a::b::s->a≠b
theorem Dk:∀(s:ι Pt)(a b:Pt),g_ b a->Qv (a::b::s)->Qw (a::b::s)->qe (a::b::s)
 | [],a,b,h,_,_=>by erw[qe,cG,aP,dN,or_false];show#[λx e=>e▸h,η]
 |c::s,a,b,h,g,i=>by
  have k:g_ c b:=by
   rcases CC c b with d |d |d
   ·show d
   ·show Ψ d.symm (i [a] b c s rfl)
   ·show Ψ #[h,d] (g [] a b c s rfl)
  have j:=Dk s b c k (λl x y z w e=>g (a::l) x y z w (by rw[e];rfl)) (λl x y w e=>i (a::l) x y w (by rw[e];rfl));show cG.mpr #[λq f=>?_,j];rcases aP.mp f with rfl |f
  ·show h
  ·show wK ((cG.mp j).1 q f) h
theorem Ef:∀(R:ι Pt),R≠[]->Qv R->Qw R->∃A m B,R=A++m::B/\mx (A++[m])/\qe (m::B)
 | [],h,_,_=>Ψ rfl h
 | [x],_,_,_=>#[[],x,[],rfl,by simp[mx],by simp[qe]]
 |a::b::s,_,j,f=>by
  rcases CC a b with h |h |h
  ·let⟨A,m,B,e,i,d⟩:=Ef (b::s) η (λl x y z w e=>j (a::l) x y z w (by rw[e];rfl)) (λl x y w e=>f (a::l) x y w (by rw[e];rfl));show#[a::A,m,B,by rw[e];rfl,?_,d];show cG.mpr #[λq c=>?_,i];have g:q=b\/g_ b q:=by
    match A,e,i,c with
    | [],e,i,c=>simp at c;simp at e;show gJ (c.trans e.1.symm)
    |x::A,e,i,c=>
     simp at e;let⟨rfl,e⟩:=e;rcases aP.mp c with rfl |c
     ·show gJ rfl
     ·show gX ((cG.mp i).1 q c)
   rcases g with rfl |g
   ·show h
   ·show wK h g
  ·show Ψ h (f [] a b s rfl)
  ·show#[[],a,b::s,rfl,by simp[mx],Dk s a b h j f]
structure tz(L:List Pt)(z y:Pt)(t:List Pt):Prop where
 mem:∀q∈z::y::t,q∈L
 least:∀q∈y::t,g_ z q
 side:∀l a b r,(z::y::t)++[z]=l++a::b::r->∀q∈L,0<=dH a b q
 bend:∀l a b c r,(z::y::t)++[z,y]=l++a::b::c::r->0<dH a b c
def Ml{a b c:Pt}(h:0<dH a b c):a≠b/\b≠c:=by
 constructor <;> rintro rfl <;> unfold dH at h <;> grind
def vU(L:ι Pt):ι Pt:=(kZ L).reverse.dropLast
def Ny{z b a c:Pt}{T l s:ι Pt}(e:(z::T)++[z]=l++a::b::c::s):b∈T:=by
 have h:((z::T)++[z]).dropLast=(l++a::b::c::s).dropLast:=Φ List.dropLast e;have d:(l++a::b::c::s).dropLast=(l++[a])++(b::(c::s).dropLast):=by
  have:l++a::b::c::s=(l++[a,b])++(c::s):=η
  rw[this,List.dropLast_append_of_ne_nil η];simp
 rw[pK,d] at h;cases l with
 |nil=>simp at h;rw[h.2];simp
 |cons f l=>simp at h;rw[h.2];simp
def Pw{t:ι Pt}(U:mx L)(H:tz L z y t):vU L++vU L.reverse=z::y::t:=by
 have k:g_ z y:=H.least y η;have D:∀l a b c s,(z::y::t)++[z]=l++a::b::c::s->0<dH a b c:=by
  intro l a b c s e;show H.bend l a b c (s++[y]) ?_;have:(z::y::t)++[z,y]=((z::y::t)++[z])++[y]:=η
  rw[this,e];simp
 have I:Qw ((z::y::t)++[z]):=by
  intro l a b s e
  match s with
  |c::s=>show(Ml (D l a b c s e)).1
  | []=>
   have:(z::y::t)++[z,y]=l++a::b::[y]:=by
    have:(z::y::t)++[z,y]=((z::y::t)++[z])++[y]:=η;rw[this,e];simp
   show(Ml (H.bend l a b y [] this)).1
 have n:∀q∈(z::y::t)++[z],q∈L:=by
  intro q d;rcases bV.mp d with h |h
  ·show H.mem q h
  ·simp at h;subst h;show H.mem _ η
 have V:z∈L:=H.mem z η;have J:Qv ((z::y::t)++[z]):=by
  intro l a b c s e ⟨K,M⟩;have Z:=OE K M (D l a b c s e) (H.side l a b (c::s) e z V) (H.side (l++[a]) b c s (by rw[e];simp) z V);show Z (H.least b (Ny e))
 let⟨A,m,B,e,N,E⟩:=Ef _ η J I;have hA:∃i,A=z::i:=by
  match A,e with
  | [],e=>
   exfalso;simp at e;let⟨rfl,e5⟩:=e;have hy:y∈B:=(by rw[<-e5];simp);show AW k ((cG.mp E).1 y hy)
  |x::i,e=>simp at e;show#[i,by rw[e.1]]
 let⟨i,rfl⟩:=hA;have hB:∃f,B=f++[z]:=by
  rcases fS B with rfl | ⟨f,x,rfl⟩
  ·exfalso;have O:(z::y::t)++[z]=(z::i)++[m]:=e;have:=jH O rfl;simp at this;subst this;show GY ((cG.mp N).1 z η)
  ·have O:(z::y::t)++[z]=(z::i++m::f)++[x]:=(by rw[e];simp);have:=jH O rfl;simp at this;show#[f,by rw[this];simp]
 let⟨f,rfl⟩:=hB;have e2:(z::y::t)++[z]=(z::i++m::f)++[z]:=by rw[e];simp
 have er:z::y::t=z::i++m::f:=tL e2 rfl;have o:∀q∈L,¬g_ q z:=by
  intro q d;rcases fS (y::t) with h | ⟨u,x,C⟩
  ·simp at h
  ·have F:(z::y::t)++[z,y]=(z::u)++x::z::y::[]:=(by rw[C];simp);have hx:g_ z x:=H.least x (by rw[C];simp);show OE hx k (H.bend _ _ _ _ _ F) (H.side (z::u) x z [] (by rw[C];simp) q d) (H.side [] z y (t++[z]) η q d)
 have v:∀q∈L,¬g_ m q:=by
  intro q d;rcases fS (z::i) with h | ⟨u,x,C⟩
  ·simp at h
  ·have P:g_ x m:=by
    have G:=N;rw[C] at G;show(dI.mp G).2.2 x η m η
   match hB':f++[z],E with
   | [],_=>simp at hB'
   |c::s,E=>
    have F:(z::y::t)++[z]=u++x::m::c::s:=(by rw[e,<-hB',C];simp);have Q:g_ c m:=by
     show(cG.mp E).1 c η
    show Oi P Q (D _ _ _ _ _ F) (H.side _ _ _ _ F q d) (H.side (u++[x]) m c s (by rw[F];simp) q d)
 have R:i9 L (z::i++[m]):=by
  show#[N,λq d=>n q ?_,λq d c r g=>?_,λq d c l g=>?_,λl a b r g q d=>?_,λl a b c r g=>?_]
  ·rw[e];simp at d⊢;rcases d with h |h |h <;> simp[h]
  ·simp at g;rw[<-g.1];show o q d
  ·have:=jH g rfl;simp at this;rw[<-this];show v q d
  ·show H.side l a b (r++(f++[z])) ?_ q d;have:z::i++m::(f++[z])=(z::i++[m])++(f++[z]):=η;rw[e,this,g];simp
  ·show D l a b c (r++(f++[z])) ?_;have:z::i++m::(f++[z])=(z::i++[m])++(f++[z]):=η;rw[e,this,g];simp
 have T:∀q∈L.map kG,∃p∈L,q=kG p:=by
  intro q d;let⟨p,j,rfl⟩:=bK.mp d;show#[p,j,rfl]
 have W:∀(X Y:ι Pt),X.map kG=Y->X=Y.map kG:=by
  rintro X Y rfl;rw[cP];have e:kG ∘ kG=id:=by funext p;show FJ p
  rw[e,pM]
 have up:i9 (L.map kG) ((m::(f++[z])).map kG):=by
  show#[JQ E,λq d=>?_,λq d c r g=>?_,λq d c l g=>?_,λl a b r g q d=>?_,λl a b c r g=>?_]
  ·let⟨p,j,rfl⟩:=bK.mp d;show eU (n p ?_);rw[e];show bI _ j
  ·let⟨p,j,rfl⟩:=T q d;simp at g;rw[<-g.1,CB];show v p j
  ·let⟨p,j,rfl⟩:=T q d;have w:(m::f).map kG++[kG z]=l++[c]:=(~~~g);have:=jH w rfl;simp at this;rw[<-this,CB];show o p j
  ·let⟨p,j,rfl⟩:=T q d;have w:=W _ _ g;erw[aX,aM] at w;have:=H.side (z::i++l.map kG) (kG a) (kG b) (r.map kG) (by rw[e,w];simp) p j;rw[<-wM,FJ,FJ] at this;show this
  ·have w:=W _ _ g;erw[aX,aM] at w;have:=D (z::i++l.map kG) (kG a) (kG b) (kG c) (r.map kG) (by rw[e,w];simp);rw[wM] at this;show this
 have K:=Dv U R η;have M:=Xl U up η;unfold vU;rw[K,M,er];have:m::(f++[z])=(m::f)++[z]:=η
 rw[this,pK,pK]
def Hi(L:ι Pt):Prop:=L.Pairwise λx y=>¬g_ y x
theorem ZB(p:Pt):∀s,kK p (kK p s)=kK p s
 | []=>rfl
 | [_]=>rfl
 |b::a::r=>by
  by_cases h:dH a b p<=0
  ·rw[kK,Ω h];show ZB p (a::r)
  ·have e:kK p (b::a::r)=b::a::r:=(by rw[kK,υ h]);rw[e,e]
def Qk(a p:Pt):dH a p p<=0:=by
 unfold dH;have:(p.1-a.1)*(p.2-a.2)-(p.2-a.2)*(p.1-a.1)=0:=δ
 lia
def WQ(a p:Pt):dH a a p<=0:=by
 unfold dH;have:(a.1-a.1)*(p.2-a.2)-(a.2-a.2)*(p.1-a.1)=0:=δ
 lia
def uA(L:ι Pt)(p:Pt):kZ (L++[p])=p::kK p (kZ L):=by unfold kZ;rw[sL];rfl
def Tb:∀(L:ι Pt),(kZ L).length<=L.length:=by
 have sub:∀(L s:ι Pt),(L.foldl (λs p=>p::kK p s) s).length<=L.length+s.length:=by
  intro L
  induction L with
  |nil=>intro s;simp
  |cons y L a=>
   intro s;have b:=a (y::kK y s);have:=(AX y s).length_le;erw[mJ,aQ] at b⊢;lia
 intro L;simpa [kZ] using sub L []
structure z6(L D:List Pt):Prop where
 inc:mx D
 mem:∀z,z∈D↔z∈L
 many:2<=D.length->kZ L=kZ D
 one:∀c,D=[c]->kZ L=[c]\/kZ L=[c,c]
 none:D=[]->kZ L=[]
def Zf{α:Type}{P:ι α->Prop}(h0:P [])(a:∀l x,P l->P (l++[x])):∀l,P l:=by
 intro l;have:∀m:ι α,P m.reverse:=by
  intro m
  induction m with
  |nil=>show h0
  |cons x m b=>rw[pB];show a _ _ b
 have:=this l.reverse
 rwa [List.reverse_reverse] at this
def Sv:∀(L:ι Pt),Hi L->∃D,z6 L D:=by
 show Zf ?_ ?_
 ·intro _;show#[[],mN,λz=>Iff.rfl,λh=>Ψ h η,λc h=>by simp at h,λ_=>rfl]
 ·intro L p B n;have y:=dI.mp n;let⟨D,H⟩:=B y.1;have o:∀z∈L,¬g_ p z:=λz g=>y.2.2 z g p η;rcases fS D with j | ⟨b,c,j⟩
  ·-- nothing so far
   have C:L=[]:=by
    apply List.eq_nil_iff_forall_not_mem.mpr;intro z g;have:=(H.mem z).mpr g;rw[j] at this;cases this
   subst C;show#[[p],by simp[mx],λz=>by simp,λh=>Ψ h η,λc h=>?_,λh=>by simp at h];simp at h;subst h;show gJ rfl
  ·have j:D=b++[c]:=(~~~j);subst j;have k:c∈L:=(H.mem c).mp η;have E:∀z∈b++[c],z=c\/g_ z c:=by
    intro z g;rcases bV.mp g with h |h
    ·show gX ((dI.mp H.inc).2.2 z h c η)
    ·show gJ (~~~h)
   by_cases l:p=c
   ·subst l;show#[b++[p],H.inc,λz=>?_,λi=>?_,λc q=>?_,λh=>by simp at h]
    ·rw[H.mem z];erw[bV,bE];show#[gJ,λh=>h.elim id λe=>e▸k]
    ·rw[uA,H.many i,uA];have F:kZ b≠[]:=by
      rcases fS b with h | ⟨s,d,h⟩
      ·rw[h] at i;simp at i
      ·have:b=s++[d]:=(~~~h);rw[this,uA];simp
     have A:=Ly p _ F;generalize G:kK p (kZ b)=u at A;cases u with
     |nil=>show Ψ rfl A
     |cons a r=>
      rw[kK,Ω (Qk a p)];congr 1;rw[<-G,ZB]
    ·have v:b=[]/\p=c:=by
      cases b with
      |nil=>simp at q;show#[rfl,q]
      |cons x b=>simp at q
     let⟨rfl,rfl⟩:=v;rw[uA];rcases H.one p rfl with e |e
     ·rw[e];show gX rfl
     ·rw[e,kK,Ω (WQ p p)];show gX rfl
   ·have f:g_ c p:=by
     rcases CC c p with h |h |h
     ·show h
     ·show Ψ h.symm l
     ·show Ψ h (o c k)
    have m:mx ((b++[c])++[p]):=by
     show dI.mpr #[H.inc,η,λz g w n=>?_];have:w=p:=(~~~n);subst this;rcases E z g with rfl |h
     ·show f
     ·show wK h f
    show#[(b++[c])++[p],m,λz=>?_,λ_=>?_,λd I=>by have:=Φ iM I;simp at this,λh=>by simp at h]
    ·rw[bV,H.mem z,bV]
    ·rw[uA,uA (b++[c])];by_cases i:2<=(b++[c]).length
     ·rw[H.many i]
     ·have:b=[]:=by
       cases b with
       |nil=>rfl
       |cons x b=>simp at i
      subst this;rcases H.one c rfl with e |e
      ·rw[e];rfl
      ·rw[e,kK,Ω (WQ c p)];rfl
def Dm{L D:ι Pt}(b:Hi L)(d:mx D)(f:∀z,z∈D↔z∈L):(2<=D.length->kZ L=kZ D)/\(D.length<=1->(kZ L).length<=2):=by
 let⟨a,H⟩:=Sv L b;have:a=D:=Av _ _ H.inc d λq=>(H.mem q).trans (f q).symm;subst this;show#[H.many,λh=>?_]
 match a,H,h with
 | [],H,_=>rw[H.none rfl];simp
 | [c],H,_=>rcases H.one c rfl with e |e <;> rw[e] <;> simp
 |_::_::_,_,h=>simp at h
def FP(L:ι Pt):ι Pt:=vU L++vU L.reverse
def Do{L D:ι Pt}(g:Hi L)(i:mx D)(d:∀z,z∈D↔z∈L):(2<=D.length->FP L=FP D)/\(D.length<=1->(FP L).length<3):=by
 have a:=Dm g i d;have j:Hi (L.reverse.map kG):=by
  unfold Hi;rw[fP,gS];show g.imp λh k=>h (CB.mp k)
 have l:mx (D.reverse.map kG):=JQ (gS.mpr i);have b:=Dm j l λz=>by erw[bK,gO];constructor <;> (rintro⟨w,c,f⟩;show#[w,by first |show(d w).mp c |show(d w).mpr c,f])
 rw[US,US] at b;erw[aG,fV] at b;have inj:∀(X Y:ι Pt),X.map kG=Y.map kG->X=Y:=by
  intro X Y h;have:=Φ (pL kG) h;rw[cP,cP] at this;have e:kG ∘ kG=id:=by funext p;show FJ p
  rwa [e,pM,pM] at this
 constructor
 ·intro h;unfold FP vU;rw[a.1 h,inj _ _ (b.1 h)]
 ·intro h;have c:=a.2 h;have f:=b.2 h;unfold FP vU;erw[aU,EH,fV];show rL (Nat.add_le_add (EK c 1) (EK f 1)) μ
def wu(L:ι Pt)(a b:Pt):Prop:=∃l r,L=l++a::b::r
def Yi(h:wu (L.map f) a b):∃x y,wu L x y/\a=f x/\b=f y:=by
 let⟨l,r,e⟩:=h;let⟨c,j,rfl,rfl,d⟩:=List.map_eq_append_iff.mp e;let⟨x,k,rfl,rfl,g⟩:=EI.mp d;let⟨y,i,rfl,rfl,m⟩:=EI.mp g;show#[x,y,#[c,i,rfl],rfl,rfl]
def wu.mem(h:wu L a b):a∈L/\b∈L:=by
 let⟨l,r,rfl⟩:=h;simp
def tq(cs:ι Pt)(a b:Pt):Prop:=wu (cs++cs.take 1) a b
structure mf(cs:List Pt):Prop where
 len:3<=cs.length
 nodup:cs.Nodup
 strict:∀a b,tq cs a b->∀q∈cs,q≠a->q≠b->0<dH a b q
def R3(a b:Pt):dH a b a=0:=by unfold dH;grind
def R4(a b:Pt):dH a b b=0:=by unfold dH;grind
def mf.side(h:mf cs)(e:tq cs a b)(f:q∈cs):0<=dH a b q:=by
 by_cases c:q=a
 ·subst c;rw[R3];decide
 ·by_cases d:q=b
  ·subst d;rw[R4];decide
  ·show lB (h.strict a b e q f c d)
def mf.map(h:mf cs)(i:0<k)(j:∀a b c,dH (f a) (f b) (f c)=k*dH a b c)(inj:∀a b,f a=f b->a=b):mf (cs.map f):=by
 show#[~~~h.len,?_,λa b d q l m n=>?_]
 ·show yA f (λa b o e=>o (inj a b e)) h.nodup
 ·unfold tq at d;rw[<-WZ,<-aX] at d;let⟨x,y,g,rfl,rfl⟩:=Yi d;let⟨p,s,rfl⟩:=bK.mp l;rw[j];show fT i (h.strict x y g p s (λe=>m (by rw[e])) λe=>n (by rw[e]))
def tq.mem(h:tq cs a b):a∈cs/\b∈cs:=by
 have k:∀x,x∈cs++cs.take 1->x∈cs:=λx c=>(bV.mp c).elim id uS;show#[k a (wu.mem h).1,k b (wu.mem h).2]
theorem len_sub{α:Type}[DecidableEq α]:∀(l m:ι α),l.Nodup->(∀x∈l,x∈m)->l.length<=m.length
 | [],_,_,_=>dL _
 |x::l,m,f,a=>by
  have b:=a x (.head _);have c:=iB.mp f;have:=len_sub l (m.erase x) c.2 λy d=>(uQ λ(e:y=x)=>c.1 (e▸d)).mpr (a y (.tail _ d));rw[qQ b] at this;show dC (AB this) (KU (AC (sM b)))
def mf.third(c:mf cs)(u v:Pt):∃w∈cs,w≠u/\w≠v:=by
 apply iH;intro d;have:=len_sub cs [u,v] c.nodup λw e=>by
  by_cases a:w=u
  ·show a▸.head _
  ·by_cases b:w=v
   ·show b▸.tail _ (.head _)
   ·show Ψ #[w,e,a,b] d
 show Ψ (dC c.len this) (show ¬ 3<=2 by decide)
def mf.ne(c:mf cs)(h:tq cs u v):u≠v:=by
 let⟨w,a,b,d⟩:=c.third u v;rintro rfl;have:=c.strict u u h w a b d;rw[show dH u u w=0 by unfold dH;grind] at this;show oS _ this
def Yg(c:mf cs)(h:tq cs u v)(h':tq cs v u):False:=by
 let⟨w,a,b,d⟩:=c.third u v;have e:=c.strict _ _ h w a b d;rw[show dH u v w = - dH v u w by unfold dH;grind] at e;show Int.lt_asymm (c.strict _ _ h' w a d b) (Int.neg_pos.mp e)
def mf.bend(h:mf R){a b c:Pt}(e:R++R.take 2=l++a::b::c::r):0<dH a b c:=by
 obtain⟨x,y,d,g⟩:∃x y d,R=x::y::d:=by
  match R,h.len with
  |x::y::d,_=>show#[x,y,d,rfl]
 have i:R.take 1=[x]:=by rw[g];rfl
 have q:R++R.take 2=(R++R.take 1)++[y]:=by rw[i,cL,g];rfl
 rw[q] at e;have ⟨ab,bc⟩:tq R a b/\tq R b c:=by
  rcases fS r with rfl | ⟨j,w,rfl⟩
  ·have f:(R++R.take 1)++[y]=(l++[a,b])++[c]:=(by rw[e,cL];rfl);have k:=tL f rfl;have m:=jH f rfl;injection m with m _;show#[#[l,[],k],?_];have s:R++[x]=(l++[a])++[b]:=(by rw[<-i,k,cL];rfl);have n:=jH s rfl;injection n with n _;rw[<-n,<-m];show#[[],d++[x],by rw[i,g];rfl]
  ·have f:(R++R.take 1)++[y]=(l++a::b::c::j)++[w]:=(by rw[e,cL,DK];rfl);have k:=tL f rfl;show#[#[l,c::j,k],l++[a],j,by rw[k,cL];rfl]
 show h.strict a b ab c bc.mem.2 (λo=>Yg h ab (o▸bc)) λo=>h.ne bc o.symm
def Bv{L D:ι Pt}{T:ι Pt}(i:mx D)(h:mf (z::T))(d:∀q∈T,¬g_ q z)(mem:∀q∈z::T,q∈D)(left:∀a b,tq (z::T) a b->∀q∈D,0<=dH a b q):FP D=z::T:=by
 obtain⟨y,t,rfl⟩:∃y t,T=y::t:=by
  have:=h.len;cases T with
  |nil=>simp at this
  |cons y t=>show#[y,t,rfl]
 show Pw i #[mem,λq g=>?_,λl a b r e=>left a b #[l,r,e],λl a b c r e=>h.bend (l:=l) (r:=r) e];rcases CC z q with f |f |f
 ·show f
 ·subst f;show Ψ g (iB.mp h.nodup).1
 ·show Ψ f (d q g)
abbrev H3:=Int×Int×Int
abbrev rm(z:Pt):H3:=(z.1,z.2,1)
abbrev av(α:Int)(p:H3)(β:Int)(q:H3):H3:=(α*p.1+β*q.1,α*p.2.1+β*q.2.1,α*p.2.2+β*q.2.2)
structure uc where
 a:Int
 b:Int
 k:Int
section
variable(L:uc)
def zd(z:Pt):Int:=L.a*z.1+L.b*z.2-L.k
def fm(u v:Pt):H3:=av (zd L v).natAbs (rm u) (zd L u).natAbs (rm v)
def blk(u v:Pt):ι H3:=(if zd L u<=0 then[rm u] else[])++(if zd L u*zd L v<0 then[fm L u v] else[])
def Pl:ι Pt->ι H3
 | []=>[]
 | [_]=>[]
 |u::v::r=>blk L u v++Pl (v::r)
end
def dl(d:Pt->Pt->Int):Pt->Pt->ι Pt->Int
 |u,w,[]=>d u w
 |_,w,v::W=>dl d w v W
section
open PySem PySem.Spec PyProof.Rows L2
inductive D where
 |non |bl (b:Bool) |int (i:Int) |str (x:Str) |tup (xs:List D) |lst (xs:List D) |dct (ks:List Int) (xs:List D) |dtt (ks:List (List Int)) (xs:List D)
def r6(K:aH)(H:Hp)(a:Addr)(vs:ι V):Prop:=
 (∃o,H a=ψ (.frz o (.lst vs))) \/
  ∃(o:Obj)(b:Array aF)(n:Nat),K.lookup a=ψ o/\o.cls = .type "list"/\o.dict=ξ/\o.data = .seq b n/\b.size<=sizeLine/\c6 vs b.toList
theorem r6.sq{K:aH}{H:Hp}{a:Addr}{vs:ι V}:r6 K H a vs->j9 K H a vs
 | .inl ⟨o,h⟩=>.inl (.inr #[o,h])
 | .inr h=>.inr h
def xG(a:Nat):Str:=if a=28 then "rising.<locals>.<lambda>" else if a=59 then "framed_rising.<locals>.<lambda>" else "laid_triangles.<locals>.<lambda>"
abbrev KJ(c:Addr)(q:Str):HO:=.ext λh=>∃a b t,h.get? c=ψ a/\a.data = .fields b/\b[1]?=ψ (.str q t)
structure o9(H:Hp)(ps:Array aF):Prop where
 ok:TriplesOk ps.toList
 code:∀pos cv,codeAmong pos ps.toList=ψ cv->∃c,cv = .ref c/\H c=ψ (KJ c (xG pos.col))
def oz(H H':Hp):Prop:=∀b c,H b=ψ (.tbl c)->∃a,H' b=ψ (.tbl (c++a))/\(o9 H c->o9 H' (c++a))
def oz.trans(a:oz H H1)(b:oz H1 H2):oz H H2:=λc d h=>by
 let⟨e,f,g⟩:=a c d h;let⟨i,j,k⟩:=b c _ f;show#[e++i,by rw[j,wO],λx=>by rw[<-wO];show k (g x)]
def o9.mono(x:o9 H ps)(k:∀b a,H b=ψ (.ext a)->H' b=ψ (.ext a)):o9 H' ps:=#[x.ok,λd f e=>let ⟨c,e1,e2⟩:=x.code d f e;#[c,e1,k _ _ e2]]
def oz.of(k:∀b a,H b=ψ (.ext a)->H' b=ψ (.ext a))(h:∀b ps,H b=ψ (.tbl ps)->H' b=ψ (.tbl ps)):oz H H':=λb ps e=>#[(mt []),by rw[rH];show h b ps e,λx=>by rw[rH];show x.mono k]
def NT:HO->Prop
 | .tbl _=>False
 |_=>True
structure c5(H H':Hp):Prop where
 tups:∀b xs,H b=ψ (.tup xs)->H' b=ψ (.tup xs)
 frzs:∀b o u,H b=ψ (.frz o u)->H' b=ψ (.frz o u)
 exts:∀b φ,H b=ψ (.ext φ)->H' b=ψ (.ext φ)
 xds:∀b fs,H b=ψ (.xd fs)->H' b=ψ (.xd fs)
 tbls:oz H H'
def c5.refl(H:Hp):c5 H H:=#[λ_ _ h=>h,λ_ _ _ h=>h,λ_ _ h=>h,λ_ _ h=>h,.of (λ_ _ h=>h) λ_ _ h=>h]
def c5.trans(a:c5 H H1)(b:c5 H1 H2):c5 H H2:=
 #[λc e h=>b.tups c e (a.tups c e h),λc o u h=>b.frzs c o u (a.frzs c o u h),λc d h=>b.exts c d (a.exts c d h),λc fs h=>b.xds c fs (a.xds c fs h),a.tbls.trans b.tbls]
structure cc(H H':Hp):Prop where
 get:∀b o,H b=ψ o->NT o->H' b=ψ o
 tbls:oz H H'
def cc.fn(f:∀b o,H b=ψ o->H' b=ψ o):cc H H':=#[λb o h _=>f b o h,.of (λb a h=>f b _ h) λb c h=>f b _ h]
def cc.refl(H:Hp):cc H H:=.fn λ_ _ h=>h
def cc.trans(a:cc H H1)(b:cc H1 H2):cc H H2:=#[λc o h n=>b.get c o (a.get c o h n) n,a.tbls.trans b.tbls]
def cc.free(e:cc H H')(h:H' l=Option.none):H l=Option.none:=by
 cases q:H l with
 |none=>rfl
 |some o=>
  cases o with
  |tbl a=>let⟨m,b,_⟩:=e.tbls l a q;rw[b] at h;cases h
  |_=>rw[e.get l _ q trivial] at h;cases h
def cc.tbl(s:cc H H')(h:H b=ψ (.tbl ps)):∃more,H' b=ψ (.tbl (ps++more)):=let ⟨m,e,_⟩:=s.tbls b ps h;#[m,e]
def c5.of(s:cc H H'):c5 H H':=#[λb c h=>s.get b _ h trivial,λb o u h=>s.get b _ h trivial,λb a h=>s.get b _ h trivial,λb fs h=>s.get b _ h trivial,s.tbls]
def c5.ofF(f:∀b o,H b=ψ o->H' b=ψ o):c5 H H':=.of (.fn f)
def wD:ι Str:=["rising","framed_rising","laid_triangles"]
def kn(K:aH)(H:Hp):Prop:=∀x c P,x∈wD->fH K x=ψ (c,P)->∃a,H P=ψ (.tbl a)/\o9 H a
def kn.tabK{K:aH}{H H':Hp}(t:kn K H)(k:oz H H'):kn K H':=λx c P m e=>by
 let⟨b,d,f⟩:=t x c P m e;let⟨a,g,h⟩:=k P b d;show#[_,g,h f]
def c5.chg1(h:H p=ψ u)(n:(∃xs,u = .lst xs)\/(∃kvs,u = .dK kvs)\/∃kvs,u = .dT kvs):c5 H (f6 H p u'):=by
 have ne:∀b o,H b=ψ o->(∀xs,o≠.lst xs)->(∀kvs,o≠.dK kvs)->(∀kvs,o≠.dT kvs)->f6 H p u' b=ψ o:=λb o q a c d=>by
  rw[cQ]
  ·show q
  ·rintro rfl;rw[h] at q;cases q;rcases n with⟨xs,rfl⟩ | ⟨kvs,rfl⟩ | ⟨kvs,rfl⟩
   ·show a _ rfl
   ·show c _ rfl
   ·show d _ rfl
 show#[λb _ q=>ne b _ q (λ_ z=>by cases z) (λ_ z=>by cases z) (λ_ z=>by cases z),λb _ _ q=>ne b _ q (λ_ z=>by cases z) (λ_ z=>by cases z) (λ_ z=>by cases z),λb _ q=>ne b _ q (λ_ z=>by cases z) (λ_ z=>by cases z) (λ_ z=>by cases z),λb _ q=>ne b _ q (λ_ z=>by cases z) (λ_ z=>by cases z) (λ_ z=>by cases z),
  .of (λb _ q=>ne b _ q (λ_ z=>by cases z) (λ_ z=>by cases z) (λ_ z=>by cases z)) λb _ q=>ne b _ q (λ_ z=>by cases z) (λ_ z=>by cases z) (λ_ z=>by cases z)]
def xF(ks:ι Int)(vs:ι V):ι (ij×V):=gL (λk v=>(dR k,v)) ks vs
def gT(ks:ι (ι Int))(vs:ι V):ι (ι ij×V):=gL (λk v=>(k.map dR,v)) ks vs
mutual
inductive ig(K:aH)(H:Hp):D->V->Prop
 |non:ig K H .non .non
 |bl (b:Bool):ig K H (.bl b) (.bl b)
 |int (i:Int):ig K H (.int i) (.int i)
 |str (x:Str):ig K H (.str x) (.str x)
 |tup {a:Addr} {vs:List V} {ds:List D} (h:H a=ψ (.tup vs)) (r:a_ K H ds vs):ig K H (.tup ds) (.ref a)
 |lst {a:Addr} {vs:List V} {ds:List D} (h:r6 K H a vs) (r:a_ K H ds vs):ig K H (.lst ds) (.ref a)
 |dct {a:Addr} {vs:List V} {ds:List D} {ks:List Int} {o:Obj} (h:H a=ψ (.frz o (.dK (xF ks vs)))) (hl:ks.length=vs.length) (r:a_ K H ds vs):ig K H (.dct ks ds) (.ref a)
 |dtt {a:Addr} {vs:List V} {ds:List D} {ks:List (List Int)} {o:Obj} (h:H a=ψ (.frz o (.dT (gT ks vs)))) (hl:ks.length=vs.length) (r:a_ K H ds vs):ig K H (.dtt ks ds) (.ref a)
inductive a_(K:aH)(H:Hp):List D->List V->Prop
 |nil:a_ K H [] []
 |cons {d:D} {v:V} {ds:List D} {vs:List V} (h:ig K H d v) (t:a_ K H ds vs):a_ K H (d::ds) (v::vs)
end
section
variable{K:aH}{H H':Hp}
def r6.keep{a:Addr}{vs:ι V}(k:c5 H H')(h:r6 K H a vs):r6 K H' a vs:=by
 rcases h with⟨o,h⟩ |h
 ·show .inl #[o,k.frzs _ _ _ h]
 ·show .inr h
mutual
theorem ig.keep(k:c5 H H'):∀{d:D}{v:V},ig K H d v->ig K H' d v
 |_,_,.non=>.non
 |_,_,.bl b=>.bl b
 |_,_,.int i=>.int i
 |_,_,.str x=>.str x
 |_,_,.tup h r=>.tup (k.tups _ _ h) (a_.keep k r)
 |_,_,.lst h r=>.lst (r6.keep k h) (a_.keep k r)
 |_,_,.dct h a r=>.dct (k.frzs _ _ _ h) a (a_.keep k r)
 |_,_,.dtt h a r=>.dtt (k.frzs _ _ _ h) a (a_.keep k r)
theorem a_.keep(k:c5 H H'):∀{ds:ι D}{vs:ι V},a_ K H ds vs->a_ K H' ds vs
 |_,_,.nil=>.nil
 |_,_,.cons h t=>.cons (ig.keep k h) (a_.keep k t)
end
theorem a_.length:∀{ds:ι D}{vs:ι V},a_ K H ds vs->ds.length=vs.length
 |_,_,.nil=>rfl
 |_,_,.cons _ t=>by simp[a_.length t]
theorem a_.get:∀{ds:ι D}{vs:ι V}{i:Nat}{d:D},a_ K H ds vs->ds[i]?=ψ d->∃v,vs[i]?=ψ v/\ig K H d v
 |_,_,_,_,.nil,e=>by simp at e
 |_,_,0,_,.cons h _,e=>by simp at e;subst e;show#[_,rfl,h]
 |_,_,i+1,d,.cons _ t,e=>by
  let⟨v,a,b⟩:=a_.get (i:=i) (d:=d) t (~~~e);show#[v,~~~a,b]
theorem a_.append:∀{ds es:ι D}{vs us:ι V},a_ K H ds vs->a_ K H es us->a_ K H (ds++es) (vs++us)
 |_,_,_,_,.nil,s=>s
 |_,_,_,_,.cons h t,s=>.cons h (a_.append t s)
theorem a_.take:∀{ds:ι D}{vs:ι V}(n:Nat),a_ K H ds vs->a_ K H (ds.take n) (vs.take n)
 |_,_,0,_=>.nil
 |_,_,_+1,.nil=>.nil
 |_,_,n+1,.cons r t=>.cons r (a_.take n t)
theorem a_.drop:∀{ds:ι D}{vs:ι V}(n:Nat),a_ K H ds vs->a_ K H (ds.drop n) (vs.drop n)
 |_,_,0,r=>r
 |_,_,_+1,.nil=>.nil
 |_,_,n+1,.cons _ t=>a_.drop n t
def a_.dropLast{a:ι D}:∀{vs:ι V},a_ K H a vs->a_ K H a.dropLast vs.dropLast:=by
 induction a with
 |nil=>intro vs r;cases r;show .nil
 |cons d a b=>
  intro vs r;cases r with
  |cons r t=>
   cases t with
   |nil=>show .nil
   |cons c t=>show .cons r (b (.cons c t))
theorem a_.reverse:∀{ds:ι D}{vs:ι V},a_ K H ds vs->a_ K H ds.reverse vs.reverse
 |_,_,.nil=>.nil
 |_,_,.cons r t=>by
  erw[pB];show(a_.reverse t).append (.cons r .nil)
def ig.int_inv{i:Int}{v:V}(h:ig K H (.int i) v):v = .int i:=by cases h;rfl
def ig.bl_inv{b:Bool}{v:V}(h:ig K H (.bl b) v):v = .bl b:=by cases h;rfl
theorem a_.ints:∀{ns:ι Int},a_ K H (ns.map D.int) (ns.map V.int)
 | []=>.nil
 |_::_=>.cons (.int _) a_.ints
theorem a_.ints_inv:∀{ns:ι Int}{vs:ι V},a_ K H (ns.map D.int) vs->vs=ns.map V.int
 | [],_,h=>by cases h;rfl
 |n::ns,_,h=>by
  cases h with
  |cons h t=>rw[h.int_inv,a_.ints_inv t];rfl
end
def jh(K:aH)(H:Hp)(d:D)(v:V):Prop:=
 ig K H d v\/∃b a c,d = .lst b/\v = .ref a/\H a=ψ (.lst c)/\a_ K H b c
def jh.same{K:aH}{H H':Hp}{d:D}{v:V}(s:cc H H')(h:jh K H d v):jh K H' d v:=by
 rcases h with h | ⟨b,a,c,e,f,g,r⟩
 ·show .inl (h.keep (.of s))
 ·show .inr #[b,a,c,e,f,s.get _ _ g trivial,r.keep (.of s)]
def jh.lst{K:aH}{H:Hp}{b:ι D}{v:V}(h:jh K H (.lst b) v):∃a vs,v = .ref a/\j9 K H a vs/\a_ K H b vs:=by
 rcases h with h | ⟨c,a,vs,d,e,f,r⟩
 ·cases h with
  |lst h r=>show#[_,_,rfl,h.sq,r]
 ·cases d;show#[a,vs,e,j9.of f,r]
def jh.tup{K:aH}{H:Hp}{b:ι D}{v:V}(h:jh K H (.tup b) v):∃a vs,v = .ref a/\H a=ψ (.tup vs)/\a_ K H b vs:=by
 rcases h with h | ⟨c,a,vs,d,e,f,r⟩
 ·cases h with
  |tup h r=>show#[_,_,rfl,h,r]
 ·cases d
inductive S where
 |d (x:D) |own (xs:List D) |dcl (kvs:List (Int×List D)) |box (t:Bool) (me:List (List D)) |exc (C:Addr) (y:Str) (c:Int) |dt (ks:List (List Int)) (xs:List D) |raw (v:V) |mem (b:Bool) (x:D) (R:aH->Hp->Hp->V->Prop)
def S.val:S->D
 | .d x=>x
 | .own a=>.lst a
 | .dcl _=>.non
 | .box _ _=>.non
 | .exc _ _ _=>.non
 | .dt _ _=>.non
 | .raw _=>.non
 | .mem _ x _=>x
abbrev En:=ι (Option S)
inductive k_(K:aH)(H₀ H:Hp):List (Int×List D)->List (ij×V)->List Addr->Prop
 |nil:k_ K H₀ H [] [] []
 |cons {k:Int} {b:Addr} {vs:List V} {ds:List D} {kvs:List (Int×List D)} {gV:List (ij×V)} {as:List Addr} (h:H b=ψ (.lst vs)) (h0:H₀ b=ξ) (r:a_ K H ds vs) (n:b∉as) (t:k_ K H₀ H kvs gV as):
   k_ K H₀ H ((k,ds)::kvs) ((dR k,.ref b)::gV) (b::as)
abbrev Wm(C e b:Addr):HO:=.ext λh=>∃a c,h.get? e=ψ a/\a.cls = .ref C/\a.data = .fields c/\a.dict=ψ b
def mw(K:aH)(H₀ H:Hp):S->V->Prop
 | .exc C y c,v=>∃e l,v = .ref e/\H e=ψ (Wm C e l)/\H l=ψ (.xd [(y,.int c)])
 | .d x,v=>ig K H x v
 | .raw u,v=>v=u
 | .mem b x R,v=>(b=ζ->ig K H x v)/\∀m,c5 H m->R K H₀ m v
 | .dt n i,v=>∃a g,v = .ref a/\H a=ψ (.dT (gT n g))/\H₀ a=ξ/\n.length=g.length/\a_ K H i g
 | .own i,v=>∃a g,v = .ref a/\H a=ψ (.lst g)/\H₀ a=ξ/\a_ K H i g
 | .dcl j,v=>∃a h f,v = .ref a/\H a=ψ (.dK h)/\H₀ a=ξ/\k_ K H₀ H j h f
 | .box χ k,v=>∃a h f,v = .ref a/\H a=ψ (.lst (f.map V.ref))/\H₀ a=ξ/\a∉f/\k_ K H₀ H (k.map λx=>(0,x)) h f
 | .box ζ k,v=>∃a h f,v = .ref a/\H a=ψ (.tup (f.map V.ref))/\k_ K H₀ H (k.map λx=>(0,x)) h f
def Ow(H:Hp):S->V->Addr->Prop
 | .exc _ _ _,_,_=>False
 | .raw _,_,_=>False
 | .mem _ _ _,_,_=>False
 | .d _,_,_=>False
 | .own _,v,a=>v = .ref a
 | .dt _ _,v,a=>v = .ref a
 | .dcl _,v,a=>∃p c,v = .ref p/\H p=ψ (.dK c)/\(a=p\/∃k,(k,V.ref a)∈c)
 | .box χ _,v,a=>∃p b,v = .ref p/\H p=ψ (.lst b)/\(a=p\/V.ref a∈b)
 | .box ζ _,v,a=>∃p b,v = .ref p/\H p=ψ (.tup b)/\V.ref a∈b
structure c_(X:Cx)(ρ:En)(σ:St)(H:Hp):Prop where
 len:ρ.length=σ.length
 same:cc X.H₀ H
 rel:∀(i:Nat)(x:S),ρ[i]?=ψ (ψ x)->∃v,σ[i]?=ψ (ψ v)/\mw X.K X.H₀ H x v
 sep:∀(i j:Nat)(x y:S)(v u:V)(a:Addr),ρ[i]?=ψ (ψ x)->ρ[j]?=ψ (ψ y)->σ[i]?=ψ (ψ v)->σ[j]?=ψ (ψ u)->Ow H x v a->Ow H y u a->i=j
 t0:kn X.K X.H₀
section
variable{K:aH}{H₀ H H':Hp}
def k_.keep{kvs:ι (Int×ι D)}{c:ι (ij×V)}{b:ι Addr}(k:c5 H H')(t:k_ K H₀ H kvs c b)(w:∀a∈b,∀o,H a=ψ o->H' a=ψ o):k_ K H₀ H' kvs c b:=by
 induction t with
 |nil=>show .nil
 |cons h d r n t e=>show .cons (w _ (.head _) _ h) d (r.keep k) n (e λa m=>w a (.tail _ m))
def k_.mem{kvs:ι (Int×ι D)}{b:ι (ij×V)}{c:ι Addr}{a:Addr}(t:k_ K H₀ H kvs b c):a∈c↔∃k,(k,V.ref a)∈b:=by
 induction t with
 |nil=>simp
 |cons h f r n t d=>
  rw[aP,d];constructor
  ·rintro (rfl | ⟨k,e⟩)
   ·show#[_,.head _]
   ·show#[k,.tail _ e]
  ·rintro⟨k,e⟩;rcases aP.mp e with e |e
   ·cases e;show .inl rfl
   ·show .inr #[k,e]
def k_.at{kvs:ι (Int×ι D)}{c:ι (ij×V)}{b:ι Addr}{a:Addr}(t:k_ K H₀ H kvs c b)(m:a∈b):H₀ a=ξ/\∃vs,H a=ψ (.lst vs):=by
 induction t with
 |nil=>cases m
 |cons h d r n t e=>
  rcases aP.mp m with rfl |m
  ·show#[d,_,h]
  ·show e m
def k_.same{kvs:ι (Int×ι D)}{a:ι (ij×V)}{b:ι Addr}(t:k_ K H₀ H kvs a b)(s:cc H H'):k_ K H₀ H' kvs a b:=
 t.keep (.of s) λc m o h=>by
  let⟨_,d,q⟩:=t.at m;rw[h] at q;cases q;show s.get _ _ h trivial
theorem JS:∀{ks:ι Int}{vs:ι V},ks.length=vs.length->(xF ks vs).map (·.2)=vs
 | [],[],_=>rfl
 | [],_::_,h=>by cases h
 |_::_,[],h=>by cases h
 |k::ks,v::vs,h=>by
  show v::(xF ks vs).map (·.2)=v::vs;rw[JS (~~~h)]
def k_.refs{kvs:ι (Int×ι D)}{a:ι (ij×V)}{b:ι Addr}(t:k_ K H₀ H kvs a b):a.map (·.2)=b.map V.ref:=by
 induction t with
 |nil=>rfl
 |cons h d r n t c=>rw[aM,aM,c]
def Ow.at{x:S}{v:V}{a:Addr}(r:mw K H₀ H x v)(w:Ow H x v a):H₀ a=ξ/\((∃vs,H a=ψ (.lst vs))\/(∃gV,H a=ψ (.dK gV))\/∃gV,H a=ψ (.dT gV)):=by
 cases x with
 |d x=>show w.elim
 |exc C y c=>show w.elim
 |raw u=>show w.elim
 |mem b x R=>show w.elim
 |own o=>
  let⟨b,vs,rfl,h,g,_⟩:=r;cases w;show#[g,.inl #[vs,h]]
 |dt s o=>
  let⟨b,vs,rfl,h,g,_⟩:=r;cases w;show#[g,.inr (.inr #[_,h])]
 |dcl q=>
  let⟨b,gV,l,rfl,h,g,t⟩:=r;let⟨p,n,e,f,m⟩:=w;cases e;rw[h] at f;cases f;rcases m with rfl |m
  ·show#[g,.inr (.inl #[gV,h])]
  ·let⟨i,j⟩:=t.at (t.mem.mpr m);show#[i,.inl j]
 |box t z=>
  cases t with
  |false=>
   let⟨b,gV,l,rfl,h,g,_,t⟩:=r;let⟨p,vs,e,f,m⟩:=w;cases e;rw[h] at f;cases f;rcases m with rfl |m
   ·show#[g,.inl #[_,h]]
   ·let⟨c,k,e⟩:=bK.mp m;cases e;let⟨i,j⟩:=t.at k;show#[i,.inl j]
  |true=>
   let⟨b,gV,l,rfl,h,t⟩:=r;let⟨p,vs,e,f,m⟩:=w;cases e;rw[h] at f;cases f;let⟨c,k,e⟩:=bK.mp m;cases e;let⟨i,j⟩:=t.at k;show#[i,.inl j]
def mw.move{x:S}{v:V}(k:c5 H H')(r:mw K H₀ H x v)(w:∀a,Ow H x v a->∀o,H a=ψ o->H' a=ψ o):mw K H₀ H' x v/\∀a,Ow H' x v a->Ow H x v a:=by
 cases x with
 |d x=>show#[ig.keep k r,λa e=>e]
 |raw u=>show#[r,λa e=>e]
 |mem b x R=>show#[#[λe=>(r.1 e).keep k,λz A=>r.2 z (k.trans A)],λa e=>e]
 |exc C y c=>
  let⟨e,B,rfl,D,E⟩:=r;show#[#[e,B,rfl,k.exts _ _ D,k.xds _ _ E],λa e=>e]
 |own F=>
  let⟨b,l,rfl,h,j,q⟩:=r;show#[#[b,l,rfl,w b rfl _ h,j,q.keep k],λa e=>e]
 |dt L F=>
  let⟨b,l,rfl,h,j,G,q⟩:=r;show#[#[b,l,rfl,w b rfl _ h,j,G,q.keep k],λa e=>e]
 |dcl I=>
  let⟨b,f,n,rfl,h,j,t⟩:=r;have g:=w b #[b,f,rfl,h,.inl rfl] _ h;show#[#[b,f,n,rfl,g,j,t.keep k λa m=>w a #[b,f,rfl,h,.inr (t.mem.mp m)]],λa e=>?_];let⟨p,s,e,i,m⟩:=e;cases e;rw[g] at i;cases i;show#[b,f,rfl,h,m]
 |box t M=>
  cases t with
  |false=>
   let⟨b,f,n,rfl,h,j,J,t⟩:=r;have g:=w b #[b,_,rfl,h,.inl rfl] _ h;show#[#[b,f,n,rfl,g,j,J,t.keep k λa m=>w a #[b,_,rfl,h,.inr (eU m)]],λa e=>?_];let⟨p,l,e,i,m⟩:=e;cases e;rw[g] at i;cases i;show#[b,_,rfl,h,m]
  |true=>
   let⟨b,f,n,rfl,h,t⟩:=r;have g:=k.tups b _ h;show#[#[b,f,n,rfl,g,t.keep k λa m=>w a #[b,_,rfl,h,eU m]],λa e=>?_];let⟨p,l,e,i,m⟩:=e;cases e;rw[g] at i;cases i;show#[b,_,rfl,h,m]
def cc.own{x:S}{v:V}{a:Addr}{o:HO}(s:cc H H')(r:mw K H₀ H x v)(w:Ow H x v a)(h:H a=ψ o):H' a=ψ o:=by
 obtain⟨_,⟨_,q⟩ | ⟨_,q⟩ | ⟨_,q⟩⟩:=Ow.at r w <;> rw[h] at q <;> cases q <;> show s.get _ _ h trivial
def mw.same{x:S}{v:V}(s:cc H H')(h:mw K H₀ H x v):mw K H₀ H' x v:=(h.move (.of s) λa w o e=>s.own h w e).1
end
def c_.tabs(st:c_ X a Z H):kn X.K H:=st.t0.tabK st.same.tbls
def c_.ext(st:c_ X b Z H)(s:cc H H'):c_ X b Z H':=by
 show#[st.len,st.same.trans s,λi x e=>let ⟨v,c,d⟩:=st.rel i x e;#[v,c,d.same s],λi j x y v u a f g h k n q=>?_,st.t0];let⟨z,c,d⟩:=st.rel i x f;let⟨A,l,m⟩:=st.rel j y g;rw[c] at h;cases h;rw[l] at k;cases k;show st.sep i j x y _ _ a f g c l ((d.move (.of s) λa w o e=>s.own d w e).2 a n) ((m.move (.of s) λa w o e=>s.own m w e).2 a q)
def SV{α:Type}{xs:ι (Option α)}{x y:α}(e:(xs.set i (ψ x))[j]?=ψ (ψ y)):(j=i/\y=x/\i<xs.length)\/(i≠j/\xs[j]?=ψ (ψ y)):=by
 by_cases a:i=j
 ·subst a;by_cases h:i<xs.length
  ·rw[gK h] at e;cases e;show .inl #[rfl,rfl,h]
  ·rw[List.set_eq_of_length_le ν,gC ν] at e;cases e
 ·rw[hV a] at e;show .inr #[a,e]
def c_.chg(st:c_ X d Z H){W:Addr->Prop}(P:c5 H H')(h0:cc X.H₀ H')(Q:∀b o,H b=ψ o->NT o->¬W b->H' b=ψ o)(R:mw X.K X.H₀ H' x' v')
  (T:∀a,Ow H' x' v' a->W a\/H a=ξ) (I:∀(j:Nat)(y:S)(u:V)(a:Addr),j≠i->d[j]?=ψ (ψ y)->Z[j]?=ψ (ψ u)->Ow H y u a->¬W a):c_ X (d.set i (ψ x')) (Z.set i (ψ v')) H':=by
 have g:∀(j:Nat)(y:S),j≠i->d[j]?=ψ (ψ y)->∃u,Z[j]?=ψ (ψ u)/\mw X.K X.H₀ H y u/\mw X.K X.H₀ H' y u/\∀a,Ow H' y u a->Ow H y u a:=λj y c e=>by
  let⟨u,f,m⟩:=st.rel j y e;let⟨C,s⟩:=m.move P λa w o J=>by
   have U:=I j y u a c e f w;obtain⟨_,⟨_,q⟩ | ⟨_,q⟩ | ⟨_,q⟩⟩:=Ow.at m w <;> rw[J] at q <;> cases q <;> show Q a _ J trivial U
  show#[u,f,m,C,s]
 show#[by simp[st.len],h0,λj y e=>?_,λj k y z v u a Y L A h B D=>?_,st.t0]
 ·rcases SV e with⟨rfl,rfl,E⟩ | ⟨c,e⟩
  ·show#[v',by rw[gK (by rw[<-st.len];show E)],R]
  ·let⟨u,f,_,C,_⟩:=g j y (Ne.symm c) e;show#[u,by rw[hV c];show f,C]
 ·have M:∀(j:Nat)(y:S)(u:V),i≠j->d[j]?=ψ (ψ y)->Z[j]?=ψ (ψ u)->Ow H' y u a->Ow H' x' v' a->False:=λj y u c e N B D=>by
   let⟨u',f,m,C,s⟩:=g j y (Ne.symm c) e;rw[f] at N;cases N;rcases T a D with w |n
   ·show I j y _ a (Ne.symm c) e f (s a B) w
   ·obtain⟨_,⟨_,q⟩ | ⟨_,q⟩ | ⟨_,q⟩⟩:=Ow.at m (s a B) <;> rw[n] at q <;> cases q
  rcases SV Y with⟨rfl,rfl,E⟩ | ⟨c,l⟩
  ·rcases SV L with⟨rfl,rfl,_⟩ | ⟨F,G⟩
   ·rfl
   ·rw[gK (by rw[<-st.len];show E)] at A;cases A;rw[hV F] at h;show(M k z u F G h D B).elim
  ·rw[hV c] at A;rcases SV L with⟨rfl,rfl,E⟩ | ⟨F,G⟩
   ·rw[gK (by rw[<-st.len];show E)] at h;cases h;show(M j y v c l A B D).elim
   ·rw[hV F] at h;let⟨v',f,m,C,s⟩:=g j y (Ne.symm c) l;let⟨u',O,f2,f3,f4⟩:=g k z (Ne.symm F) G;rw[f] at A;cases A;rw[O] at h;cases h;show st.sep j k y z _ _ a l G f O (s a B) (f4 a D)
def c_.put(st:c_ X d Z H)(s:cc H H')(c:mw X.K X.H₀ H' x' v')(e:∀a,Ow H' x' v' a->H a=ξ):c_ X (d.set i (ψ x')) (Z.set i (ψ v')) H':=
 st.chg (W:=λ_=>False) (.of s) (st.same.trans s) (λb o h n _=>s.get b o h n) c (λa o=>.inr (e a o)) λ_ _ _ _ _ _ _ _ z=>z
def c_.updW(st:c_ X d Z H)(e:d[i]?=ψ (ψ x))(es:Z[i]?=ψ (ψ v))(g:∀b o,H b=ψ o->¬Ow H x v b->H' b=ψ o)(D:mw X.K X.H₀ H' x' v')
  (E:∀a,Ow H' x' v' a->Ow H x v a\/H a=ξ):c_ X (d.set i (ψ x')) (Z.set i (ψ v')) H'/\c5 H H':=by
 let⟨N,B,C⟩:=st.rel i x e;rw[B] at es;cases es;have F:∀b o,H b=ψ o->(∀k,o≠.lst k)->(∀c,o≠.dK c)->(∀c,o≠.dT c)->¬Ow H x v b:=λb o h l m s w=>by
  obtain⟨_,⟨_,q⟩ | ⟨_,q⟩ | ⟨_,q⟩⟩:=Ow.at C w <;> rw[h] at q <;> cases q
  ·show l _ rfl
  ·show m _ rfl
  ·show s _ rfl
 have ne:∀b o,H b=ψ o->(∀k,o≠.lst k)->(∀c,o≠.dK c)->(∀c,o≠.dT c)->H' b=ψ o:=λb o h l m s=>g b o h (F b o h l m s);have A:c5 H H':=#[λb O h=>ne b _ h (λ_ z=>by cases z) (λ_ z=>by cases z) (λ_ z=>by cases z),λb o u h=>ne b _ h (λ_ z=>by cases z) (λ_ z=>by cases z) (λ_ z=>by cases z),λb f h=>ne b _ h (λ_ z=>by cases z) (λ_ z=>by cases z) (λ_ z=>by cases z),λb fs h=>ne b _ h (λ_ z=>by cases z) (λ_ z=>by cases z) (λ_ z=>by cases z),
  .of (λb f h=>ne b _ h (λ_ z=>by cases z) (λ_ z=>by cases z) (λ_ z=>by cases z)) λb f h=>ne b _ h (λ_ z=>by cases z) (λ_ z=>by cases z) (λ_ z=>by cases z)]
 show#[st.chg (W:=Ow H x v) A #[λb o h n=>g b o (st.same.get b o h n) λw=>?_,st.same.tbls.trans A.tbls] (λb o h _ w=>g b o h w) D E λj y u a G I J L M=>G (st.sep j i y x u v a I e J B L M),A];rw[(Ow.at C w).1] at h;cases h
def c_.set_d(st:c_ X a Z H)(r:ig X.K H d v):c_ X (a.set i (ψ (.d d))) (Z.set i (ψ v)) H:=st.put (x':=.d d) (cc.refl H) r λ_ o=>o.elim
def mR{α:Type}{xs:ι α}{x:α}(e:xs[i]?=ψ x):xs.set i x=xs:=by
 apply sK ;intro j;by_cases a:i=j
 ·subst a;rw[gK (cE.mp e).1,e]
 ·rw[hV a]
def c_.set_own(st:c_ X d Z H)(c:H p=ξ)(r:a_ X.K H ds vs):
  c_ X (d.set i (ψ (.own ds))) (Z.set i (ψ (.ref p))) (f6 H p (.lst vs)):=by
 have e:cc H (f6 H p (.lst vs)):=.fn λb o h=>by rw[cQ (cX h c)];show h
 show st.put e #[p,vs,rfl,eV,st.same.free c,r.keep (.of e)] λa o=>by cases o;show c
def c_.upd_own(st:c_ X d Z H)(e:d[i]?=ψ (ψ (.own xs)))(es:Z[i]?=ψ (ψ (.ref p)))(c:H p=ψ (.lst us))(h0:X.H₀ p=ξ)
  (r:a_ X.K H ds vs):c_ X (d.set i (ψ (.own ds))) Z (f6 H p (.lst vs))/\c5 H (f6 H p (.lst vs)):=by
 have f:c5 H (f6 H p (.lst vs)):=c5.chg1 c (.inl #[_,rfl]);have:=st.updW (x':=.own ds) (v':=.ref p) e es (H':=f6 H p (.lst vs)) (λb o h w=>by rw[cQ (by rintro rfl;show w rfl)];show h) #[p,vs,rfl,eV,h0,r.keep f] λa o=>.inl o;rw[mR es] at this;show this
section
variable{σ:St}{s:aJ}
def Inv.freezeG(I:Inv X Γ σ H s)(h:H a=ψ x)(i:s.heap.get? a=ψ o)(f:∀ys,HO.tup ys≠x)(j:∀o w,HO.frz o w≠x)(k:∀ps,HO.tbl ps≠x)(l:∀c,HO.own c≠x):Inv X Γ σ (f6 H a (.frz o x)) s:=by
 have ok:=I.hok a _ h;have e:∀b u,H b=ψ u->u≠x->b≠a:=λb u q d z=>by subst z;rw[h] at q;cases q;show d rfl
 have st:∀{b:Addr}{u:HO},gw X.prog X.w H s.heap b u->gw X.prog X.w (f6 H a (.frz o x)) s.heap b u:=λ{b u} q=>
  q.stay (λc v _ w=>w) (λc w=>by rw[cQ (e c _ w (l _))];show w) λc ys w=>by rw[cQ (e c _ w (f _))];show w
 show I.un (t':=s.toks) (h':=s.heap) #[λb o q _ _ _=>q,λb o q _ _ _=>#[o.slots,q],λb o q n _=>?_,λb o q _=>#[o,q],λb ys q=>?_,λb o u q=>?_,λb ps q=>#[(mt []),?_]] λb u q=>?_
 ·rw[cQ (λz=>by subst z;rw[h] at n;cases n)];show n
 ·rw[cQ (e b _ q (f _))];show q
 ·rw[cQ (e b _ q (j _ _))];show q
 ·rw[cQ (e b _ q (k _)),q];simp
 ·by_cases g:b=a
  ·subst g;rw[eV] at q;cases q;show#[i,st ok]
  ·rw[cQ g] at q;show st (I.hok b u q)
def Inv.freeze(I:Inv X Γ σ H s)(h:H a=ψ (.lst xs)):∃o,Inv X Γ σ (f6 H a (.frz o (.lst xs))) s:=by
 let⟨z,b,n,r,e⟩:=I.hok a _ h;show#[_,Inv.freezeG I h e (λ_ z=>by cases z) (λ_ _ z=>by cases z) (λ_ z=>by cases z) (λ_ z=>by cases z)]
def Inv.freezeD(I:Inv X Γ σ H s)(h:H a=ψ (.dK kvs)):∃o,Inv X Γ σ (f6 H a (.frz o (.dK kvs))) s:=by
 let⟨_,_,c,r,b,d,f,e,_⟩:=I.hok a _ h;show#[b,Inv.freezeG I h e (λ_ z=>by cases z) (λ_ _ z=>by cases z) (λ_ z=>by cases z) (λ_ z=>by cases z)]
def Inv.freezeT(I:Inv X Γ σ H s)(h:H a=ψ (.dT kvs)):∃o,Inv X Γ σ (f6 H a (.frz o (.dT kvs))) s:=by
 let⟨_,_,_,_,b,_,_,e,_⟩:=I.hok a _ h;show#[b,Inv.freezeG I h e (λ_ z=>by cases z) (λ_ _ z=>by cases z) (λ_ z=>by cases z) (λ_ z=>by cases z)]
def cc.upd_new(s:cc H H1)(n:H a=ξ)(m:∀d,H1 a≠ψ (.ext d)):cc H (f6 H1 a o):=by
 show#[λb u h f=>by rw[cQ (cX h n)];show s.get b u h f,λb g h=>?_];let⟨e,i,j⟩:=s.tbls b g h;show#[e,by rw[cQ (cX h n)];show i,λx=>(j x).mono λc d q=>?_];rw[cQ (by rintro rfl;show m _ q)];show q
theorem wC:∀(kvs:ι (Int×ι D)){gV:ι (ij×V)}{as:ι Addr}{H:Hp},Inv X Γ σ H s->k_ X.K X.H₀ H kvs gV as ->
  ∃H' vs,Inv X Γ σ H' s/\gV=xF (kvs.map (·.1)) vs/\kvs.length=vs.length/\a_ X.K H' (kvs.map λp=>.lst p.2) vs/\c5 H H'/\∀b o,H b=ψ o->b∉as->H' b=ψ o
 | [],_,_,H,I,t=>by cases t;show#[H,[],I,rfl,rfl,.nil,c5.refl H,λb o h _=>h]
 | (k,z)::kvs,_,_,H,I,t=>by
  cases t with
  | @cons _ b vs _ _ gV as h A r n t=>
   let⟨o,g⟩:=Inv.freeze I h;have d:c5 H (f6 H b (.frz o (.lst vs))):=c5.chg1 h (.inl #[_,rfl]);let⟨H',i,j,l,v,w,f,y⟩:=wC kvs g (t.keep d λa m o e=>by rw[cQ (by rintro rfl;show n m)];show e);subst l;show#[H',.ref b::i,j,rfl,by simp[v],.cons (.lst (.inl #[o,f.frzs _ _ _ eV]) (r.keep (d.trans f))) w,d.trans f,λc u q m=>?_];rw[aP,not_or] at m;show y c u (by rw[cQ m.1];show q) m.2
def S.fz:S->S
 | .own f=>.d (.lst f)
 | .dcl a=>.d (.dct (a.map (·.1)) (a.map λp=>.lst p.2))
 | .box χ e=>.d (.lst (e.map .lst))
 | .box ζ e=>.d (.tup (e.map .lst))
 | .d x=>.d x
 | .exc C y c=>.exc C y c
 | .raw u=>.raw u
 | .mem b x R=>.mem b x R
 | .dt g h=>.d (.dtt g h)
def c_.fz(k:c_ X g σ H)(I:Inv X Γ σ H s)(e:g[i]?=ψ (ψ x)):∃H',Inv X Γ σ H' s/\c_ X (g.set i (ψ x.fz)) σ H'/\c5 H H':=by
 let⟨v,l,O⟩:=k.rel i _ e;cases x with
 |d x=>show#[H,I,by rw[show S.fz (.d x) = .d x from rfl,mR e];show k,c5.refl H]
 |exc C y c=>show#[H,I,by rw[show S.fz (.exc C y c) = .exc C y c from rfl,mR e];show k,c5.refl H]
 |raw u=>show#[H,I,by rw[show S.fz (.raw u) = .raw u from rfl,mR e];show k,c5.refl H]
 |mem b x R=>show#[H,I,by rw[show S.fz (.mem b x R) = .mem b x R from rfl,mR e];show k,c5.refl H]
 |own ds=>
  let⟨p,vs,n,f,Y,Z⟩:=id O;subst n;let⟨o,G⟩:=Inv.freeze I f;have J:c5 H (f6 H p (.frz o (.lst vs))):=c5.chg1 f (.inl #[_,rfl]);let⟨j,A⟩:=k.updW (x':=.d (.lst ds)) (v':=.ref p) e l (H':=f6 H p (.frz o (.lst vs))) (λb o h w=>by rw[cQ (by rintro rfl;show w rfl)];show h) (.lst (.inl #[o,eV]) (Z.keep J)) λa o=>o.elim;rw[mR l] at j;show#[_,G,j,A]
 |dt ks xs=>
  let⟨p,vs,n,f,Y,hl,Z⟩:=id O;subst n;let⟨o,G⟩:=Inv.freezeT I f;have J:c5 H (f6 H p (.frz o (.dT (gT ks vs)))):=c5.chg1 f (.inr (.inr #[_,rfl]));let⟨j,A⟩:=k.updW (x':=.d (.dtt ks xs)) (v':=.ref p) e l (H':=f6 H p (.frz o (.dT (gT ks vs)))) (λb o h w=>by rw[cQ (by rintro rfl;show w rfl)];show h) (.dtt eV hl (Z.keep J)) λa o=>o.elim;rw[mR l] at j;show#[_,G,j,A]
 |dcl K=>
  let⟨p,N,B,n,f,Y,t⟩:=id O;subst n;let⟨E,vs,P,Q,T,L,k1,M⟩:=wC K I t;have np:p∉B:=λm=>by let⟨_,us,q⟩:=t.at m;rw[f] at q;cases q
  have U:=M p _ f np;let⟨o,G⟩:=Inv.freezeD P U;have J:c5 E (f6 E p (.frz o (.dK N))):=c5.chg1 U (.inr (.inl #[_,rfl]));let⟨j,A⟩:=k.updW (x':=.d (.dct (K.map (·.1)) (K.map λp=>.lst p.2))) (v':=.ref p) e l (H':=f6 E p (.frz o (.dK N)))
   (λb o h w=>by
    rw[cQ (by rintro rfl;show w #[_,N,rfl,f,.inl rfl])];show M b o h λm=>w #[p,N,rfl,f,.inr (t.mem.mp m)])
   (.dct (by rw[eV,Q]) (by simp[T]) (L.keep J)) λa o=>o.elim
  rw[mR l] at j;show#[_,G,j,A]
 |box t W=>
  have F:(W.map λx=>((0:Int),x)).map (λp=>D.lst p.2)=W.map D.lst:=by rw[cP];rfl
  cases t with
  |false=>
   let⟨p,N,B,n,f,Y,np,t⟩:=id O;subst n;let⟨E,vs,P,Q,T,L,k1,M⟩:=wC _ I t;rw[F] at L;have ea:B.map V.ref=vs:=(by rw[<-t.refs,Q];show JS (by rw[aG];simpa using T));have U:=M p _ f np;let⟨o,G⟩:=Inv.freeze P U;have J:c5 E (f6 E p (.frz o (.lst (B.map V.ref)))):=c5.chg1 U (.inl #[_,rfl]);let⟨j,A⟩:=k.updW (x':=.d (.lst (W.map .lst))) (v':=.ref p) e l (H':=f6 E p (.frz o (.lst (B.map V.ref))))
    (λb o h w=>by
     rw[cQ (by rintro rfl;show w #[_,_,rfl,f,.inl rfl])];show M b o h λm=>w #[p,_,rfl,f,.inr (eU m)])
    (.lst (vs:=B.map V.ref) (.inl #[o,eV]) (by have z:=L.keep J;rw[<-ea] at z;show z)) λa o=>o.elim
   rw[mR l] at j;show#[_,G,j,A]
  |true=>
   let⟨p,N,B,n,f,t⟩:=id O;subst n;let⟨E,vs,P,Q,T,L,k1,M⟩:=wC _ I t;rw[F] at L;have ea:B.map V.ref=vs:=(by rw[<-t.refs,Q];show JS (by rw[aG];simpa using T));let⟨j,A⟩:=k.updW (x':=.d (.tup (W.map .lst))) (v':=.ref p) e l (H':=E)
    (λb o h w=>M b o h λm=>w #[p,_,rfl,f,eU m])
    (.tup (vs:=B.map V.ref) (k1.tups _ _ f) (by have z:=L;rw[<-ea] at z;show z)) λa o=>o.elim
   rw[mR l] at j;show#[_,P,j,A]
end
structure Sz(n:Nat):Prop where
 ok:n<=sizeLine
abbrev RE:=En->(D->Prop)->Prop
abbrev RT:=En->(Bool->Prop)->Prop
abbrev RA:=En->(ι D->Prop)->Prop
structure mh where
 nx:En->Prop
 rt:D->Prop
 bk:En->Prop:=λ_=>False
 ct:En->Prop:=λ_=>False
abbrev RS:=mh->En->Prop
abbrev RG:=D->En->(En->Prop)->Prop
def Tq(X:Cx)(t:RE):TE:=λZ H Q=>∃a P,c_ X a Z H/\t a P/\∀d v b,P d->cc H b->ig X.K b d v->Q v b
def Tp(X:Cx)(t:RE):TE:=λZ H Q=>∃a P,c_ X a Z H/\t a P/\∀d v b,P d->cc H b->jh X.K b d v->Q v b
def V9(X:Cx)(t:RA):TE:=λZ H Q=>∃b P,c_ X b Z H/\t b P/\∀c p d a,P c->cc H a->a p=ξ->a_ X.K a c d->Q (.ref p) (f6 a p (.lst d))
def liftT(X:Cx)(t:RT):TT:=λZ H Q=>∃a P,c_ X a Z H/\t a P/\∀b c,P b->cc H c->Q b c
def V6(X:Cx)(t:RA):TA:=λZ H Q=>∃b P,c_ X b Z H/\t b P/\∀c d a,P c->cc H a->a_ X.K a c d->Q d a
def B5(X:Cx)(t:RS):TS:=λf Z H=>∃a E,c_ X a Z H/\t E a/\(∀c e b,E.nx c->c5 H b->c_ X c e b->f.nx e b)/\(∀d v b,E.rt d->c5 H b->cc X.H₀ b->ig X.K b d v->f.rt v b) /\
 (∀c e b,E.bk c->c5 H b->c_ X c e b->f.bk e b)/\∀c e b,E.ct c->c5 H b->c_ X c e b->f.ct e b
def V7(X:Cx)(g:RG):TG:=λv Z H Q=>∃d a P,ig X.K H d v/\c_ X a Z H/\g d a P/\∀c e b,P c->c5 H b->c_ X c e b->Q e b
def lF{α β:Type}{A B C:α->β->Prop}{R:Prop}(h:∃d P,A d P/\B d P/\C d P)(k:∀d P,A d P->B d P->C d P->R):R:=let ⟨d,P,a,b,c⟩:=h;k d P a b c
def As{α β g:Type}{A B C E:g->α->β->Prop}{R:Prop}(h:∃d f P,A d f P/\B d f P/\C d f P/\E d f P)(k:∀d f P,A d f P->B d f P->C d f P->E d f P->R):R:=let ⟨d,f,P,a,b,c,e⟩:=h;k d f P a b c e
def pV{α β:Type}{A B C E F G:α->β->Prop}{R:Prop}(h:∃d P,A d P/\B d P/\C d P/\E d P/\F d P/\G d P)(k:∀d P,A d P->B d P->C d P->E d P->F d P->G d P->R):R:=let ⟨d,P,a,b,c,e,f,g⟩:=h;k d P a b c e f g
def DE(X:Cx)(e:Expr)(t:RE):Prop:=PE X e (Tq X t)
def DB(X:Cx)(e:Expr)(t:RE):Prop:=PE X e (Tp X t)
def DO(X:Cx)(e:Expr)(t:RA):Prop:=PE X e (V9 X t)
def DT(X:Cx)(e:Expr)(t:RT):Prop:=PT X e (liftT X t)
def DW(X:Cx)(e:Expr)(t:RT):Prop:=PW X e (liftT X t)
def DA(X:Cx)(es:ι Expr)(t:RA):Prop:=PA X es (V6 X t)
def DS(X:Cx)(st:Stmt)(t:RS):Prop:=PS X st (B5 X t)
def ro(X:Cx)(a:ι Stmt)(t:RS):Prop:=qf X a (B5 X t)
def DG(X:Cx)(a:Expr)(g:RG):Prop:=PG X a (V7 X g)
def PE.mono{t t':TE}(h:PE X e t)(m:∀Z H Q,t' Z H Q->t Z H Q):PE X e t':=λΓ s Z H Q I q=>h Γ s Z H Q I (m Z H Q q)
def PT.mono{t t':TT}(h:PT X e t)(m:∀Z H Q,t' Z H Q->t Z H Q):PT X e t':=λΓ s Z H Q I q=>h Γ s Z H Q I (m Z H Q q)
def PW.mono{t t':TT}(h:PW X e t)(m:∀Z H Q,t' Z H Q->t Z H Q):PW X e t':=λa Γ s Z H Q I q=>h a Γ s Z H Q I (m Z H Q q)
def PA.mono{t t':TA}(h:PA X e t)(m:∀Z H Q,t' Z H Q->t Z H Q):PA X e t':=λa Γ s Z H Q I q=>h a Γ s Z H Q I (m Z H Q q)
def PS.mono{t t':TS}(h:PS X e t)(m:∀D Z H,t' D Z H->t D Z H):PS X e t':=λΓ s Z H D I q=>h Γ s Z H D I (m D Z H q)
def qf.mono{t t':TS}(h:qf X e t)(m:∀D Z H,t' D Z H->t D Z H):qf X e t':=λΓ s Z H D I q=>h Γ s Z H D I (m D Z H q)
def PG.mono{t t':TG}(h:PG X e t)(m:∀v Z H Q,t' v Z H Q->t v Z H Q):PG X e t':=λΓ s Z H v u Q I r q=>h Γ s Z H v u Q I r (m v Z H Q q)
section
variable{X:Cx}{e a b c:Expr}{pos:Pos}
def DE.bor{t:RE}(h:DE X e t):DB X e t:=PE.mono h λZ H Q g=>lF g λf P st q k=>#[f,P,st,q,λd v i p s r=>k d v i p s (.inl r)]
def DO.val{t:RA}(h:DO X e t):DE X e (λg Q=>t g λds=>Q (.lst ds)):=by
 intro Γ s Z H Q I w;let⟨g,P,st,q,k⟩:=w;show h8 (h Γ s Z H (λv l=>∃ds p f d,v = .ref p/\l=f6 d p (.lst f)/\P (.lst ds)/\cc H d/\d p=ξ/\a_ X.K d ds f) I #[g,_,st,q,λds p f d j m i r=>#[ds,p,f,d,rfl,rfl,j,m,i,r]]) λu m y=>?_;let⟨v,l,z,A,ds,p,f,d,rfl,rfl,j,B,i,r⟩:=y;let⟨o,C⟩:=Inv.freeze z (a:=p) (xs:=f) eV;have n:cc d (f6 (f6 d p (.lst f)) p (.frz o (.lst f))):=cc.fn λb u e=>by rw[cQ (cX e i),cQ (cX e i)];show e
 show#[.ref p,_,C,A,k (.lst ds) (.ref p) _ j (B.trans n) (.lst (.inl #[o,eV]) (r.keep (.of n)))]
def bC(i:Nat):RE:=λf Q=>match f[i]? with
 |some (ψ (.d d))=>Q d
 |some (ψ (.mem ζ d _))=>Q d
 |_=>False
def bD(i:Nat):RE:=λf Q=>match f[i]? with
 |some (ψ (.d d))=>Q d
 |some (ψ (.own g))=>Q (.lst g)
 |some (ψ (.mem ζ d _))=>Q d
 |_=>False
def dv(i:Nat)(j:X.N[i]?=ψ x:=by rfl)(l:sx X.env.scope x:=by walk_at "vis")(m:(x == ("__debug__":Str))=χ:=by decide)
  (n:(x == ("__classdict__":Str))=χ:=by decide):DE X (.Name x pos) (bC i):=by
 show PE.mono (pv i j l m n) λZ H Q o=>lF o λf P st q k=>?_;unfold bC at q;split at q
 ·rename_i d e;let⟨v,g,h⟩:=st.rel i _ e;show#[v,g,k d v H q (cc.refl H) h]
 ·rename_i d R e;let⟨v,g,h⟩:=st.rel i _ e;show#[v,g,k d v H q (cc.refl H) (h.1 rfl)]
 ·show q.elim
def c7(i:Nat)(j:X.N[i]?=ψ x:=by rfl)(l:sx X.env.scope x:=by walk_at "vis")(m:(x == ("__debug__":Str))=χ:=by decide)
  (n:(x == ("__classdict__":Str))=χ:=by decide):DB X (.Name x pos) (bD i):=by
 show PE.mono (pv i j l m n) λZ H Q o=>lF o λf P st q k=>?_;unfold bD at q;split at q
 ·rename_i d e;let⟨v,g,h⟩:=st.rel i _ e;show#[v,g,k _ v H q (cc.refl H) (.inl h)]
 ·rename_i s e;let⟨v,g,h⟩:=st.rel i _ e;let⟨a,u,w,y,_,r⟩:=h;show#[v,g,k _ v H q (cc.refl H) (.inr #[s,a,u,rfl,w,y,r])]
 ·rename_i d R e;let⟨v,g,h⟩:=st.rel i _ e;show#[v,g,k _ v H q (cc.refl H) (.inl (h.1 rfl))]
 ·show q.elim
def rC(d:D):RE:=λ_ Q=>Q d
def fM:DE X (.Constant (.int i) j pos) (rC (.int i)):=PE.mono Iw λZ H Q f=>lF f λd P st q k=>k _ _ H q (cc.refl H) (.int i)
def xB:DE X (.Constant (.bool i) j pos) (rC (.bl i)):=PE.mono X2 λZ H Q f=>lF f λd P st q k=>k _ _ H q (cc.refl H) (.bl i)
def F0:DE X (.Constant .none j pos) (rC .non):=PE.mono M9 λZ H Q f=>lF f λd P st q k=>k _ _ H q (cc.refl H) .non
abbrev R22:=D->D->(D->Prop)->Prop
def B4(X:Cx)(r:R22):R2:=λx y H Q=>∃d e P,jh X.K H d x/\jh X.K H e y/\r d e P/\∀z v f,P z->cc H f->ig X.K f z v->Q v f
def n9(X:Cx)(f:aF->aF->Sem aF)(r:R22):Prop:=o_ X f (B4 X r)
def r2(r:R22)(f g:RE):RE:=λd Q=>f d λx=>g d λy=>r x y Q
variable{ta tb tc:RE}
def To(h:Tq X (r2 r ta tb) Z H Q):tOp (B4 X r) (Tp X ta) (Tp X tb) Z H Q:=by
 let⟨d,P,st,i,j⟩:=h;show#[d,_,st,i,λx v A k f l=>#[d,_,st.ext f,k,λy u B m g r2=>#[x,y,P,l.same g,r2,m,λz w n o q s=>j z w n o ((f.trans g).trans q) s]]]
def fU(d:n9 X (binaryOp op) r)(f:DB X a ta)(g:DB X b tb):DE X (.BinOp a op b pos) (r2 r ta tb):=PE.mono (X4 d f g) λZ H Q h=>To h
def Sa(d:n9 X (compareOp op) r)(f:DB X a ta)(g:DB X b tb)(i:behindInMarks op b=χ:=by show Tx _):DE X (.Compare a [op] [b] pos) (r2 r ta tb):=PE.mono (Ys d f g i) λZ H Q h=>To h
def fJ(t:RE):RT:=λf Q=>t f λd=>match d with
 | .bl k=>Q k
 |_=>False
def jD(i:n9 X (compareOp op) r)(j:DB X a ta)(l:DB X b tb)(m:behindInMarks op b=χ:=by show Tx _):DT X (.Compare a [op] [b] pos) (fJ (r2 r ta tb)):=by
 show PT.mono (Zb i j l m) λZ H Q n=>lF n λf P st q k=>?_;show To (Q:=λx g=>∃k,x = .bl k/\Q k g) #[f,_,st,q,λd v g h s r=>?_];cases d with
 |bl b=>show#[b,r.bl_inv,k b g h s]
 |_=>show h.elim
def vK(h:DE X e ta)(i:∀whole,isTrue e X.env whole=(do let v <-whole;standAt e.pos;holding [v] (truthy v)):=by intro _;rfl):DT X e (fJ ta):=by
 show PT.mono (O1 h i) λZ H Q j=>lF j λf P st q k=>?_;show#[f,_,st,q,λd v l g s r=>?_];cases d with
 |bl b=>show#[b,r.bl_inv,k b l g s]
 |_=>show g.elim
def Vb(t u:RT):RT:=λd Q=>t d λc=>if c=ζ then u d Q else Q χ
def rOr(t u:RT):RT:=λd Q=>t d λc=>if c=ζ then Q ζ else u d Q
def zO(t:RT):RT:=λd Q=>t d λc=>Q (!c)
variable{tA tB:RT}{rest:ι Expr}
def Xg(d:DT X a tA):DW X (.BoolOp .And [a] pos) tA:=Zd d
def OA(d:DT X a tA):DW X (.BoolOp .Or [a] pos) tA:=O4 d
def F8(i:DT X a tA)(j:DW X (.BoolOp .And (b::rest) pos) tB):DW X (.BoolOp .And (a::b::rest) pos) (Vb tA tB):=
 PW.mono (O3 i j) λZ H Q l=>lF l λf P st q k=>#[f,_,st,q,λc m g h=>by
  cases c with
  |true=>rw[Ω rfl] at g⊢;show#[f,P,st.ext h,g,λd n o s=>k d n o (h.trans s)]
  |false=>rw[υ bR] at g⊢;show k χ m g h]
def EX(i:DT X a tA)(j:DW X (.BoolOp .Or (b::rest) pos) tB):DW X (.BoolOp .Or (a::b::rest) pos) (rOr tA tB):=
 PW.mono (X7 i j) λZ H Q l=>lF l λf P st q k=>#[f,_,st,q,λc m g h=>by
  cases c with
  |false=>rw[υ bR] at g⊢;show#[f,P,st.ext h,g,λd n o s=>k d n o (h.trans s)]
  |true=>rw[Ω rfl] at g⊢;show k ζ m g h]
def DW.tst(h:DW X e tA):DT X e tA:=PW.pt h
def xC(f:DT X a tA):DT X (.UnaryOp .Not a pos) (zO tA):=PT.mono (O0 f) λZ H Q g=>lF g λd P st q k=>#[d,_,st,q,λc h i j=>k _ h i j]
def Vc(ta tb:RE):RE:=λf Q=>ta f λd=>match d with
 | .bl k=>if k=ζ then tb f Q else Q (.bl χ)
 |_=>False
def db(ta tb:RE):RE:=λf Q=>ta f λd=>match d with
 | .bl k=>if k=ζ then Q (.bl ζ) else tb f Q
 |_=>False
def Ve(ta:RE):RE:=λf Q=>ta f λd=>match d with
 | .bl k=>Q (.bl (!k))
 |_=>False
def F4{op}(h:DE X a ta):DE X (.BoolOp op [a] pos) ta:=N1 h
def E9(i:DE X a ta)(j:DE X (.BoolOp .And (b::rest) pos) tb):DE X (.BoolOp .And (a::b::rest) pos) (Vc ta tb):=
 PE.mono (M7 i j) λZ H Q l=>lF l λf P st q k=>#[f,_,st,q,λd v m g h r=>by
  cases d with
  |bl c=>
   show#[c,r.bl_inv,?_];cases c with
   |true=>show#[f,P,st.ext h,g,λd v n g o=>k d v n g (h.trans o)]
   |false=>show k (.bl χ) (.bl χ) m g h (.bl χ)
  |_=>show g.elim]
def F1(h:DE X a ta):DE X (.UnaryOp .Not a pos) (Ve ta):=
 PE.mono (N0 h) λZ H Q i=>lF i λf P st q k=>#[f,_,st,q,λd v j g l r=>by
  cases d with
  |bl c=>show#[c,r.bl_inv,k (.bl !c) (.bl !c) j g l (.bl _)]
  |_=>show g.elim]
def rIf(t:RT)(ta tb:RE):RE:=λd Q=>t d λc=>if c=ζ then ta d Q else tb d Q
def W1(X:Cx)(r:D->(D->Prop)->Prop):V->Hp->VK->Prop:=λx H Q=>∃d P,jh X.K H d x/\r d P/\∀z v f,P z->cc H f->ig X.K f z v->Q v f
def UnD(X:Cx)(f:aF->Sem aF)(r:D->(D->Prop)->Prop):Prop:=UnR X f (W1 X r)
def r1(r:D->(D->Prop)->Prop)(ta:RE):RE:=λd Q=>ta d λx=>r x Q
def UE(g:UnD X (unaryOp op) r)(h:DB X a ta):DE X (.UnaryOp op a pos) (r1 r ta):=
 PE.mono (X5 g h) λZ H Q i=>lF i λf P st q k=>#[f,_,st,q,λd v u j l m=>#[d,P,m,j,λz v n o s r2=>k z v n o (l.trans s) r2]]
def aV:RA:=λ_ Q=>Q []
def aE(t:RE)(u:RA):RA:=λd Q=>t d λx=>u d λf=>Q (x::f)
variable{t:RA}
def aT:DA X [] aV:=PA.mono OO λZ H Q f=>lF f λd P st q k=>k [] [] H q (cc.refl H) .nil
def aD(i:DE X e ta)(j:DA X es t)(l:starEach (e::es) X.env=(χ,eval e X.env)::starEach es X.env:=by rfl):DA X (e::es) (aE ta t):=
 PA.mono (yJ i j l) λZ H Q m=>lF m λf P st q k=>#[f,_,st,q,λd v y n g r1=>#[f,_,st.ext g,n,λo s u w h r2=>k (d::o) (v::s) u w (g.trans h) (.cons (r1.keep (.of h)) r2)]]
def iJ(t:RA):RE:=λd Q=>t d λf=>Sz f.length/\Q (.tup f)
def fF{x1}(h:DA X es t):DE X (.Tuple es x1 pos) (iJ t):=
 PE.mono (N2 h) λZ H Q l=>lF l λd P st q k=>#[d,_,st,q,λm n g i j r=>#[by rw[<-r.length];show i.1.ok,λp f=>k (.tup m) (.ref p) _ i.2 (cc.upd_new j (j.free f) λ_ z=>by rw[f] at z;cases z) (by
  have o:cc g (f6 g p (.tup n)):=cc.fn λb u e=>by rw[cQ (cX e f)];show e
  show .tup eV (r.keep (.of o)))]]
def nQ(t:RA):RA:=λd Q=>t d λf=>Sz f.length/\Q f
def iS(h:DA X es t):DO X (.List es pos) (nQ t):=
 PE.mono (Uh h) λZ H Q g=>lF g λd P st q k=>#[d,_,st,q,λi j l f m r=>#[by rw[<-r.length];show f.1.ok,λp n=>k i p j l f.2 m n r]]
end
section
variable{X:Cx}{e a b c:Expr}{pos:Pos}{st:Stmt}{rest:ι Stmt}{t u:RS}{te:RE}
def dQ(t u:RS):RS:=λE d=>t {E with nx:=u E} d
def iV:RS:=λE d=>E.nx d
def iO:ro X [] iV:=qf.mono Yz λg Z H f=>pV f λd E st q n r b c=>n d Z H q (c5.refl H) st
def dE(h:DS X st t):ro X [st] t:=Za h
def aW(l:DS X st t)(m:ro X rest u):ro X (st::rest) (dQ t u):=
 qf.mono (Ur l m) λy Z H o=>pV o λf E st q n r b c=>#[f,_,st,q,λw z A h k s=>#[w,E,s,h,λj Z2 g x i=>n j Z2 g x (k.trans i),λd v g x i=>r d v g x (k.trans i),λj Z2 g x i=>b j Z2 g x (k.trans i),λj Z2 g x i=>c j Z2 g x (k.trans i)],r,b,c]
def Dl:DS X st (λ_ _=>False):=PS.mono Uo λf Z H ⟨d,E,st,q,_⟩=>q
def fE(te:RE):RS:=λE d=>te d E.rt
def pU(h:DE X e te):DS X (.Return (ψ e) pos) (fE te):=
 PS.mono (N9 h) λm Z H i=>pV i λf E st q n r b c=>#[f,_,st,q,λd v j k g l=>r d v j k (.of g) (st.same.trans g) l]
def Y2(te:RE):RS:=λE d=>te d λ_=>E.nx d
def mQ(c:RT)(t u:RS):RS:=λE d=>c d λk=>if k=ζ then t E d else u E d
def nU(m:DT X c tA)(o:ro X sa t)(s:ro X sb u):DS X (.If c sa sb pos) (mQ tA t u):=
 PS.mono (X6 m o s) λy Z H w=>pV w λf E st q n r b c=>#[f,_,st,q,λk z l j=>by
  cases k with
  |true=>rw[Ω rfl] at l⊢;show#[f,E,st.ext j,l,λi Z2 g x h=>n i Z2 g x ((c5.of j).trans h),λd v g x h=>r d v g x ((c5.of j).trans h),λi Z2 g x h=>b i Z2 g x ((c5.of j).trans h),λi Z2 g x h=>c i Z2 g x ((c5.of j).trans h)]
  |false=>rw[υ bR] at l⊢;show#[f,E,st.ext j,l,λi Z2 g x h=>n i Z2 g x ((c5.of j).trans h),λd v g x h=>r d v g x ((c5.of j).trans h),λi Z2 g x h=>b i Z2 g x ((c5.of j).trans h),λi Z2 g x h=>c i Z2 g x ((c5.of j).trans h)]]
def cJ(i:Nat):RG:=λd f Q=>Q (f.set i (ψ (.d d)))
def cW(g:X.N.Nodup)(hi:X.N[i]?=ψ x:=by rfl)(h:Loc X.env.scope x:=by walk_at "vis")(j:X.fn x=ζ\/X.env.scope.names.lookup x=ψ .local:=by walk_at "loc"):DG X (.Name x pos) (cJ i):=
 PG.mono (Yt g hi h j) λv Z H Q l=>As l λd f P r st q k=>k _ _ H q (c5.refl H) (st.set_d r)
abbrev vk:=ι D->En->(En->Prop)->Prop
def K7(X:Cx)(g:vk):wz:=λk Z H Q=>∃h d P,a_ X.K H h k/\c_ X d Z H/\g h d P/\∀i j f,P i->c5 H f->c_ X i j f->Q j f
def DGs(X:Cx)(ts:ι Expr)(g:vk):Prop:=u8 X ts (K7 X g)
def u8.mono{X:Cx}{e:ι Expr}{t t':wz}(h:u8 X e t)(m:∀v Z H Q,t' v Z H Q->t v Z H Q):u8 X e t':=λΓ s Z H v u Q I r q=>h Γ s Z H v u Q I r (m v Z H Q q)
def nW:vk:=λf d Q=>match f with
 | []=>Q d
 |_=>False
def fX(g:RG)(u:vk):vk:=λh f Q=>match h with
 | []=>False
 |d::r=>g d f λi=>u r i Q
def nA:DGs X [] nW:=u8.mono Yu λg Z H Q f=>As f λh d P r st q k=>by
 cases r with
 |nil=>show#[rfl,k d Z H q (c5.refl H) st]
 |cons _ _=>show q.elim
def fG{u:vk}(h:DG X e g)(i:DGs X es u)(j:(assignEach (e::es) X.env).map (·.2)=assign e X.env::(assignEach es X.env).map (·.2):=by rfl):DGs X (e::es) (fX g u):=
 u8.mono (Uk h i j) λA Z H Q l=>As l λB d P r st q k=>by
  cases r with
  |nil=>show q.elim
  |cons r m=>
   show#[_,_,rfl,_,d,_,r,st,q,λn C D o f s=>#[_,n,P,m.keep f,s,o,λv Z2 w p y z=>k v Z2 w p (f.trans y) z]]
def nX(n:Nat)(g:vk):RG:=λd f Q=>match d with
 | .tup h=>h.length=n/\g h f Q
 |_=>False
def qM{es:ι Expr}{k:Nat}{g:vk}{n:Nat}(j:X.calm=ζ)(h:DGs X es g)(l:(assignEach es X.env).length=n:=by rfl)(i:(assignEach es X.env).findIdx? (·.1)=ξ:=by rfl):DG X (.Tuple es k pos) (nX n g):=
 PG.mono (N4 j h l i) λv Z H Q m=>As m λd f P r st q o=>by
  cases d with
  |tup s=>
   cases r with
   |tup h r=>show#[_,_,rfl,ju.of h,by rw[<-r.length];show q.1,s,f,P,r,st,q.2,o]
  |_=>show q.elim
def Ps(te:RE)(g:RG):RS:=λE f=>te f λd=>g d f E.nx
def Sr(i:DE X e te)(j:DG X tg g)(k:swapsWithSole [tg] e pos.line X.env=pure χ:=by rfl)(l:swappedStores [tg] e X.env=pure ξ:=by rfl)
  (m:(assignEach [tg] X.env).map (·.2)=[assign tg X.env]:=by rfl):DS X (.Assign [tg] e pos) (Ps te g):=
 PS.mono (N6 i j k l m) λC Z H o=>pV o λf E st q n r b c=>#[f,_,st,q,λd v D s h w=>#[d,f,_,w,st.ext h,s,λy Z2 z x A B=>n y Z2 z x ((c5.of h).trans A) B]]
def fZ(i:Nat)(te:RE):RS:=λE f=>te f λd=>E.nx (f.set i (ψ (.d d)))
def eJ{i:Nat}{x:Str}{g:Pos}(j:X.N.Nodup)(k:DE X e te)(hi:X.N[i]?=ψ x:=by rfl)(l:Loc X.env.scope x:=by walk_at "vis")(m:swapsWith e (ψ (.Name x g)) pos.line X.env=pure χ:=by rfl)
  (o:X.fn x=ζ\/X.env.scope.names.lookup x=ψ .local:=by walk_at "loc"):DS X (.Assign [.Name x g] e pos) (fZ i te):=
 PS.mono (Bm j hi l k m o) λA Z H s=>pV s λf E st q n r b c=>#[f,_,st,q,λd v w y h z=>n _ _ w y (.of h) ((st.ext h).set_d z)]
def lW(i:Nat)(t:RA):RS:=λE d=>t d λf=>E.nx (d.set i (ψ (.own f)))
def mC{i:Nat}{x:Str}{f:Pos}{t:RA}(k:X.N.Nodup)(l:DO X e t)(hi:X.N[i]?=ψ x:=by rfl)(m:Loc X.env.scope x:=by walk_at "vis")(s:swapsWith e (ψ (.Name x f)) pos.line X.env=pure χ:=by rfl)
  (v:X.fn x=ζ\/X.env.scope.names.lookup x=ψ .local:=by walk_at "loc"):DS X (.Assign [.Name x f] e pos) (lW i t):=
 PS.mono (Bm k hi m l s v) λA Z H w=>pV w λd E st q n r b c=>#[d,_,st,q,λB p C D y g j z=>n _ _ _ y ((c5.of g).trans (.of (.fn λb o h=>by rw[cQ (cX h j)];show h))) ((st.ext g).set_own j z)]
def O8(i j:Nat)(t:RA):RS:=λE f=>t f λg=>match g with
 | [x,y]=>E.nx ((f.set i (ψ (.d x))).set j (ψ (.d y)))
 |_=>False
def F6{i j:Nat}{x y:Str}{t:RA}{g h pt:Pos}{kt k2 y4}(l:X.calm=ζ)(m:X.N.Nodup)(o:DA X [a,b] t)(hi:X.N[i]?=ψ x:=by rfl)(s:X.N[j]?=ψ y:=by rfl)(v:i≠j:=by decide)
  (w:X.env.scope.names.lookup x=ψ .local:=by rfl) (z:X.env.scope.names.lookup y=ψ .local:=by rfl)
  (A:swappedStores [.Tuple [.Name x g,.Name y h] kt pt] (.Tuple [a,b] k2 y4) X.env=pure (ψ [x,y]):=by rfl)
  (B:swapsWithSole [.Tuple [.Name x g,.Name y h] kt pt] (.Tuple [a,b] k2 y4) pos.line X.env=pure χ:=by rfl):
  DS X (.Assign [.Tuple [.Name x g,.Name y h] kt pt] (.Tuple [a,b] k2 y4) pos) (O8 i j t):=
 PS.mono (N8 l m hi s v w z o A B) λJ Z H C=>pV C λd E st q n r b c=>#[d,_,st,q,λK L D f k F=>by
  cases F with
  |nil=>show f.elim
  |cons r1 G=>
   cases G with
   |nil=>show f.elim
   |cons r2 I=>
    cases I with
    |nil=>show#[_,_,rfl,n _ _ D f (.of k) (((st.ext k).set_d r1).set_d r2)]
    |cons _ _=>show f.elim]
def oP(i:Nat)(d:En):En:=match d[i]? with
 |some (ψ x)=>d.set i (ψ x.fz)
 |_=>d
def sV(i:Nat)(h:DS X st t):DS X st (λE f=>t E (oP i f)):=by
 intro Γ s Z H m I w;let⟨f,E,o,q,n,r,b,c⟩:=w;have q:t E (oP i f):=q;unfold oP at q;split at q
 ·rename_i x e;let⟨g,y,z,l⟩:=o.fz I e;show h Γ s Z _ m y #[_,E,z,q,λk Z2 g x j=>n k Z2 g x (l.trans j),λd v g x j=>r d v g x (l.trans j),λk Z2 g x j=>b k Z2 g x (l.trans j),λk Z2 g x j=>c k Z2 g x (l.trans j)]
 ·show h Γ s Z H m I #[f,E,o,q,n,r,b,c]
def tF(c:RT)(t:RS):Nat->RS
 | 0,_,_=>False
 |n+1,E,d=>c d λk=>if k=ζ then t {E with nx:=tF c t n E,ct:=tF c t n E,bk:=E.nx} d else E.nx d
def KC(c:RT)(t:RS):RS:=λE d=>∃n,tF c t n E d
def UH(F:PassesOwn (model X.prog X.w) X.A X.env X.xe)(G:DT X c tA)(I:ro X body t):DS X (.While c body [] pos) (KC tA t):=
 PS.mono (Uq F G I) λQ Z H J=>pV J λf E st K n r b c=>by
  let⟨m,q⟩:=K;show#[λm s y=>∃j,c_ X j s y/\c5 H y/\tF tA t m E j,#[m,f,st,c5.refl H,q],?_];rintro m s y ⟨j,z,L,D⟩;cases m with
  |zero=>show D.elim
  |succ m=>
   show#[j,_,z,D,λk M l B=>?_];have o:=L.trans (.of B);cases k with
   |true=>
    dsimp only at l⊢;rw[Ω rfl] at l⊢;show#[λZ2 h=>∃g,c_ X g Z2 h/\c5 H h/\tF tA t m E g,λZ2 h ⟨g,N,O,P⟩=>#[m,AA m,g,N,O,P],?_];show#[j,_,z.ext B,l,λg Z2 h x i C=>#[g,C,o.trans i,x],λd v h x i=>r d v h x (o.trans i),λg Z2 h x i=>n g Z2 h x (o.trans i),λg Z2 h x i C=>#[g,C,o.trans i,x]]
   |false=>
    dsimp only at l⊢;rw[υ bR] at l⊢;show n j s M l o (z.ext B)
def r8(X:Cx)(J:It)(xs:ι D)(g:Hp):Prop:=∀i H,c5 g H ->
 (∀d,xs[i]?=ψ d->J.go i H/\∀x f,J.yld i H x f->cc H f/\ig X.K f d x)/\(xs.length<=i->J.stop i H)
def V8(X:Cx)(t:RA):TI:=λZ H R=>∃d P,c_ X d Z H/\t d P/\∀g J f,P g->cc H f->r8 X J g f->R J f
def DI(X:Cx)(d iter:Expr)(t:RA):Prop:=PI X d iter (V8 X t)
def PI.mono{X:Cx}{d e:Expr}{t t':TI}(h:PI X d e t)(m:∀Z H Q,t' Z H Q->t Z H Q):PI X d e t':=λΓ s Z H Q I q=>h Γ s Z H Q I (m Z H Q q)
def At(g:RG)(t:RS):ι D->RS
 | [],E,d=>E.nx d
 |x::f,E,d=>g x d λh=>t {E with nx:=At g t f E,ct:=At g t f E,bk:=E.nx} h
def jS(f:RA)(g:RG)(t:RS):RS:=λE d=>f d λh=>At g t h E d
def iT(V:PassesOwn (model X.prog X.w) X.A X.env X.xe)(W:X.calm=ζ)(hi:DI X tg iter ti)(Y:DG X tg g)(hb:ro X body t)
  (hs:∀x,foldedSetIterable iter X.env x=pure x:=by intro _;rfl):DS X (.For tg iter body [] pos) (jS ti g t):=
 PS.mono (N7 V W hi Y hb hs) λDe Z H I=>pV I λf E st q n r b c=>by
  show#[f,_,st,q,λh J F hx P ok=>?_];show#[λi m K l=>m=h.length-i/\i<=h.length/\∃o,c_ X o K l/\c5 F l/\At g t (h.drop i) E o,#[h.length,η,dL _,f,st.ext P,c5.refl F,~~~hx],?_];rintro i m K l ⟨rfl,hi,o,Q,L,G⟩;let⟨o1,o2⟩:=ok i l L;have R:c5 H l:=(c5.of P).trans L;by_cases M:i<h.length
  ·have e:h.drop i=h[i]::h.drop (i+1):=jT M;rw[e] at G;let⟨go,yl⟩:=o1 h[i] (aL M);show .inr #[go,λZ2 s=>∃T,c_ X T Z2 s/\c5 F s/\At g t (h.drop (i+1)) E T,λZ2 s I=>#[h.length-(i+1),ν,rfl,M,I],λx s y=>?_];let⟨N,rx⟩:=yl x s y;show#[h[i],o,_,rx,Q.ext N,G,λf3 Z3 H3 h3 U s3=>?_];have z:c5 F H3:=(L.trans (.of N)).trans U;have B:c5 H H3:=(R.trans (.of N)).trans U;show#[f3,_,s3,h3,λC Z4 D j k O=>#[C,O,z.trans k,j],λd v D j k=>r d v D j (B.trans k),λC Z4 D j k=>n C Z4 D j (B.trans k),λC Z4 D j k O=>#[C,O,z.trans k,j]]
  ·have e:i=h.length:=ν;subst e;rw[NI] at G;show .inl #[o2 (aS _),n o K l G R Q]
end
section
variable{X:Cx}{tg e:Expr}{te:RE}{pos p:Pos}
def riL(te:RE):RA:=λa Q=>te a λd=>match d with
 | .lst b=>Q b
 |_=>False
def iF(h:DE X e te):DI X tg e (riL te):=by
 show PI.mono (Yv h) λZ H R n=>lF n λb P st q k=>#[b,_,st,q,λd v o j s r=>?_];cases d with
 |lst u=>
  cases r with
  | @lst a c _ f r=>
   show#[a,rfl,#[c,f.sq],k u _ o j s λi C g=>#[λd e=>?_,λw=>#[c,(f.keep g).sq,by rw[<-r.length];show w]]];let⟨v,l,z⟩:=(r.keep g).get e;show#[#[c,v,(f.keep g).sq,l],λx D y=>?_];let⟨A,B⟩:=y;subst A;have m:=B c (f.keep g).sq;rw[l] at m;cases m;show#[cc.refl _,z]
 |_=>show j.elim
def riT(te:RE):RA:=λa Q=>te a λd=>match d with
 | .tup b=>Q b
 |_=>False
def Sg(h:DE X e te):DI X tg e (riT te):=by
 show PI.mono (N5 h) λZ H R n=>lF n λb P st q k=>#[b,_,st,q,λd v o j s r=>?_];cases d with
 |tup u=>
  cases r with
  | @tup a c _ f r=>
   show#[a,rfl,#[c,ju.of f],k u _ o j s λi C g=>#[λd e=>?_,λw=>#[c,ju.of (g.tups _ _ f),by rw[<-r.length];show w]]];let⟨v,l,z⟩:=(r.keep g).get e;show#[#[c,v,ju.of (g.tups _ _ f),l],λx D y=>?_];let⟨A,B⟩:=y;subst A;have m:=B c (ju.of (g.tups _ _ f));rw[l] at m;cases m;show#[cc.refl _,z]
 |_=>show j.elim
def mI(lo:Int)(n:Nat):ι D:=(bT n).map λk:Nat=>D.int (lo+(k:Int))
def Ig(lo:Int)(n:Nat):r8 X (xw lo n) (mI lo n) H0:=λi H c=>by
 show#[λd e=>?_,λb=>by show n<=i;simpa [mI] using b];unfold mI at e;rw[bJ] at e;by_cases a:i<n
 ·rw[kX a] at e;cases e;show#[a,λx f y=>by let⟨rfl,rfl⟩:=y;show#[cc.refl _,.int _]]
 ·rw[gC (~~~a)] at e;cases e
structure ul(j:Int):Prop where
 lo:-(2 ^ 62)<=j
 hi:j<2 ^ 62
def WJ(t:RA):RA:=λa Q=>t a λb=>match b with
 | [.int j]=>ul j/\Q (mI 0 j.toNat)
 |_=>False
def Jn(t:RA):RA:=λa Q=>t a λb=>match b with
 | [.int i,.int j]=>(ul i/\ul j)/\Q (mI i (j-i).toNat)
 |_=>False
def tZ{a:Expr}{t:RA}(d:X.mg "range" = ξ)(f:DA X [a] t)(g:Gl X "range":=by rfl)(h:starEach [a] X.env=[(χ,eval a X.env)]:=by rfl):DI X tg (.Call (.Name "range" p) [a] [] pos) (WJ t):=by
 show PI.mono (Ox g d f h) λZ H R i=>lF i λb P st q k=>#[b,_,st,q,λn o l c m r=>?_];split at c
 ·rename_i j;rw[a_.ints_inv (ns:=[j]) r];show#[j,rfl,c.1.lo,c.1.hi,k _ _ l c.2 m (Ig 0 _)]
 ·show c.elim
def NZ{a b:Expr}{t:RA}(f:X.mg "range" = ξ)(g:DA X [a,b] t)(h:Gl X "range":=by rfl)(l:starEach [a,b] X.env=[(χ,eval a X.env),(χ,eval b X.env)]:=by rfl)(m:starEach [b] X.env=[(χ,eval b X.env)]:=by rfl):DI X tg (.Call (.Name "range" p) [a,b] [] pos) (Jn t):=by
 show PI.mono (Oy h f g l m) λZ H R n=>lF n λc P st q k=>#[c,_,st,q,λu v o d s r=>?_];split at d
 ·rename_i i j;rw[a_.ints_inv (ns:=[i,j]) r];show#[i,j,rfl,#[d.1.1.lo,d.1.1.hi,d.1.2.lo,d.1.2.hi],k _ _ o d.2 s (Ig i _)]
 ·show d.elim
end
abbrev FD:=ι D->(D->Prop)->Prop
def ub(K:aH)(F:FD):Sp:=λc H Q _=>kn K H/\∃b P,a_ K H b c/\F b P/\∀d v a,P d->cc H a->ig K a d v->Q v a
def cH(F:FD)(t:RA):RE:=λa Q=>t a λb=>F b Q
section
variable{p pos:Pos}{t:RA}
def Wy(G:lm X.prog X.w X.K X.mg X.base on k f fd ps (ub X.K F))(c:h9 k X.A)(g:X.mg x=ψ (.ref f))(h:lQ X.K (.ref f)=ζ)(i:Binds X.K fd ps [])(j:DA X (e::es) t)(l:Gl X x:=by rfl)
  (m:(x == ("__debug__":Str))=χ:=by decide) (n:starEach (e::es) X.env=(χ,eval e X.env)::starEach es X.env:=by rfl) (o:(backTo pos (starEach es X.env)).any (·.1)=χ:=by rfl):
  DE X (.Call (.Name x p) (e::es) [] pos) (cH F t):=
 PE.mono (Yr (E:=E0) G c l g h i .nil X1 j m n o) λZ H Q s=>lF s λa P st q u=>#[a,_,st,q,λy z B C b r=>by
  show ub X.K F (z++[]) B Q E0;rw[bU];show#[(st.ext b).tabs,y,P,r,C,λd v D I J r2=>u d v D I (b.trans J) r2]]
end
def dM(N:ι Str)(a:ι D):En:=a.map (λd=>ψ (.d d))++eY (N.length-a.length) ξ
section
variable{P:bP}{w:cS}{K:aH}{mg:Str->Option aF}{base:Heap}
def Fz(f:kn X.K X.H₀)(r:a_ X.K X.H₀ ds vs):c_ X (dM N ds) (start N vs) X.H₀:=by
 have c:=r.length;have own:∀(i:Nat)(x:S),(dM N ds)[i]?=ψ (ψ x)->∃d,x = .d d:=λi x e=>by
  unfold dM at e;by_cases b:i<ds.length
  ·rw[eX (~~~b),bJ,aL b] at e;cases e;show#[_,rfl]
  ·rw[fD (~~~b),jA] at e;split at e <;> cases e
 show#[by simp[dM,start,c],cc.refl _,λi x e=>?_,λi j x y v u a g _ _ _ o _=>by
  let⟨d,rfl⟩:=own i x g;show o.elim,f]
 unfold dM at e;by_cases b:i<ds.length
 ·rw[eX (~~~b),bJ,aL b] at e;cases e;let⟨v,h,k⟩:=r.get (aL b);show#[v,?_,k];unfold start;rw[eX (by simpa [<-c] using b),bJ,h];rfl
 ·rw[fD (~~~b),jA] at e;split at e <;> cases e
def A7{x a:Str}{st:Stmt}{f:Addr}{i:lM}{N c:ι Str}{k:Nat}{F:FD}{t:RS}(l:uh K x a st f i)(m:jo N c (fW st))
  (n:∀(i_:aF)(A:cV)(outer:ι Env)(s:aJ)(H:Hp)(E:XK),h9 k (A.deeper (envOfC a (fW st) s.z f i_)) ->
   ro (LM on P w K mg base N a (fW st) f i_ A outer s H E).nox (pF st) t)
  (len:∀ds Q,F ds Q->ds.length=c.length) (b:∀ds Q,F ds Q->t {nx:=λ_=>Q .non,rt:=Q} (dM N ds)):lm P w K mg base on (k+1) f i c (ub K F):=by
 show l.ok m (λo H Q E ⟨_,ds,P,r,h,_⟩=>by rw[<-r.length];show len ds P h) λi_ A outer s H o Q E q ⟨u,ds,y,r,h,j⟩=>#[_,n i_ A outer s H E q,?_];show#[dM N ds,_,Fz (X:=(LM on P w K mg base N a (fW st) f i_ A outer s H E).nox) u r,b ds y h,λG I e g k B=>j .non .non e g B.same .non,λd v e g k C D=>j d v e g C D,λ_ _ _ z=>z.elim,λ_ _ _ z=>z.elim]
end
def BL(n:Nat)(i:Int):Prop:=i.natAbs<2 ^ n
def BL.bits(h:BL n i):HC i<=n:=UT.mpr h
def BL.of(h:HC i<=n):BL n i:=UT.mp h
def BL.mono(h:BL m i)(l:m<=n:=by decide):BL n i:=BL.of (dC h.bits l)
def BL.add(a:BL m i)(b:BL n j):BL (max m n+1) (i+j):=BL.of (intBits_add_le a.bits b.bits)
def BL.sub(a:BL m i)(b:BL n j):BL (max m n+1) (i-j):=BL.of (intBits_sub_le a.bits b.bits)
def BL.mul(a:BL m i)(b:BL n j):BL (m+n) (i*j):=BL.of (intBits_mul_le a.bits b.bits)
def BL.neg(a:BL m i):BL m (-i):=BL.of (intBits_neg_le a.bits)
def BL.fdiv(a:BL m i):BL m (i.fdiv j):=BL.of (intBits_fdiv_le a.bits)
def BL.le(a:BL m j)(h:i.natAbs<=j.natAbs):BL m i:=rL h a
def BL.of_lt{m:Nat}{i:Int}(a:-(2 ^ m:Nat)<i)(b:i<(2 ^ m:Nat)):BL m i:=by unfold BL;lia
def BL.intMulOk(a:BL m i)(b:BL n j)(h:m+n<=134217728):IntMulOk i j:=IntMulOk.of_le a.bits b.bits h
def BL.noPy(h:BL 9000 j):oI i j=χ:=by
 show PyProof.noPylong_of_log2 ?_;by_cases a:j.natAbs=0
 ·rw[a];decide +kernel
 ·show(Nat.log2_lt a).mpr h
section
variable{X:Cx}{e a b c:Expr}{pos:Pos}
def jh.int_inv{K:aH}{H:Hp}{i:Int}{v:V}(h:jh K H (.int i) v):v = .int i:=by
 rcases h with h | ⟨f,a,g,d,_⟩
 ·show h.int_inv
 ·cases d
def jh.bl_inv{K:aH}{H:Hp}{i:Bool}{v:V}(h:jh K H (.bl i) v):v = .bl i:=by
 rcases h with h | ⟨f,a,g,d,_⟩
 ·show h.bl_inv
 ·cases d
structure MulOk(i j:Int):Prop where
 ok:IntMulOk i j
structure qq(i j:Int):Prop where
 nz:j≠0
 np:oI i j=χ
structure wt(j:Int):Prop where
 nz:j≠0
structure wv(i j:Int):Prop where
 ok:0<=j/\j<=1000000/\i.natAbs<2 ^ 64
def BL.mulOk(a:BL m i)(b:BL n j)(h:m+n<=134217728:=by decide):MulOk i j:=#[a.intMulOk b h]
def BL.divOk(h:BL 9000 j)(d:j≠0):qq i j:=#[d,h.noPy]
def pT:R22:=λx y Q=>match x,y with
 | .int i,.int j=>Q (.int (i+j))
 |_,_=>False
def qL:R22:=λx y Q=>match x,y with
 | .int i,.int j=>Q (.int (i-j))
 |_,_=>False
def rN:R22:=λx y Q=>match x,y with
 | .int i,.int j=>MulOk i j/\Q (.int (i*j))
 |_,_=>False
def vT:R22:=λx y Q=>match x,y with
 | .int i,.int j=>qq i j/\Q (.int (i.fdiv j))
 |_,_=>False
def zJ:R22:=λx y Q=>match x,y with
 | .int i,.int j=>wt j/\Q (.int (i.fmod j))
 |_,_=>False
def Hv:R22:=λx y Q=>match x,y with
 | .int i,.int j=>wv i j/\Q (.int (i ^ j.toNat))
 |_,_=>False
def Ot{g:Int->Int->Int}(h:o_ X f (rI C λi j=>.int (g i j)))
  (l:∀x y Q,r x y Q->∃i j,x = .int i/\y = .int j/\C i j/\Q (.int (g i j))):n9 X f r:=by
 intro Γ s Z H x y v u Q I m n o;let⟨d,e,P,r1,r2,q,k⟩:=o;let⟨i,j,rfl,rfl,w,q⟩:=l _ _ _ q;show h Γ s Z H x y v u Q I m n #[i,j,r1.int_inv,r2.int_inv,w,k _ _ H q (cc.refl H) (.int _)]
def jO:n9 X (binaryOp .Add) pT:=Ot (C:=λ_ _=>True) (g:=λi j=>i+j) (zt λ_ _ _ _ _ _ _ _ q=>add_int q) λx y Q q=>by
 unfold pT at q;split at q
 ·show#[_,_,rfl,rfl,trivial,q]
 ·show q.elim
def lV:n9 X (binaryOp .Sub) qL:=Ot (C:=λ_ _=>True) (g:=λi j=>i-j) (zt λ_ _ _ _ _ _ _ _ q=>sub_int q) λx y Q q=>by
 unfold qL at q;split at q
 ·show#[_,_,rfl,rfl,trivial,q]
 ·show q.elim
def kD:n9 X (binaryOp .Mult) rN:=Ot (C:=λi j=>IntMulOk i j) (g:=λi j=>i*j) (zt λ_ _ _ _ _ _ _ d q=>mul_int q d) λx y Q q=>by
 unfold rN at q;split at q
 ·show#[_,_,rfl,rfl,q.1.ok,q.2]
 ·show q.elim
def qE:n9 X (binaryOp .FloorDiv) vT:=Ot (C:=λi j=>j≠0/\oI i j=χ) (g:=λi j=>i.fdiv j) (zt λ_ _ _ _ _ _ _ d q=>floordiv_int d.1 q (.inl d.2)) λx y Q q=>by
 unfold vT at q;split at q
 ·show#[_,_,rfl,rfl,#[q.1.nz,q.1.np],q.2]
 ·show q.elim
def oW:n9 X (binaryOp .Mod) zJ:=Ot (C:=λ_ j=>j≠0) (g:=λi j=>i.fmod j) (zt λ_ _ _ _ _ _ _ d q=>mod_int' d q) λx y Q q=>by
 unfold zJ at q;split at q
 ·show#[_,_,rfl,rfl,q.1.nz,q.2]
 ·show q.elim
def Bf:n9 X (binaryOp .Pow) Hv:=Ot (C:=λi j=>0<=j/\j<=1000000/\i.natAbs<2 ^ 64) (g:=λi j=>i ^ j.toNat) (zt λ_ _ _ _ _ _ _ d q=>pow_int_small d.1 d.2.1 d.2.2 q) λx y Q q=>by
 unfold Hv at q;split at q
 ·show#[_,_,rfl,rfl,q.1.ok,q.2]
 ·show q.elim
def LO:D->(D->Prop)->Prop:=λx Q=>match x with
 | .int i=>Q (.int (-i))
 |_=>False
def KE:UnD X (unaryOp .USub) LO:=by
 intro Γ s Z H x v Q I f g;let⟨d,P,r,q,k⟩:=g;unfold LO at q;split at q
 ·rename_i i;show R5 Γ s Z H x v Q I f #[i,r.int_inv,k _ _ H q (cc.refl H) (.int _)]
 ·show q.elim
def tY(p:Int->Int->Bool):R22:=λx y Q=>match x,y with
 | .int i,.int j=>Q (.bl (p i j))
 |_,_=>False
def Yn(h:o_ X f (zw λi j=>.bl (p i j))):n9 X f (tY p):=by
 intro Γ s Z H x y v u Q I g l m;let⟨d,e,P,r1,r2,q,k⟩:=m;unfold tY at q;split at q
 ·rename_i i j;show h Γ s Z H x y v u Q I g l #[i,j,r1.int_inv,r2.int_inv,k _ _ H q (cc.refl H) (.bl _)]
 ·show q.elim
def QA:n9 X (compareOp .Lt) (tY λi j=>decide (i<j)):=Yn X0
def B9:n9 X (compareOp .LtE) (tY λi j=>decide (i<=j)):=Yn W9
def Tz:n9 X (compareOp .Gt) (tY λi j=>decide (j<i)):=Yn W8
def W5:n9 X (compareOp .GtE) (tY λi j=>decide (j<=i)):=Yn W7
def AK(neg:Bool):R22:=λx y Q=>match x,y with
 | .int i,.int j=>Q (.bl (if neg then !decide (i=j) else decide (i=j)))
 | .bl i,.bl j=>Q (.bl (if neg then !decide (i=j) else decide (i=j)))
 |_,_=>False
def Be:n9 X (compareOp .Eq) (AK χ):=by
 intro Γ s Z H x y v u Q I f g h;let⟨d,e,P,r1,r2,q,k⟩:=h;unfold AK at q;split at q
 ·rename_i i j;rw[r1.int_inv] at f;rw[r2.int_inv] at g;show C0 Γ s Z H _ _ v u Q I f g #[rfl,by
   have e:decide (V.int i=V.int j)=decide (i=j):=η;rw[e];show k _ _ H q (cc.refl H) (.bl _)]
 ·rename_i i j;rw[r1.bl_inv] at f;rw[r2.bl_inv] at g;show C0 Γ s Z H _ _ v u Q I f g #[rfl,by
   have e:decide (V.bl i=V.bl j)=decide (i=j):=η;rw[e];show k _ _ H q (cc.refl H) (.bl _)]
 ·show q.elim
def VO:n9 X (compareOp .NotEq) (AK ζ):=by
 intro Γ s Z H x y v u Q I f g h;let⟨d,e,P,r1,r2,q,k⟩:=h;unfold AK at q;split at q
 ·rename_i i j;rw[r1.int_inv] at f;rw[r2.int_inv] at g;show C1 Γ s Z H _ _ v u Q I f g #[rfl,by
   have e:decide (V.int i=V.int j)=decide (i=j):=η;rw[e];show k _ _ H q (cc.refl H) (.bl _)]
 ·rename_i i j;rw[r1.bl_inv] at f;rw[r2.bl_inv] at g;show C1 Γ s Z H _ _ v u Q I f g #[rfl,by
   have e:decide (V.bl i=V.bl j)=decide (i=j):=η;rw[e];show k _ _ H q (cc.refl H) (.bl _)]
 ·show q.elim
def Td:D->Bool
 | .non=>ζ
 |_=>χ
def be(neg:Bool):R22:=λx y Q=>match y with
 | .non=>Q (.bl (if neg then !Td x else Td x))
 |_=>False
def g7:R22:=λx y Q=>match x,y with
 | .lst f,.int i=>match my f i with
  |some d=>Q d
  |none=>False
 | .tup f,.int i=>match my f i with
  |some d=>Q d
  |none=>False
 |_,_=>False
def Cl{K:aH}{H:Hp}{f:ι D}{vs:ι V}{i:Int}{d:D}(r:a_ K H f vs)(h:my f i=ψ d):∃v,my vs i=ψ v/\ig K H d v:=by
 unfold my at h⊢;rw[<-r.length];cases e:s_ f.length i with
 |none=>rw[e] at h;cases h
 |some j=>
  rw[e] at h;show r.get h
def jX(B:DB X a ta)(C:DB X b tb)(D:Ab b:=by intro _ _;rfl):DE X (.Subscript a b pos) (r2 g7 ta tb):=by
 show PE.mono (X3 (Xr.or J8) B C D) λZ H Q h=>?_;let⟨f,P,st,E,w⟩:=h;show#[f,_,st,E,λx v I F k r1=>#[f,_,st.ext k,F,λy u z g l r2=>?_]];have A:=r1.same l;unfold g7 at g;split at g
 ·rename_i G i;split at g
  ·rename_i d e;let⟨p,m,rfl,n,o⟩:=A.lst;let⟨j,q,s⟩:=Cl o e;show .inl #[p,m,i,j,rfl,r2.int_inv,n,q,w d j z g (k.trans l) s]
  ·show g.elim
 ·rename_i G i;split at g
  ·rename_i d e;let⟨p,m,rfl,n,o⟩:=A.tup;let⟨j,q,s⟩:=Cl o e;show .inr #[p,m,i,j,rfl,r2.int_inv,ju.of n,q,w d j z g (k.trans l) s]
  ·show g.elim
 ·show g.elim
abbrev RO:=En->(Option Int->Prop)->Prop
def W0(X:Cx)(t:RO):TO:=λZ H Q=>∃d P,c_ X d Z H/\t d P/\∀o f,P o->cc H f->Q o f
def DP(X:Cx)(e:Option Expr)(t:RO):Prop:=PO X e (W0 X t)
def rE:RO:=λ_ Q=>Q ξ
def CV(t:RE):RO:=λf Q=>t f λd=>match d with
 | .int i=>Q (ψ i)
 |_=>False
def GS:DP X ξ rE:=λΓ s Z H Q I f=>lF f λd P st q k=>Lx Γ s Z H Q I (k ξ H q (cc.refl H))
def GT{t:RE}(h:DE X e t):DP X (ψ e) (CV t):=λΓ s Z H Q I j=>lF j λf P st q k=>Bk h Γ s Z H Q I #[f,_,st,q,λd v l g m r=>by
 cases d with
 |int i=>show#[i,r.int_inv,k (ψ i) l g m]
 |_=>show g.elim]
def cutD(xs:ι D)(lo hi:Option Int):ι D:=(xs.drop (HT.sIx xs.length 0 lo)).take (HT.sIx xs.length xs.length hi-HT.sIx xs.length 0 lo)
def Y5(f:RE)(g h:RO):RA:=λd Q=>f d λx=>g d λl=>h d λu=>match x with
 | .lst i=>Q (cutD i l u)
 |_=>False
def K6(X:Cx)(r:ι D->(D->Prop)->Prop):ι V->Hp->VK->Prop:=λg H Q=>∃f P,a_ X.K H f g/\r f P/\∀z v d,P z->cc H d->ig X.K d z v->Q v d
def Kc(X:Cx)(f:aF)(r:ι D->(D->Prop)->Prop):Prop:=HW X f (K6 X r)
def rCB(r:ι D->(D->Prop)->Prop)(t:RA):RE:=λd Q=>t d λf=>r f Q
variable{x:Str}{p:Pos}{es:ι Expr}{t:RA}{id T:String}{r:ι D->(D->Prop)->Prop}
def uV(f:Kc X (.builtin id) r)(g:X.mg x=ξ)(h:bootBuiltins x=ψ (.builtin id))(i:DA X (e::es) t)(j:Gl X x:=by rfl)(l:x≠"__name__":=by decide)(m:(x == ("__debug__":Str))=χ:=by decide)
  (n:starEach (e::es) X.env=(χ,eval e X.env)::starEach es X.env:=by rfl) (o:(backTo pos (starEach es X.env)).any (·.1)=χ:=by rfl):DE X (.Call (.Name x p) (e::es) [] pos) (rCB r t):=
 PE.mono (VX f j g h i l m n o) λZ H Q s=>lF s λd P st q k=>#[d,_,st,q,λu F G w y A=>#[u,P,A,w,λz v B C E r2=>k z v B C (y.trans E) r2]]
def Hu:ι D->(D->Prop)->Prop:=λd Q=>match d with
 | [.int i]=>Q (.int (if i<0 then -i else i))
 |_=>False
def Ai:Kc X (.builtin "abs") Hu:=by
 intro Γ s Z H h f Q I d g;let⟨j,P,r,q,k⟩:=g;unfold Hu at q;split at q
 ·rename_i i;cases r with
  |cons r1 r2=>
   cases r2;rw[r1.int_inv] at d;show Rj Γ s Z H _ f Q I d #[i,rfl,k _ _ H q (cc.refl H) (.int _)]
 ·show q.elim
def az:ι D->(D->Prop)->Prop:=λd Q=>match d with
 | [.bl b]=>Q (.int (if b then 1 else 0))
 | [.int i]=>Q (.int i)
 |_=>False
def YK:ι D->(D->Prop)->Prop:=λd Q=>match d with
 | [.int i,.int j]=>Q (.int (if j > i then j else i))
 |_=>False
def YL:ι D->(D->Prop)->Prop:=λd Q=>match d with
 | [.int i,.int j]=>Q (.int (if j<i then j else i))
 |_=>False
def Ko(f:X.calm=ζ:=by rfl):Kc X (.builtin "max") YK:=by
 intro Γ s Z H l g Q I d h;let⟨m,P,r,q,k⟩:=h;unfold YK at q;split at q
 ·rename_i i j
  ·rw[a_.ints_inv (ns:=[i,j]) r] at d;show Nh f Γ s Z H _ g Q I d #[i,j,rfl,k _ _ H q (cc.refl H) (.int _)]
 ·show q.elim
def Kp(f:X.calm=ζ:=by rfl):Kc X (.builtin "min") YL:=by
 intro Γ s Z H l g Q I d h;let⟨m,P,r,q,k⟩:=h;unfold YL at q;split at q
 ·rename_i i j
  ·rw[a_.ints_inv (ns:=[i,j]) r] at d;show Ni f Γ s Z H _ g Q I d #[i,j,rfl,k _ _ H q (cc.refl H) (.int _)]
 ·show q.elim
def qC:D->(D->Prop)->Prop:=λd Q=>match d with
 | .lst f=>Q (.int f.length)
 | .tup f=>Q (.int f.length)
 |_=>False
def pX{t:TE}(h:PE X e t)(d:starEach [e] X.env=[(χ,eval e X.env)]:=by rfl)(f:starEach [] X.env=[]:=by rfl):PA X [e] (λZ H Q=>t Z H λv H'=>Q [v] H'):=
 PA.mono (yJ h OO (by rw[d,f])) λZ H Q q=>q
def nN{n:RE}(w:X.mg "len" = ξ)(h:DB X e n)(y:Gl X "len":=by rfl)(o:starEach [e] X.env=[(χ,eval e X.env)]:=by rfl)(i:starEach [] X.env=[]:=by rfl):DE X (.Call (.Name "len" p) [e] [] pos) (r1 qC n):=by
 show PE.mono (VX Ae y w PySem.boot_len (pX h o i) μ μ (by rw[o,i]) (by rw[i];rfl)) λZ H Q z=>lF z λf P st q k=>#[f,_,st,q,λd v s g u r=>?_];unfold qC at g;split at g
 ·let⟨p,j,rfl,l,m⟩:=r.lst;show#[p,j,rfl,.inl l,by rw[<-m.length];show k _ _ s g u (.int _)]
 ·let⟨p,j,rfl,l,m⟩:=r.tup;show#[p,j,rfl,.inr (ju.of l),by rw[<-m.length];show k _ _ s g u (.int _)]
 ·show g.elim
end
section
variable{X:Cx}{Γ:ι (Addr×Obj)}{σ:St}{H:Hp}{s:aJ}{h':Heap}
def _root_.L2.Inv.turnedL{t':Nat}{ch:ι Addr}(I:Inv X Γ σ H s)(k:∀b o,b∉ch->s.heap.get? b=ψ o->h'.get? b=ψ o)(f:∀b∈ch,IZ X Γ H b):Inv X Γ σ H {s with heap:=h',toks:=t'}:=by
 have g:∀b u,H b=ψ u->b∉ch:=λb u e z=>by rw[(f b z).1] at e;cases e
 show I.step (g':=s.gens) (d':=s.drawn) (ch:=ch) (λb d=>#[(f b d).2.2.2.1,(f b d).2.1,(f b d).2.2.2.2.1,(f b d).2.2.2.2.2]) (λb o _ _ a e _=>k b o a e) (λb o _ _ a e _=>#[o.slots,k b o a e]) (λ_ _ _ _ n=>n)
  (λb o a e=>#[o,k b o a e]) (λ_ _ e=>e) (λ_ _ _ e=>e) (λb w e=>#[(mt []),by rw[e];simp]) (λm h=>?_) (λb u e=>?_) I.bare
 ·let⟨o,i,j,l,r⟩:=h;show#[o,i,j,k _ o (λz=>(f _ z).2.1 rfl) l,r]
 ·show(I.hok b u e).stay (λc v a q=>k c v ?_ q) (λ_ q=>q) λ_ _ q=>q;rcases a with z |z
  ·rw[z];show g b u e
  ·show g c _ z
def _root_.L2.Inv.turnedT{t':Nat}{ch:ι Addr}{T:Addr}{xs:ι V}{its:ι aF}(I:Inv X Γ σ H s)(k:∀b o,b∉ch->s.heap.get? b=ψ o->h'.get? b=ψ o)(f:∀b∈ch,IZ X Γ H b)
  (h:s.z<=T) (j:h'.IsTuple T its.toArray) (l:c6 xs its) (hz:xs.length<=sizeLine):Inv X Γ σ (f6 H T (.tup xs)) {s with heap:=h',toks:=t'}:=by
 have i:∀b u,H b=ψ u->b∉ch:=λb u e z=>by rw[(f b z).1] at e;cases e
 have g:H T=ξ:=I.hok.fresh h;have ne:∀{b:Addr}{o:Obj},s.heap.get? b=ψ o->b≠T:=λe=>bO (bF (aZ e) h);show I.step (g':=s.gens) (d':=s.drawn) (ch:=ch) (λb a=>#[(f b a).2.2.2.1,(f b a).2.1,(f b a).2.2.2.2.1,(f b a).2.2.2.2.2]) (λb o _ _ d e _=>k b o d e) (λb o _ _ d e _=>#[o.slots,k b o d e]) (λb o _ e n=>by rw[cQ (ne e)];show n)
  (λb o d e=>#[o,k b o d e]) (λb w e=>by rw[cQ (cX e g)];show e) (λb o u e=>by rw[cQ (cX e g)];show e) (λb D e=>#[(mt []),by rw[cQ (cX e g),e];simp]) (λm y=>?_) (λb u e=>?_) I.bare
 ·let⟨o,A,B,C,r⟩:=y;show#[o,A,B,k _ o (λz=>(f _ z).2.1 rfl) C,r]
 ·by_cases a:b=T
  ·subst a;rw[eV] at e;cases e;show#[hz,its,l,j]
  ·rw[cQ a] at e;show(I.hok b u e).stay (λc v d q=>k c v ?_ q) (λc q=>by rw[cQ (cX q g)];show q) λc w q=>by rw[cQ (cX q g)];show q
   rcases d with z |z
   ·rw[z];show i b u e
   ·show i c _ z
end
def ao(K:aH)(l:Addr):It:=
 #[λi H=>∃a x,j9 K H l a/\a[i]?=ψ x,λi H x b=>∃p y,H p=ξ/\x = .ref p/\b=f6 H p (.tup [.int (i:Int),y])/\∀a,j9 K H l a->a[i]?=ψ y,λi H=>∃a,j9 K H l a/\a.length<=i]
def Qh{P:bP}{w:cS}{K:aH}{f:ι Expr}{k:Nat}{pos:Pos}(l e c:Addr)(D:e≠c)(F:l≠e)(G:l≠c):
  oh P w K (.Tuple f k pos) (ao K l) [e,c] e (λi h=>(∃old,IsEnum h e c i old)/\h.IsListIter c l i) where
 mem:=η
 obj:=λi h st b a=>by
  obtain⟨⟨old,d⟩,o,m,n,hd⟩:=st;rcases aP.mp a with rfl |a
  ·show#[_,d,λv z=>by cases z]
  ·rw[bE.mp a];show#[o,m,λv z=>by rw[hd] at z;cases z]
 keep:=λi h h' st j=>by
  obtain⟨⟨old,d⟩,g⟩:=st;show#[#[old,j e η _ d],g.at λo x=>j c η o x]
 item:=by
  intro X J L M n i Γ s Z H E I B st N;subst J L M;let⟨xs,x,C,O⟩:=N;let⟨its,Q,p,hz⟩:=I.list C;let⟨u,Y,ru⟩:=Q.get O;have W:=WalksT.enumerate (prog:=X.prog) (w:=X.w) (A:=X.A) (I.ok.hd n) e c l D F G its.toArray;have jj:i<its.toArray.size:=by
   have:=(cE.mp Y).1;simpa using this
  show W.item i s _ _ jj #[st.1,st.2,p.isList] λT vals h1 tk hv R ht hm j=>?_;let⟨t,y,hy,rfl⟩:=hv;have ey:y=u:=by
   have:its.toArray[i]?=ψ u:=(~~~Y);rw[hy] at this;show dG this
  subst ey;show#[_,rfl,?_];have I1:Inv X Γ Z (f6 H T (.tup [.int (i:Int),x])) {s with heap:=h1,toks:=tk}:=
   I.turnedT (its:=[.int i t,y]) (ch:=[e,c]) j B R (~~~ht) (.cons #[t,rfl] (.cons ru .nil)) (by show 2<=sizeLine;decide)
  have hn:H T=ξ:=I.hok.fresh R;show W.go f k pos i T _ _ _ hm λh2 pj U=>?_;have T_:∀b∈[e,c],IZ X Γ (f6 H T (.tup [.int (i:Int),x])) b:=λb a=>by
   let⟨f0,f1⟩:=B b a;obtain⟨o,m,_⟩:∃o,s.heap.get? b=ψ o/\True:=by
    rcases aP.mp a with rfl |a
    ·let⟨old,d⟩:=st.1;show#[_,d,trivial]
    ·rw[bE.mp a];let⟨o,m,_⟩:=st.2;show#[o,m,trivial]
   show#[by rw[cQ (bO (bF (aZ m) R))];show f0,f1]
  show#[.ref T,_,I1.turnedL (ch:=[e,c]) (t':=tk) U T_,rfl,#[T,x,hn,rfl,rfl,λys V=>by rw[I.list_inj V C];show O],#[pj.1,pj.2.1],λb a=>(T_ b a).1]
 done:=by
  intro X J L M n i Γ s Z H E I B st N;subst J L M;let⟨xs,C,O⟩:=N;let⟨its,Q,p,hz⟩:=I.list C;obtain⟨⟨old,d⟩,g⟩:=st;have hl:=Q.length;show wpAny_pyNext_enum_end (I.ok.hd n) d g p.isList (by rw[tN];show gC ν) λh1 j=>#[rfl,I.turnedL (ch:=[e,c]) (t':=s.toks) (λb o a q=>j b o (λz=>a (by simp[z])) q) B]
 self:=λ_ _ _ _ _ st h=>by
  obtain⟨⟨old,d⟩,_⟩:=st;show MW d h
def YO(a:ι D):ι D:=a.zipIdx.map λp=>D.tup [.int (p.2:Int),p.1]
section
variable{X:Cx}{e:Expr}{te:RE}{pos p:Pos}{elts:ι Expr}{k:Nat}{tp:Pos}
def Zg(te:RE):RA:=λa Q=>te a λd=>match d with
 | .lst b=>Q (YO b)
 |_=>False
def Wz(hm:X.mg "enumerate" = ξ)(h:DE X e te)(hg:Gl X "enumerate":=by rfl)(N:starEach [e] X.env=[(χ,eval e X.env)]:=by rfl)(A:starEach [] X.env=[]:=by rfl):
  DI X (.Tuple elts k tp) (.Call (.Name "enumerate" p) [e] [] pos) (Zg te):=by
 intro Γ s Z H R I d_;let⟨c,P,st,q,kk⟩:=d_;show Call_ (lU I hg hm PyProof.Rows.boot_enumerate (cN (h8 (pX h N A pos Γ s Z H (λC g=>∃a j F,C=[V.ref a]/\cc H g/\P (YO j)/\r6 X.K g a F/\a_ X.K g j F) I #[c,_,st,q,λd v g O f r=>?_]) λF f ⟨C,g,l,r1,q1⟩=>?_) (by rw[N,A]) (by rw[A];rfl)))
 ·cases d with
  |lst j=>
   cases r with
   | @lst a C _ m D=>show#[a,j,C,rfl,f,O,m,D]
  |_=>show O.elim
 let⟨a,j,G,rfl,k9,hp,m,D⟩:=q1;let⟨u,rfl,ru⟩:=vals1 r1;cases ru;let⟨its,rv,Q,hzz⟩:=l.list m.sq;show call_enumerate_list Q.isList λh' T J hsz L=>?_;have I2:Inv X Γ Z g {f with heap:=h'}:=l.kept (t':=f.toks) L;have B:a<f.z:=by let⟨o,n,e,_⟩:=Q;show aZ e
 show MW T #[f.z+1,[f.z+1,f.z],_,_,g,rfl,I2,Qh a (f.z+1) f.z (NR _) (bO (pE B)) (bO B),#[#[.none,T],J],λb M=>?_,?_]
 ·rcases aP.mp M with rfl |M
  ·show(l.fpOk (pQ _) (l.hok.fresh (pQ _)))
  ·rw[bE.mp M];show(l.fpOk (aS _) (l.hok.fresh (aS _)))
 ·show kk (YO j) _ g hp k9 λi U E=>#[λd w=>?_,λhl=>#[G,(m.keep E).sq,by rw[<-D.length];simpa [YO] using hl]];unfold YO at w;rw[bJ,List.getElem?_zipIdx] at w;cases e0:j[i]? with
  |none=>rw[e0] at w;cases w
  |some d0=>
   rw[e0] at w;cases w;let⟨v,W,h2⟩:=(D.keep E).get e0;show#[#[G,v,(m.keep E).sq,W],λx H' y=>?_];let⟨pp,y,A,rfl,rfl,hy⟩:=y;have Y:=hy G (m.keep E).sq;rw[W] at Y;cases Y;have sm:cc U (f6 U pp (.tup [.int (i:Int),v])):=cc.fn λb o e=>(by rw[cQ (cX e A)];show e);show#[sm,.tup eV (.cons (~~~ig.int (i:Int)) (.cons (h2.keep (.of sm)) .nil))]
end
def UV(T:String):D->Option Bool
 | .non=>ψ (T == "NoneType")
 | .bl _=>ψ (T == "bool" ||T == "int")
 | .int _=>ψ (T == "int")
 | .str _=>ψ (T == "str")
 | .tup _=>ψ (T == "tuple")
 | .lst _=>ψ (T == "list")
 | .dct _ _=>ξ
 | .dtt _ _=>ξ
def DN(T:String):D->(D->Prop)->Prop:=λd Q=>match UV T d with
 |some b=>Q (.bl b)
 |none=>False
structure qt(K:aH)(T:String):Prop where
 non:lR K (.type "NoneType") (.type T)=ψ (T == "NoneType")
 bl:lR K (.type "bool") (.type T)=ψ (T == "bool" ||T == "int")
 int:lR K (.type "int") (.type T)=ψ (T == "int")
 str:lR K (.type "str") (.type T)=ψ (T == "str")
 tup:lR K (.type "tuple") (.type T)=ψ (T == "tuple")
 lst:lR K (.type "list") (.type T)=ψ (T == "list")
section
variable{pos p p2:Pos}{T:String}
def EV(f:qt X.K T)(D:X.mg "isinstance" = ξ)(E:X.mg x=ξ)(j:bootBuiltins x=ψ (.type T))(h:DE X e te)(F:Gl X "isinstance":=by rfl)(l:Gl X x:=by rfl)(G:x≠"__name__":=by decide)(m:(x == ("__debug__":Str))=χ:=by decide)
  (A:starEach [e,.Name x p2] X.env=(χ,eval e X.env)::starEach [.Name x p2] X.env:=by rfl) (J:starEach [.Name x p2] X.env=(χ,eval (.Name x p2) X.env)::starEach [] X.env:=by rfl) (L:(backTo pos (starEach [.Name x p2] X.env)).any (·.1)=χ:=by rfl):
  DE X (.Call (.Name "isinstance" p) [e,.Name x p2] [] pos) (r1 (DN T) te):=by
 have w:HW X (.builtin "isinstance") (λB H Q=>∃d v P,B=[v,.ty T]/\ig X.K H d v/\DN T d P/\∀b,P (.bl b)->Q (.bl b) H):=by
  intro Γ s Z H B us Q I r M;let⟨d,v,P,N,O,q,k⟩:=M;subst N;let⟨u,w',rfl,r1,r2⟩:=vals2 r;cases r2;unfold DN at q;split at q
  ·rename_i b i;have g:∀{t:aF},m7 X.K H v t->lR X.K t (.type T)=ψ b->Θ X (call (.builtin "isinstance") [u,.type T]) (EP X Γ Z Q) X.xe s:=λC e=>Oa I r1 C e λy=>#[.bl b,H,I.tok y,rfl,k b q];cases O with
   |non=>cases i;show g .non f.non
   |bl _=>cases i;show g (.bl _) f.bl
   |int _=>cases i;show g (.int _) f.int
   |str _=>cases i;show g (.str _) f.str
   |tup h _=>cases i;show g (.tup h) f.tup
   | @lst a vs _ h _=>
    cases i;rcases h with⟨o,h⟩ | ⟨o,R,n,U,w,_⟩
    ·show g (.frz h) f.lst
    ·cases (show u=eG a from r1);show gN yD I.kIn #[o,I.kIn a o U,w] f.lst (λz=>nomatch z) λy=>#[.bl _,H,I.tok y,rfl,k _ q]
   |dct _ _ _=>cases i
   |dtt _ _ _=>cases i
  ·show q.elim
 show PE.mono (VX w F D PyProof.Rows.boot_isinstance (yJ h (yJ (Yq (v:=.ty T) l E j rfl G m) OO J) A) μ μ A L) λZ H Q V=>lF V λc P st q k=>?_;show#[c,_,st,q,λd v W m Y r=>#[d,v,P,rfl,r,m,λb j=>k _ _ W j Y (.bl b)]]
end
def GQ:bootBuiltins "abs" = ψ (.builtin "abs"):=θ
def YF:bootBuiltins "max" = ψ (.builtin "max"):=θ
def YG:bootBuiltins "min" = ψ (.builtin "min"):=θ
def Ng:bootBuiltins "int" = ψ (.type "int"):=θ
def Hq:bootBuiltins "bool" = ψ (.type "bool"):=θ
def ER:bootBuiltins "tuple" = ψ (.type "tuple"):=θ
def JM:bootBuiltins "list" = ψ (.type "list"):=θ
def Zt(K:aH):qt K "int":=#[by rfl,by rfl,by rfl,by rfl,by rfl,by rfl]
def Wf(K:aH):qt K "bool":=#[by rfl,by rfl,by rfl,by rfl,by rfl,by rfl]
def WO(K:aH):qt K "list":=#[by rfl,by rfl,by rfl,by rfl,by rfl,by rfl]
def OW(K:aH):qt K "tuple":=#[by rfl,by rfl,by rfl,by rfl,by rfl,by rfl]
def T7{P:ι aF->Prop}(h:P [])(a:ι aF)(b:a.length=0):P a:=by
 rw[nR b];show h
def bind1{P:ι aF->Prop}(h:∀a,P [a])(b:ι aF)(c:b.length=1):P b:=by
 cases b with
 |nil=>cases c
 |cons a b=>show T7 (P:=λb=>P (a::b)) (h a) b (sQ c)
def bind2{P:ι aF->Prop}(h:∀a b,P [a,b])(c:ι aF)(d:c.length=2):P c:=by
 cases c with
 |nil=>cases d
 |cons a c=>show bind1 (P:=λc=>P (a::c)) (h a) c (sQ d)
def bind3{P:ι aF->Prop}(h:∀a b c,P [a,b,c])(d:ι aF)(e:d.length=3):P d:=by
 cases d with
 |nil=>cases e
 |cons a d=>show bind2 (P:=λd=>P (a::d)) (h a) d (sQ e)
def bind4{P:ι aF->Prop}(h:∀a b c d,P [a,b,c,d])(e:ι aF)(f:e.length=4):P e:=by
 cases e with
 |nil=>cases f
 |cons a e=>show bind3 (P:=λe=>P (a::e)) (h a) e (sQ f)
structure FnAt(P:bP)(w:cS)(K:aH)(mg:Str->Option aF)(base:Heap)(x:Str)(ps:List Str)(k:Nat)(F:FD):Prop where
 ex:∃f fd,lm P w K mg base on k f fd ps (ub K F)/\Binds K fd ps []/\lQ K (.ref f)=ζ/\mg x=ψ (.ref f)
structure jn(K:aH)(mg:Str->Option aF)(x:Str)(st:Stmt)(ps:List Str):Prop where
 ex:∃f fd,uh K x x st f fd/\mg x=ψ (.ref f)/\∀us:ι aF,us.length=ps.length->bindArgs fd #[us,[]]=pure (ps.zip us)
nonrec def dnm:Stmt->Str
 | .FunctionDef n ..=>n
 |_=>""
nonrec def dps:Stmt->ι Str
 | .FunctionDef _ a ..=>a.args.map (·.arg)
 |_=>[]
abbrev jZ(K:aH)(mg:Str->Option aF)(st:Stmt):Prop:=jn K mg (dnm st) st (dps st)
section
variable{P:bP}{w:cS}{K:aH}{mg:Str->Option aF}{base:Heap}
def jn.ok{x:Str}{st:Stmt}{N e:ι Str}{k:Nat}{F:FD}{t:RS}(Z:jn K mg x st e)(g:jo N e (fW st))
  (h:∀{f:Addr}(i_:aF)(A:cV)(outer:ι Env)(s:aJ)(H:Hp)(E:XK),h9 k (A.deeper (envOfC x (fW st) s.z f i_)) ->
   ro (LM on P w K mg base N x (fW st) f i_ A outer s H E).nox (pF st) t)
  (len:∀ds Q,F ds Q->ds.length=e.length) (d:∀ds Q,F ds Q->t {nx:=λ_=>Q .non,rt:=Q} (dM N ds)):FnAt P w K mg base x e (k+1) F:=by
 let⟨f,i,a,b,c⟩:=Z.ex;show#[f,i,A7 a g (λi_ A outer s H E j=>h i_ A outer s H E j) len d,.all c,a.kp,b]
end
section
variable{p pos:Pos}{t:RA}
def Rz(C:FnAt X.prog X.w X.K X.mg X.base x ps k F)(a:h9 k X.A)(b:DA X (e::es) t)(c:Gl X x:=by rfl)
  (d:(x == ("__debug__":Str))=χ:=by decide) (g:starEach (e::es) X.env=(χ,eval e X.env)::starEach es X.env:=by rfl) (h:(backTo pos (starEach es X.env)).any (·.1)=χ:=by rfl):
  DE X (.Call (.Name x p) (e::es) [] pos) (cH F t):=by
 let⟨f,m,G,i,j,l⟩:=C.ex;show Wy G a l j i b c d g h
end
def Nc(n:Nat):FD:=λb Q=>∃a:ι Int,b=[.lst (a.map .int)]/\a.length<=n/\Q (.bl ζ)
def ma(f:D->D->Option Bool):ι D->ι D->Option Bool
 | [],[]=>ψ ζ
 | [],_::_=>ψ χ
 |_::_,[]=>ψ χ
 |x::c,y::d=>match f x y,ma f c d with
  |some a,ψ b=>ψ (a && b)
  |_,_=>ξ
def jc:Nat->D->D->Option Bool
 | 0,_,_=>ξ
 |n+1,d,e=>match d,e with
  | .int a,.int b=>ψ (decide (a=b))
  | .bl a,.bl b=>ψ (decide (a=b))
  | .non,.non=>ψ ζ
  | .non,.tup _=>ψ χ
  | .tup _,.non=>ψ χ
  | .tup c,.tup f=>ma (jc n) c f
  | .lst c,.lst f=>ma (jc n) c f
  |_,_=>ξ
theorem LX:∀{xs ys:ι D}{b:Bool},ma f xs ys=ψ b->∀(j:Nat)(x y:D),xs[j]?=ψ x->ys[j]?=ψ y->∃c,f x y=ψ c
 | [],_,_,_,j,x,y,e,_=>by simp at e
 |_::_,[],_,_,j,x,y,_,e=>by simp at e
 |a::xs,c::ys,b,h,j,x,y,d,g=>by
  unfold ma at h;split at h
  ·rename_i p q i k;cases j with
   |zero=>simp at d g;subst d g;show#[p,i]
   |succ j=>show LX k j x y (~~~d) (~~~g)
  ·cases h
theorem GW:∀{xs ys:ι D}{b:Bool},ma f xs ys=ψ b ->
  ((bT (min xs.length ys.length)).all (λj=>match xs[j]?,ys[j]? with |some x,ψ y=>(f x y).getD χ |_,_=>χ) && xs.length == ys.length)=b
 | [],[],b,h=>by cases h;rfl
 | [],_::_,b,h=>by cases h;rfl
 |_::_,[],b,h=>by cases h;rfl
 |x::xs,y::ys,b,h=>by
  unfold ma at h;split at h
  ·rename_i p q a c;cases h;have d:=GW c;rw[<-d];erw[aQ,Nat.succ_min_succ,BN,List.all_cons,aA,a,nG,List.all_map];rw[Bool.and_assoc];congr 1;congr 1;rw[qT];simp
  ·cases h
section
variable{X:Cx}{σ:St}{H:Hp}{s:aJ}
def UK{f:D->D->Option Bool}(g:∀{d e:D}{v:V}{b:Bool},f d e=ψ b->ig X.K H d v->ig X.K H e v->b=ζ):∀{xs ys:ι D}{vs:ι V}{b:Bool},ma f xs ys=ψ b->a_ X.K H xs vs->a_ X.K H ys vs->b=ζ:=by
 intro xs
 induction xs with
 |nil=>intro ys vs b h a c;cases a;cases c;cases h;rfl
 |cons x xs i=>
  intro ys vs b h a c;cases a with
  |cons r t=>
   cases c with
   |cons j k=>
    unfold ma at h;split at h
    ·rename_i p q l m;cases h;rw[g l r j,i m t k];rfl
    ·cases h
theorem LW(I:Inv X Γ σ H s):∀(n:Nat){d e:D}{v:V}{b:Bool},jc n d e=ψ b->ig X.K H d v->ig X.K H e v->b=ζ
 | 0,_,_,_,_,h,_,_=>by cases h
 |n+1,d,e,v,b,h,r1,r2=>by
  unfold jc at h;split at h
  ·rw[r1.int_inv] at r2;cases r2;cases h;simp
  ·rw[r1.bl_inv] at r2;cases r2;cases h;simp
  ·cases h;rfl
  ·cases r1;cases r2
  ·cases r2;cases r1
  ·rename_i j k;cases r1 with
   | @tup a l _ g i=>
    cases r2 with
    | @tup _ m _ c f=>
     rw[g] at c;cases c;show UK (λ{d e v b}=>LW I n) h i f
  ·rename_i j k;cases r1 with
   | @lst a l _ g i=>
    cases r2 with
    | @lst _ m _ c f=>
     rw[I.list_inj c.sq g.sq] at f;show UK (λ{d e v b}=>LW I n) h i f
  ·cases h
def UL(I:Inv X Γ σ H s){a c:Addr}(h:ma (jc n) xs ys=ψ b)(q:j9 X.K H a vs)(l:a_ X.K H xs vs)(w:j9 X.K H c ws)(i:a_ X.K H ys ws)(z:A.units<cLine)
  (T:∀{d e:D}{v u:V}{x y:aF}{b:Bool},jc n d e=ψ b->ig X.K H d v->ig X.K H e u->RelV v x->RelV u y->BT A.in1 s x y b):wY A s (.ref a) (.ref c) b/\BT A s (.ref a) (.ref c) b:=by
 let⟨f,B,C,_⟩:=I.list q;let⟨E,F,G,_⟩:=I.list w;have U:xs.length=f.length:=l.length.trans B.length;have l2:ys.length=E.length:=i.length.trans F.length;have J:wY A s (.ref a) (.ref c) b:=by
  by_cases L:xs.length=ys.length
  ·have:=SeqAt.RcAt.lists (A:=A) (s:=s) (e:=λj=>match xs[j]?,ys[j]? with |some x,ψ y=>(jc n x y).getD χ |_,_=>χ) C.isList G.isList ε z (λj M N=>?_)
   ·have g:=GW h;erw[aY,<-U] at this;rw[<-L,vZ,beq_self_eq_true,oR] at g;rw[g] at this;show this
   ·erw[aY] at M N;have m:xs[j]?=ψ (xs[j]'ν):=aL _;have o:ys[j]?=ψ (ys[j]'ν):=aL _;let⟨k,O⟩:=LX h j _ _ m o;rw[m,o];erw[O,nG];let⟨v1,W,Y⟩:=l.get m;let⟨v2,Z,f4⟩:=i.get o;let⟨u1,P,g4⟩:=B.get W;let⟨u2,Q,g6⟩:=F.get Z;have a1:f.toArray[j]=u1:=by
     have:=aL M;rw[this] at P;simpa using dG P
    have a2:E.toArray[j]=u2:=by
     have:=aL N;rw[this] at Q;simpa using dG Q
    rw[a1,a2];show T O Y f4 g4 g6
  ·have g:=GW h;have:(xs.length == ys.length)=χ:=(~~~L);rw[this,wP] at g;rw[<-g];show SeqAt.RcAt.lists_lengths C.isList G.isList ε z
 show#[J,?_];by_cases R:a=c
 ·subst R;rw[I.list_inj w q] at i;rw[UK (λ{d e v b}=>LW I n) h l i];show CM _
 ·show JK R J
theorem xD(I:Inv X Γ σ H s):∀(n:Nat){d e:D}{v u:V}{x y:aF}{b:Bool}{A:cV},jc n d e=ψ b->ig X.K H d v->ig X.K H e u->RelV v x->RelV u y->A.units+n<cLine ->
  wY A s x y b/\BT A s x y b
 | 0,_,_,_,_,_,_,_,_,h,_,_,_,_,_=>by cases h
 |n+1,d,e,v,u,x,y,b,A,h,r1,r2,f,g,hu=>by
  have same:=λ(F:v=u)=>LW I (n+1) h r1 (F▸r2);unfold jc at h;split at h
  ·rename_i i j;rw[r1.int_inv] at f;rw[r2.int_inv] at g;let⟨t,rfl⟩:=f;let⟨t',rfl⟩:=g;cases h;have e:decide (i=j)=(i == j):=(by rw[oU]);rw[e];show#[SeqAt.RcAt.int_int _ _ _ _,SeqAt.EqAt.int_int _ _ _ _]
  ·rename_i i j;rw[r1.bl_inv] at f;rw[r2.bl_inv] at g;cases f;cases g;cases h;have e:decide (i=j)=(i == j):=(by rw[oU]);rw[e];show#[SeqAt.RcAt.bool_bool _ _,SeqAt.EqAt.bool_bool _ _]
  ·cases r1;cases r2;cases f;cases g;cases h;show#[SeqAt.RcAt.none_none,CM _]
  ·cases r1;cases r2 with
   |tup m q=>
    cases f;cases g;cases h;let⟨l,B,o,_⟩:=I.tuple (ju.of m);show#[SeqAt.RcAt.none_tuple o ν,SeqAt.EqAt.none_tuple o ν]
  ·cases r2;cases r1 with
   |tup m q=>
    cases f;cases g;cases h;let⟨l,B,o,_⟩:=I.tuple (ju.of m);show#[SeqAt.RcAt.tuple_none o ν,SeqAt.EqAt.tuple_none o ν]
  ·rename_i w z;cases r1 with
   | @tup a vs _ G C=>
    cases r2 with
    | @tup c ws _ m q=>
     cases f;cases g;let⟨l,B,o,_⟩:=I.tuple (ju.of G);let⟨Q,R,ve,_⟩:=I.tuple (ju.of m);have l1:w.length=l.length:=C.length.trans B.length;have l2:z.length=Q.length:=q.length.trans R.length;have T:wY A s (.ref a) (.ref c) b:=by
      have:=SeqAt.RcAt.tuples (A:=A) (s:=s) (e:=λj=>match w[j]?,z[j]? with |some x,ψ y=>(jc n x y).getD χ |_,_=>χ) o ve ν (λj U W=>?_)
      ·erw[aY,<-l1,<-l2] at this;rw[GW h] at this;show this
      ·erw[aY] at U W;have J:w[j]?=ψ (w[j]'ν):=aL _;have L:z[j]?=ψ (z[j]'ν):=aL _;let⟨k,E⟩:=LX h j _ _ J L;rw[J,L];erw[E,nG];let⟨v1,f1,M⟩:=C.get J;let⟨v2,f3,N⟩:=q.get L;let⟨u1,Y,O⟩:=B.get f1;let⟨u2,Z,P⟩:=R.get f3;have a1:l.toArray[j]=u1:=by
        have:=aL U;rw[this] at Y;simpa using dG Y
       have a2:Q.toArray[j]=u2:=by
        have:=aL W;rw[this] at Z;simpa using dG Z
       rw[a1,a2];show(xD I n E M N O P (by show A.units+1+n<cLine;lia)).2
     show#[T,?_];by_cases O':a=c
     ·subst O';rw[same rfl];show CM _
     ·show JK O' T
  ·rename_i w z;cases r1 with
   | @lst a vs _ G C=>
    cases r2 with
    | @lst c ws _ m q=>
     cases f;cases g;show UL I h G.sq C m.sq q ν λ{d e v u x y b} E M N O P=>(xD I n E M N O P (by show A.units+1+n<cLine;lia)).2
  ·cases h
end
def Is:R22:=λx y Q=>match jc 6 x y with
 |some b=>Q (.bl b)
 |none=>False
def G0{Z:St}{s:aJ}(I:Inv X Γ Z H s)(h:jc 6 d e=ψ b)(r1:jh X.K H d v)(r2:jh X.K H e u)(i:RelV v x)(j:RelV u y)(o:A.units+6<cLine):wY A s x y b:=by
 by_cases f:∃k l,d = .lst k/\e = .lst l
 ·let⟨k,l,rfl,rfl⟩:=f;let⟨a,m,rfl,q,w⟩:=r1.lst;let⟨c,N,rfl,z,B⟩:=r2.lst;cases i;cases j;show(UL I (n:=5) h q w z B ν λ{d e v u x y b} C D E F G=>(xD I 5 C D E F G (by show A.units+1+5<cLine;lia)).2).1
 ·have J:ig X.K H d v:=by
   rcases r1 with r | ⟨L,a,m,g,_⟩
   ·show r
   ·subst g;cases e <;> first | (cases h;done) |show Ψ ⟨_,_,rfl,rfl⟩ f
  have M:ig X.K H e u:=by
   rcases r2 with r | ⟨L,a,m,g,_⟩
   ·show r
   ·subst g;cases d <;> first | (cases h;done) |show Ψ ⟨_,_,rfl,rfl⟩ f
  show(xD I 6 h J M i j o).1
def B8(a:h9 k X.A):n9 X (compareOp .Eq) Is:=by
 intro Γ s Z H x y v u Q I c f g;let⟨d,e,P,r1,r2,q,h⟩:=g;unfold Is at q;split at q
 ·rename_i b i;have j:=a.units;show G0 I (A:=X.A) i r1 r2 c f ν _ _ _ _ #[.bl b,H,I,rfl,h _ _ H q (cc.refl H) (.bl b)]
 ·show q.elim
theorem ET(env:Env):∀(names:ι (Str×NameKind))(acc:ι (Str×Addr)),(∀y∈names,y.2 = .free->∃c,env.cells.lookup y.1=ψ c) ->
  ∃cl:ι (Str×Addr),(do
   let mut cs:=acc
   for (name,kind) in names do
    if kind == .free then cs:=(name,<-cellOf env name)::cs
   return cs:Sem (ι (Str×Addr)))=pure cl/\(∀p∈cl,p∈acc\/env.cells.lookup p.1=ψ p.2)/\(∀p∈acc,p∈cl)/\∀y∈names,y.2 = .free->∃c,(y.1,c)∈cl
 | [],acc,_=>#[acc,η,λp h=>.inl h,λp h=>h,λy h=>by simp at h]
 | (n,k)::r,acc,h=>by
  by_cases f:k = .free
  ·subst f;let⟨c,l⟩:=h _ cT rfl;let⟨cl,e,g,b,i⟩:=ET env r ((n,c)::acc) λy a=>h y (bH _ a);show#[cl,?_,λp j=>?_,λp j=>b p (bH _ j),λy a d=>?_]
   ·rw[<-e];have m:cellOf env n=pure c:=(by unfold cellOf;rw[l]);erw[QT,m,beq_self_eq_true,if_true,pure_bind]
   ·rcases g p j with q |q
    ·rcases aP.mp q with rfl |q
     ·show .inr l
     ·show .inl q
    ·show .inr q
   ·rcases aP.mp a with rfl |a
    ·show#[c,b _ cT]
    ·show i y a d
  ·let⟨cl,e,g,b,i⟩:=ET env r acc λy a=>h y (bH _ a);show#[cl,?_,g,b,λy a d=>?_]
   ·rw[<-e];have o:(k == gP)=χ:=(~~~f);erw[QT,o,aR,if_false,pure_bind]
   ·rcases aP.mp a with rfl |a
    ·show Ψ d f
    ·show i y a d
theorem IF{α:Type}:∀{l:ι (Str×α)}{x:Str}{c:α},(x,c)∈l->∃c',l.lookup x=ψ c'
 | [],_,_,h=>by simp at h
 | (y,d)::r,x,c,h=>by
  rw[kA];cases e:x == y with
  |true=>show#[d,rfl]
  |false=>
   rcases aP.mp h with q |q
   ·cases q;rw[beq_self_eq_true] at e;cases e
   ·show IF q
def JO(h:∀y∈scope.names,y.2 = .free->∃c,env.cells.lookup y.1=ψ c):
  ∃cl,closureFor scope env=pure cl/\(∀x c,cl.lookup x=ψ c->env.cells.lookup x=ψ c)/\∀y∈scope.names,y.2 = .free->∃c,cl.lookup y.1=ψ c:=by
 let⟨cl,e,a,_,b⟩:=ET env scope.names [] h;show#[cl,e,λx c d=>?_,λy f g=>?_]
 ·rcases a _ (jR d) with q |q
  ·simp at q
  ·show q
 ·let⟨c,i⟩:=b y f g;show IF i
def pS(X:Cx)(scope:Scope)(N:ι Str)(a:ι (Str×Addr))(C:Addr)(s:aJ)(H:Hp)(b:ι Addr):Cx where
 prog:=X.prog
 w:=X.w
 K:=X.K
 mg:=X.mg
 base:=X.base
 A:=X.A
 N:=N
 s₀:=s
 H₀:=H
 env:=compEnvC scope a C X.env
 outer:=X.stack
 stack:=X.stack
 ex:=b
 fn:=λ_=>χ
 calm:=X.calm
 pn:=[]
 xe:=λ_ _=>False
structure pq(X:Cx)(scope:Scope):Prop where
 kind:scope.kind = .function
 nocell:∀y∈scope.names,y.2≠.cell
 locs:∀y∈scope.names,y.2 = .local->scope.names.lookup y.1=ψ .local
 frees:∀y∈scope.names,y.2 = .free->X.env.kindOf y.1=ψ .cell\/X.env.kindOf y.1=ψ .free
theorem sW{env:Env}:∀{names:ι (Str×NameKind)}{x:Str}{k:NameKind},(names.map λ(n,k)=>if(k == gP && env.scope.kind == .function && env.kindOf n == ψ .cell) then(n,uJ) else(n,k)).lookup x=ψ k ->
  (k = .cell\/k = .free)->(∀y∈names,y.2≠.cell)->(x,.free)∈names
 | [],_,_,h,_,_=>by simp at h
 | (n,j)::r,x,k,h,b,c=>by
  have h:List.lookup x ((if(j == gP && env.scope.kind == .function && env.kindOf n == ψ .cell)=ζ then(n,uJ) else(n,j))::r.map λ(n,k)=>if(k == gP && env.scope.kind == .function && env.kindOf n == ψ .cell) then(n,uJ) else(n,k))=ψ k:=h;have d:∀y∈r,y.2≠.cell:=λy f=>c y (bH _ f);cases hx:x == n with
  |true=>
   have e:x=n:=eq_of_beq hx;subst e;by_cases a:(j == gP && env.scope.kind == .function && env.kindOf x == ψ .cell)=ζ
   ·have g:j = .free:=by
     rw[jY,jY] at a;show eq_of_beq a.1.1
    subst g;show cT
   ·rw[υ a,kA,beq_self_eq_true] at h;cases h;rcases b with rfl |rfl
    ·show Ψ rfl (c _ cT)
    ·show cT
  |false=>
   by_cases a:(j == gP && env.scope.kind == .function && env.kindOf n == ψ .cell)=ζ
   ·rw[Ω a,kA,hx] at h;show bH _ (sW h b d)
   ·rw[υ a,kA,hx] at h;show bH _ (sW h b d)
section
variable{X:Cx}{Γ:ι (Addr×Obj)}{σ:St}{H:Hp}{s:aJ}{scope:Scope}{N:ι Str}{cl:ι (Str×Addr)}{C:Addr}{fp:ι Addr}
def Ws(I:Inv X Γ σ H s)(f:pq X scope)(g:∀x c,cl.lookup x=ψ c->X.env.cells.lookup x=ψ c)(B:∀y∈scope.names,y.2 = .free->∃c,cl.lookup y.1=ψ c)
  (v:s.z<=C) (h:∀b∈fp,IZ X Γ H b) (D:∀b∈fp,b<s.z):(pS X scope N cl C s H fp).Ok:=by
 show#[I.ok.mod,f.kind,I.ok.glob,I.ok.blt,v,λx y c i j=>I.ok.inj x y c (g x c i) (g y c j),λx a=>?_,λx c a=>Ψ (show χ=ζ from a) bR,I.ok.hd,I.ok.frames,.inl rfl,λb d=>?_,I.bs,dC I.ok.bsz I.sz,λb o e d=>?_,λb d E=>?_,I.stack,I.stkFree]
 ·have a:(scope.names.map λ(n,k)=>if(k == gP && X.env.scope.kind == .function && X.env.kindOf n == ψ .cell) then(n,uJ) else(n,k)).lookup x=ψ .cell\/(scope.names.map λ(n,k)=>if(k == gP && X.env.scope.kind == .function && X.env.kindOf n == ψ .cell) then(n,uJ) else(n,k)).lookup x=ψ .free:=a;have:(x,gP)∈scope.names:=by
   rcases a with a |a
   ·show sW a (.inl rfl) f.nocell
   ·show sW a (.inr rfl) f.nocell
  show B _ this rfl
 ·let⟨w,l,m,q,u,A⟩:=h b d;show#[bO (bF (D b d) v),λx c e=>u x c (g x c e)]
 ·let⟨w,l,m,q,u,A⟩:=h b d;rcases q with z |z
  ·show I.ok.noex b o e z
  ·have i:=(aZ e);have j:=I.ok.bsz;show Ψ (bF i (dC j z)) (iC _)
 ·let⟨w,l,m,q,u,A⟩:=h b d;rcases aP.mp (I.stkSub b E) with e |e
  ·show l e
  ·show m e
def Ah(σ:St)(k:Nat)(a:ι Nat):St:=eY k ξ++a.map λi=>(σ[i]?).join
def Rn(I:Inv X Γ σ H s)(w:pq X scope)(l:∀x c,cl.lookup x=ψ c->X.env.cells.lookup x=ψ c)(O:∀y∈scope.names,y.2 = .free->∃c,cl.lookup y.1=ψ c)
  {h:aJ} {m:Str->Option aF} {k:Nat} {n:ι Nat} {g:ι Str} (P:s.z<=C) (U:∀b∈fp,IZ X Γ H b) (V:∀b∈fp,b<s.z)
  (d:∀b o,s.heap.get? b=ψ o->h.heap.get? b=ψ o) (W:h.os=s.os) (Y:AllBare h.gens) (A:h.heap.Ns C m)
  (Z:N.length=k+g.length) (uu:N.drop k=g) (B:n.length=g.length) (D:∀(j:Nat)(y:Str)(i:Nat),g[j]?=ψ y->n[j]?=ψ i->X.N[i]?=ψ y/\(y,gP)∈scope.names)
  (f:∀y∈g,(relabel scope X.env).names.lookup y=ψ .cell\/(relabel scope X.env).names.lookup y=ψ .free):
  Inv (pS X scope N cl C s H fp) [] (Ah σ k n) H h:=by
 have E:H C=ξ:=I.hok.fresh P;show#[Ws I w l O P U V,W,Y,Un.kept d,#[m,A,λi x v e1 a e3=>?_],λx c e=>?_,E,λx c e=>I.freeC x c (l x c e),λp hp=>Ψ (show p∈([]:ι (Addr×Obj)) from hp) η,I.hok.kept d,?_]
 ·unfold Ah at a;by_cases F:i<k
  ·rw[eX (~~~F),jA,Ω F] at a;cases a
  ·rw[fD (~~~F),lZ,bJ] at a;cases eo:n[i-k]? with
   |none=>rw[eo] at a;cases a
   |some o=>
    rw[eo] at a;have a:ψ ((σ[o]?).join)=ψ (ψ v):=a;have zg:σ[o]?=ψ (ψ v):=by
     cases q:σ[o]? with
     |none=>rw[q] at a;cases a
     |some z=>rw[q] at a;cases a;rfl
    have Q:g[i-k]?=ψ x:=by
     rw[<-uu,JF];rw[show k+(i-k)=i by lia];show e1
    let⟨h1,G⟩:=D _ _ _ Q eo;have hv:sx X.env.scope x:=by
     rcases w.frees _ G rfl with q |q
     ·show .inr (.inl q)
     ·show .inr (.inr q)
    let⟨m0,hn0,J⟩:=I.loc;let⟨u,ru,lu⟩:=J o x v h1 zg hv;show#[u,ru,.inr #[f x (bA Q),?_]];let⟨c,R⟩:=O _ G rfl;show#[c,R,?_];rcases lu with⟨q,_⟩ | ⟨_,c',T,ke⟩
    ·rcases w.frees _ G rfl with z |z
     ·rw[z] at q;cases q
     ·rw[z] at q;cases q
    ·have:=l x c R;rw[this] at T;cases T;let⟨K,L,M⟩:=ke;show#[K,d _ _ L,M]
 ·let⟨v,K,L,M⟩:=I.cell x c (l x c e);show#[v,K,d _ _ L,M]
 ·unfold Ah;show _=N.length;rw[aU,lZ,aG,B,Z]
end
abbrev A9(a:ι Expr)(env:Env):Sem Bool:=forIn a ζ λc r=>if r=ζ then do let ok <-isTrue c env (eval c env);pure (kR ok) else pure (kR r)
def Nj{s:aJ}{pos:Pos}(I:Nat->aJ->Prop)
  (b:∀n s,I n s->∀E:aF->aJ->Prop,Δ prog w A (pyNext it) (λr s₁=>match r with
   |none=>R (.ok .next) s₁
   |some v=>Δ prog w A (letOwnedTupleGo target it v) (λ_ s₁=>Δ prog w A (assign target env v) (λ_ s₂=>Δ prog w A (A9 ifs env) (λok s₂=>if ok=ζ then Δ prog w A (eval elt env) (λx s₃=>
     Δ prog w A (call (.builtin "list.append") [acc,x]) (λ_ s₄=>∃m,m<n/\I m s₄) E s₃) E s₂ else ∃m,m<n/\I m s₂) E s₂) E s₁) E s₁) E s)
  (n:Nat) (h:I n s):codeAny (model prog w) A (.compLoop (.ListComp elt [#[target,iter,ifs,0]] scope pos) 0 it acc env) R s:=by
 show codeAny_loop rfl I (λn s f=>?_) n h;show wpAny _ _ ((compTurn (.ListComp elt [#[target,iter,ifs,0]] scope pos) 0 it acc env).onRaise (λx=>do noteFrame x env;theTreesLotGoes x)) _ _ s;show wpAny_noted ?_;rw[compTurn_list];show aC (IU (aC (gM (b n s f _) (λr s₁ d=>?_) λ_ _ a=>a)));cases r with
 |none=>show aO d
 |some v=>
  show aC (gM d (λ_ g c=>aC (gM c (λ_ s₂ i=>aC (gM i (λok s₃ e=>?_) λ_ _ a=>a)) λ_ _ a=>a)) λ_ _ a=>a);cases ok with
  |false=>show aO #[rfl,e]
  |true=>show aC (aC (gM e (λx s₄ j=>aC (gM j (λ_ l k=>aO (aO #[rfl,k])) λ_ _ a=>a)) λ_ _ a=>a))
def Qp(X:Cx)(a:ι Expr)(t:RT):Prop:=∀(Γ:ι (Addr×Obj))(s:aJ)(Z:St)(H:Hp)(Q:Bool->Hp->Prop),Inv X Γ Z H s->liftT X t Z H Q->Θ X (A9 a X.env) (TP X Γ Z Q) X.xe s
def Vf:RT:=λ_ Q=>Q ζ
def Dh:Qp X [] Vf:=λΓ s Z H Q I ⟨a,P,st,q,k⟩=>wpAny_tests_nil #[H,I,k ζ H q (cc.refl H)]
def Si{c:Expr}{t:RT}(h:DT X c t):Qp X [c] t:=λΓ s Z H Q I q=>wpAny_tests_one (h Γ s Z H Q I q)
def Kh(X:Cx)(J:It)(xs:ι D)(b:Hp):Prop:=∀i H,cc b H->(∀d,xs[i]?=ψ d->J.go i H/\∀x a,J.yld i H x a->cc H a/\ig X.K a d x)/\(xs.length<=i->J.stop i H)
def K8(X:Cx)(t:RA):TI:=λZ H R=>∃a P,c_ X a Z H/\t a P/\∀c J b,P c->cc H b->Kh X J c b->R J b
def DIS(X:Cx)(a iter:Expr)(t:RA):Prop:=PI X a iter (K8 X t)
def r8.s(h:r8 X J xs H):Kh X J xs H:=λi a s=>h i a (.of s)
def DI.s{t:RA}(h:DI X tg e t):DIS X tg e t:=PI.mono h λ_ _ _ ⟨a,P,st,q,k⟩=>#[a,P,st,q,λb J H p s ok=>k b J H p s ok.s]
def yF(g:RG)(c:RE):ι D->En->ι D->(ι D->Prop)->Prop
 | [],_,b,Q=>Q b
 |x::f,a,b,Q=>g x a λe=>c e λd=>yF g c f e (b++[d]) Q
def mH(g:RG)(f:RT)(h:RE):ι D->En->ι D->(ι D->Prop)->Prop
 | [],_,c,Q=>Q c
 |x::i,a,c,Q=>g x a λe=>f e λb=>if b=ζ then h e λd=>mH g f h i e (c++[d]) Q else mH g f h i e c Q
theorem YI:∀{xs:ι D}{a:En}{acc:ι D}{Q:ι D->Prop},mH g Vf te xs a acc Q=yF g te xs a acc Q
 | [],_,_,_=>rfl
 |x::xs,a,acc,Q=>by
  show(g x a λb=>if ζ=ζ then te b λd=>mH g Vf te xs b (acc++[d]) Q else mH g Vf te xs b acc Q)=g x a λb=>te b λd=>yF g te xs b (acc++[d]) Q;congr 1;funext b;rw[Ω rfl];congr 1;funext d;show YI
def Ag(a:En)(i:Nat):Option S:=match a[i]? with
 |some (ψ (.d d))=>ψ (.d d)
 |_=>ξ
def xX(a:En)(k:Nat)(b:ι Nat):En:=eY k ξ++b.map (Ag a)
def E5(f:c_ X b Z H)(g:X'.K=X.K)(h:X'.H₀=H):c_ X' (xX b k ix) (Ah Z k ix) H:=by
 have own:∀(i:Nat)(x:S),(xX b k ix)[i]?=ψ (ψ x)->∃d,x = .d d:=λi x e=>by
  unfold xX at e;by_cases c:i<k
  ·rw[eX (~~~c),jA,Ω c] at e;cases e
  ·rw[fD (~~~c),bJ] at e;cases eo:ix[i-(eY k (ξ:Option S)).length]? with
   |none=>rw[eo] at e;cases e
   |some o=>
    rw[eo] at e;have e:ψ (Ag b o)=ψ (ψ x):=e;have e:=dG e;unfold Ag at e;split at e <;> cases e;show#[_,rfl]
 show#[by simp[xX,Ah],by rw[h];show cc.refl H,λi x e=>?_,λi j x y v u a l _ _ _ o _=>by
  let⟨d,rfl⟩:=own i x l;show o.elim,by rw[g,h];show f.tabs]
 unfold xX at e;by_cases c:i<k
 ·rw[eX (~~~c),jA,Ω c] at e;cases e
 ·rw[fD (~~~c),bJ,lZ] at e;cases eo:ix[i-k]? with
  |none=>rw[eo] at e;cases e
  |some o=>
   rw[eo] at e;have e:ψ (Ag b o)=ψ (ψ x):=e;have e:=dG e;unfold Ag at e;split at e
   ·rename_i d m;cases e;let⟨v,n,q⟩:=f.rel o _ m;show#[v,?_,by rw[g];show q];unfold Ah;rw[fD (~~~c),bJ,lZ,eo,CK,n];rfl
   ·cases e
section
variable{σ:St}
def _root_.L2.Inv.track{s i:aJ}{a:Addr}(I:Inv X Γ σ H s)(d:Inv X Γ σ H' i)(g:s.z<=a)(f:H' a=ξ)
  (e:i.heap.get? a=ψ {cls:=.type "list",data:=.seq its.toArray n}) (A:c6 vs its) (hz:vs.length<=sizeLine):Inv X Γ σ (f6 H' a (.lst vs)) i:=by
 have B:X.env.locals≠a:=bO (bF I.lt g);have C:∀x c,X.env.cells.lookup x=ψ c->c≠a:=λx c q z=>by
  let⟨v,D⟩:=I.cell x c q;show Ψ (bF D.lt (by rw[z];show g)) (iC _)
 have j:∀{b:Addr}{o:Obj},X.s₀.heap.get? b=ψ o->b≠a:=λ{b o} q=>bO (bF (aZ q) (dC I.sz g));show#[d.ok,d.os,d.bare,#[d.base.keep,d.base.slot,λb o q n E=>?_,d.base.there,λb k q=>?_,λb o u q=>?_,λb F q=>?_],d.loc,d.cell,?_,λx c q=>?_,λp l=>?_,λb u q=>?_,d.len]
 ·rw[cQ (j q)];show d.base.free b o q n E
 ·rw[cQ (cX (d.base.tups b k q) f)];show d.base.tups b k q
 ·rw[cQ (cX (d.base.frzs b o u q) f)];show d.base.frzs b o u q
 ·let⟨m,h⟩:=d.base.tbls b F q;show#[m,by rw[cQ (cX h f)];show h]
 ·rw[cQ B];show d.free
 ·rw[cQ (C x c q)];show d.freeC x c q
 ·let⟨G,h,J,K,L⟩:=d.pin p l;have M:p.1≠a:=bO (bF (aZ (I.pin p l).1) g);show#[G,by rw[cQ M];show h,J,K,L]
 ·by_cases y:b=a
  ·subst y;rw[eV] at q;cases q;show#[hz,its,n,A,e]
  ·rw[cQ y] at q;show(d.hok b u q).stay (λc v _ w=>w) (λc w=>by rw[cQ (cX w f)];show w) λc k w=>by rw[cQ (cX w f)];show w
def YJ(hc:X.calm=ζ)(Sc:pq X scope)(nv:∀x c,cl.lookup x=ψ c->X.env.cells.lookup x=ψ c)(jm:∀y∈scope.names,y.2 = .free->∃c,cl.lookup y.1=ψ c)
  (hN:N.length=k+ys.length) (uu:N.drop k=ys) (hix:ix.length=ys.length) (hiy:∀(j:Nat)(y:Str)(i:Nat),ys[j]?=ψ y->ix[j]?=ψ i->X.N[i]?=ψ y/\(y,gP)∈scope.names)
  (Z:∀y∈ys,(relabel scope X.env).names.lookup y=ψ .cell\/(relabel scope X.env).names.lookup y=ψ .free)
  (hg:∀C s H fp,DG (pS X scope N cl C s H fp) target g) (V':∀C s H fp,Qp (pS X scope N cl C s H fp) ifs tt) (he:∀C s H fp,DE (pS X scope N cl C s H fp) elt te)
  (M:Inv X Γ σ H s2) (so:c_ X B σ H) (T:oh X.prog X.w X.K target J fp it tn) (st:tn 0 s2.heap) (hf:∀b∈fp,IZ X Γ H b) (ok:Kh X J xs H) (hz:xs.length<=sizeLine)
  (hP:mH g tt te xs (xX B k ix) [] P) {RR:aF->Addr->Result->aJ->Prop} {E:aF->aJ->Prop}
  (post:∀(ds:ι D)(vs:ι V)(its:ι aF)(n:Nat)(C:Addr)(s':aJ)(H':Hp),P ds->cc H H'->H' s2.z=ξ->a_ X.K H' ds vs->c6 vs its->vs.length<=sizeLine ->
   s'.heap.get? s2.z=ψ {cls:=.type "list",data:=.seq its.toArray n}->Inv X Γ σ H' s'->(∃m,s'.heap.Ns C m)->s2.z<C->H' C=ξ->RR (.ref s2.z) C (.ok .next) s'):
  Θ X (newList []) (λacc s₃=>Θ X (newFunctionEnv scope X.env.globals cl [] X.env.qual ξ .none (ψ X.env)) (λG' s₄=>
   codeAny (model X.prog X.w) X.A (.compStart (.ListComp elt [#[target,iter,ifs,0]] scope pos) 0 (.ref it) acc {G' with scope:=relabel scope X.env}) (RR acc G'.locals) s₄) E s₃) E s2:=by
 show fQ (GJ Sc.nocell (by intro y hy;simp at hy) (λh₁ L G=>?_) Sc.kind);dsimp only at L G⊢;generalize hH2:s2.heap.push {cls:=.type "list",dict:=ξ,data:=.seq ([]:ι aF).toArray} = y_ at L G⊢;have hCs:y_.objs.size=s2.z+1:=by rw[<-hH2,nD]
 have l8:s2.z<y_.objs.size:=by rw[hCs];show AA _
 have jj:∀b∈fp,b<s2.z:=λb f=>by
  let⟨o,ho,_⟩:=T.obj 0 _ st b f;show aZ ho
 have old:∀b o,s2.heap.get? b=ψ o->h₁.get? b=ψ o:=λb o e=>
  G.extBut b o (bO (mO (aZ e) l8)) (aN _ (hH2▸aN _ e))
 have hacc:h₁.get? s2.z=ψ {cls:=.type "list",data:=.seq ([]:ι aF).toArray 0}:=
  G.extBut _ _ (bO l8) (aN _ (hH2▸bQ _ rfl))
 have hfr:H s2.z=ξ:=M.hok.fresh (aS _)
 let l:=pS X scope N cl y_.objs.size s2 H fp
 have J0:Inv l [] (Ah σ k ix) H {s2 with heap:=h₁,toks:=s2.toks+([]:ι (Str×aF)).length}:=
  Rn M Sc nv jm (kF l8) hf jj old rfl M.bare L hN uu hix hiy Z
 have S0:c_ l (xX B k ix) (Ah σ k ix) H:=E5 so rfl rfl;have M':s2.z∉l.fs:=λf=>by
  have f:s2.z∈t8 X.stack:=f;rcases aP.mp (M.stkSub _ f) with e |e
  ·show Ψ (show X.env.locals<X.env.locals from Nat.lt_of_lt_of_eq M.lt e) (iC _)
  ·show M.nofs (aS _) e
 have yc:∀{H':Hp}{o:Obj},(∀b∈fp,H' b=ξ)->∀b∈fp,IZ l [(s2.z,o)] H' b:=λ{H' o} hn b f=>by
  let⟨f0,f1,f2,f3,f4,f5⟩:=hf b f;show#[hn b f,bO (mO (jj b f) l8),λU_=>?_,.inl f,λx c e=>f4 x c (nv x c e),λp O=>?_]
  ·rcases aP.mp (M.stkSub b U_) with e |e
   ·show f1 e
   ·show f2 e
  ·have:p=(s2.z,o):=(by simpa [l,pS] using O);subst this;show lE (jj b f)
 have pinD:∀{σ':St}{H':Hp}{s':aJ}{its:ι aF}{n:Nat},Inv l [] σ' H' s'->H' s2.z=ξ->s'.heap.get? s2.z=ψ {cls:=.type "list",data:=.seq its.toArray n}->Inv l [(s2.z,{cls:=.type "list",data:=.seq its.toArray n})] σ' H' s':=λI' hn e=>
  I'.pins_of λp O=>by
   have:=bE.mp O;subst this;show#[e,hn,bO l8,M',λv z=>by cases z]
 have U:∀s₃:aJ,s₃ = {s2 with heap:=h₁,toks:=s2.toks+([]:ι (Str×aF)).length} ->
   codeAny (model X.prog X.w) X.A (.compLoop (.ListComp elt [#[target,iter,ifs,0]] scope pos) 0 (.ref it) (.ref s2.z) (compEnvC scope cl y_.objs.size X.env)) (RR (.ref s2.z) y_.objs.size) s₃:=by
  rintro s₃ rfl;show Nj (λm s'=>∃(i:Nat)(B':En)(σ':St)(H':Hp)(ds:ι D)(vs:ι V)(its:ι aF)(n:Nat),m=xs.length-i/\i<=xs.length/\Inv l [] σ' H' s'/\c_ l B' σ' H'/\tn i s'.heap/\(∀b∈fp,H' b=ξ) /\
   H' s2.z=ξ/\s'.heap.get? s2.z=ψ {cls:=.type "list",data:=.seq its.toArray n}/\a_ X.K H' ds vs/\c6 vs its/\vs.length<=i/\mH g tt te (xs.drop i) B' ds P) ?_ xs.length
   #[0,xX B k ix,Ah σ k ix,H,[],[],[],0,rfl,dL _,J0,S0,T.keep _ _ _ st (λb f o e=>old b o e),λb f=>(hf b f).1,hfr,hacc,.nil,.nil,aS _,~~~hP]
  rintro m s' ⟨i,B',σ',H',ds,vs,its,n,rfl,hi,I',S',cn,fr',mz,e',rr,rv,hl,hD⟩ E';let⟨o1,o2⟩:=ok i H' S'.same;have I1:=pinD I' mz e';by_cases v_:i<xs.length
  ·have e:xs.drop i=xs[i]::xs.drop (i+1):=jT v_;rw[e] at hD;let⟨go,yl⟩:=o1 xs[i] (aL v_);show h8 (T.item l rfl rfl rfl hc i _ s' σ' H' E' I1 (yc fr') cn go) λr s4 ⟨u,hr,h4⟩=>?_;subst hr;show h8 h4 λ_ s5 ⟨x,H5,I5,r5,y5,wk,fr5⟩=>?_;let⟨s45,rx5⟩:=yl x H5 y5;have I5':=I5.pinned (yc fr5) (T.obj _ _ wk);show gM (hg _ _ _ _ _ s5 σ' H5 x u (λσ6 I=>∃h,tt h (λb=>if b=ζ then te h (λd=>mH g tt te (xs.drop (i+1)) h (ds++[d]) P) else mH g tt te (xs.drop (i+1)) h ds P)/\c5 H5 I/\c_ l h σ6 I) I5' r5 #[xs[i],B',_,rx5,S'.ext s45,hD,λh σ6 I W k6 s6=>#[h,W,k6,s6]]) (λ_ s6' ⟨σ6,H6',I6',h,q6',k6',S6'⟩=>?_) λ_ _ z=>z.elim;show gM (V' _ _ _ _ _ s6' σ6 H6' (λb I=>(if b=ζ then te h (λd=>mH g tt te (xs.drop (i+1)) h (ds++[d]) P) else mH g tt te (xs.drop (i+1)) h ds P)/\cc H6' I) I6' #[h,_,S6',q6',λb I f s6=>#[f,s6]]) (λokb s6 ⟨I,I6,W,s66⟩=>?_) λ_ _ z=>z.elim;have k6:c5 H5 I:=k6'.trans (.of s66);have S6:c_ l h σ6 I:=S6'.ext s66;cases okb with
   |false=>
    have W:mH g tt te (xs.drop (i+1)) h ds P:=W;show ∃m,m<xs.length-i/\_;let⟨e7,n7,_,_,_⟩:=I6.pin (s2.z,_) (bI _ (dY _ cT));show#[xs.length-(i+1),ν,i+1,h,σ6,I,ds,vs,its,n,rfl,v_,I6.pins_of λp O=>Ψ O η,S6,?_,λb f=>?_,n7,e7,rr.keep ((c5.of s45).trans k6),rv,sP hl,W]
    ·show T.keep _ _ _ wk λb f o q=>(I6.pin (b,o) (bI _ (bI _ (uD f q)))).1
    ·let⟨o,q,_⟩:=T.obj _ _ wk b f;show(I6.pin (b,o) (bI _ (bI _ (uD f q)))).2.1
   |true=>
   have W:te h (λd=>mH g tt te (xs.drop (i+1)) h (ds++[d]) P):=W;show wpAny _ _ (eval elt _) _ _ s6;show gM (he _ _ _ _ _ s6 σ6 I (λv Q=>∃d,mH g tt te (xs.drop (i+1)) h (ds++[d]) P/\cc I Q/\ig X.K Q d v) I6 #[h,_,S6,W,λd v Q q7 R r7=>#[d,q7,R,r7]]) (λu7 R ⟨v7,Q,I7,rv7,d,q7,s67,r7⟩=>?_) λ_ _ z=>z.elim;let⟨e7,n7,_,_,_⟩:=I7.pin (s2.z,_) (bI _ (dY _ cT));have hsz:its.toArray.size+1<=sizeLine:=by
    rw[aY,<-rv.length];lia
   show BV F.slot_list_append #[_,e7,rfl] F.entry_list_append (F.args_list_append_2 _ _) (LC s2.z its.toArray n u7 ν) #[e7,?_];have e8:=NU e7 (λa=>a.push u7);have I8:Inv l [] σ6 Q R:=I7.pins_of λp O=>Ψ O η;have Y:∀b o,b≠s2.z->R.heap.get? b=ψ o->(R.heap.update s2.z (fA λa=>a.push u7)).get? b=ψ o:=λb o f q=>(eD R.heap _ (Ne.symm f)).trans q;have I9:Inv l [] σ6 Q {R with heap:=R.heap.update s2.z (fA λa=>a.push u7)}:=
    I8.turned (t':=R.toks) Y n7 (bO l8) (.inr (aS _)) (λx c q z=>by
     let⟨v,hv⟩:=M.cell x c (nv x c q);show Ψ hv.lt (by rw[z];show iC _)) (λp O=>Ψ (show p∈([]:ι (Addr×Obj)) from O) η)
   have k57:c5 H5 Q:=k6.trans (.of s67);have k':c5 H' Q:=(c5.of s45).trans k57;show#[xs.length-(i+1),ν,i+1,h,σ6,Q,ds++[d],vs++[v7],its++[u7],_,rfl,v_,I9,S6.ext s67,?_,λb f=>?_,n7,~~~e8,(rr.keep k').append (.cons r7 .nil),rv.append (.cons rv7 .nil),by rw[aU];show AB hl,q7]
   ·show T.keep _ _ _ wk λb f o q=>?_;have q7':=(I7.pin (b,o) (bI _ (bI _ (uD f q)))).1;show Y b o (bO (jj b f)) q7'
   ·let⟨o,q,_⟩:=T.obj _ _ wk b f;show(I7.pin (b,o) (bI _ (bI _ (uD f q)))).2.1
  ·have hie:i=xs.length:=ν;subst hie;rw[NI] at hD;show h8 (T.done l rfl rfl rfl hc _ _ s' σ' H' E' I1 (yc fr') cn (o2 (aS _))) λr s4 ⟨hr,I4⟩=>?_;subst hr;let⟨e4,n4,_,_,_⟩:=I4.pin (s2.z,_) (bI _ cT);let⟨m4,hn4,_⟩:=I4.loc;have I5:Inv X Γ σ H' s4:=M.call' (ch:=fp) I4.os I4.base I4.hok I4.bare λb f=>by
    let⟨f0,f1,f2,f3,f4,f5⟩:=hf b f;show#[f3,f1,f4,f5]
   show post ds vs its n y_.objs.size s4 H' hD S'.same n4 rr rv (dC hl hz) e4 I5 #[m4,hn4] l8 I4.free
 show codeAny_compStart_list (U _ rfl) (T.self X.A 0 _ _ _ (T.keep _ _ _ st λb f o e=>old b o e) (U _ rfl))
end
def YH(X:Cx)(scope:Scope)(N:ι Str)(k:Nat)(a:ι Nat):Bool:=
 scope.kind == .function && scope.names.all (λy=>y.2 != .cell) && scope.names.all (λy=>y.2 != .local ||scope.names.lookup y.1 == ψ .local) &&
 scope.names.all (λy=>y.2 != .free ||X.env.kindOf y.1 == ψ .cell ||X.env.kindOf y.1 == ψ .free) &&
 N.length == k+a.length && ((N.drop k).zip a).all (λp=>X.N[p.2]? == ψ p.1 && scope.names.contains (p.1,.free)) &&
 (N.drop k).all (λy=>(relabel scope X.env).names.lookup y == ψ .cell || (relabel scope X.env).names.lookup y == ψ .free)
structure z0(X:Cx)(scope:Scope)(N:List Str)(k:Nat)(ix:List Nat):Prop where
 sc:pq X scope
 hN:N.length=k+(N.drop k).length
 hix:ix.length=(N.drop k).length
 hiy:∀(j:Nat)(y:Str)(i:Nat),(N.drop k)[j]?=ψ y->ix[j]?=ψ i->X.N[i]?=ψ y/\(y,gP)∈scope.names
 hkind:∀y∈N.drop k,(relabel scope X.env).names.lookup y=ψ .cell\/(relabel scope X.env).names.lookup y=ψ .free
def Cs(h:YH X scope N k ix=ζ):z0 X scope N k ix:=by
 unfold YH at h;erw[jY,tW,bne_iff_ne,ne_eq,vE,beq_iff_eq] at h;obtain⟨⟨⟨⟨⟨⟨b,c⟩,d⟩,f⟩,w⟩,g⟩,l⟩:=h;have m:(N.drop k).length=ix.length:=by rw[fO];lia
 show#[#[b,c,λy a e=>?_,λy a e=>?_],ν,m.symm,λj y i n o=>?_,l]
 ·rcases d y a with q |q
  ·show Ψ e q
  ·show q
 ·rcases f y a with(q |q) |q
  ·show Ψ e q
  ·show .inl q
  ·show .inr q
 ·have s:(y,i)∈(N.drop k).zip ix:=by
   show bA (i:=j) ?_;rw[List.getElem?_zip_eq_some];show#[n,o]
  let⟨u,v⟩:=g _ s;show#[u,List.contains_iff_mem.mp v]
def mE(c:RA)(k:Nat)(d:ι Nat)(g:RG)(e:RE):RA:=λa Q=>c a λb=>Sz b.length/\yF g e b (xX a k d) [] Q
def OS(c:RA)(k:Nat)(d:ι Nat)(g:RG)(e:RT)(f:RE):RA:=λa Q=>c a λb=>Sz b.length/\mH g e f b (xX a k d) [] Q
def ZD:OS ti k ix g Vf te=mE ti k ix g te:=by
 funext a Q;unfold OS mE;congr 1;funext xs;rw[YI]
section
variable{X:Cx}{scope:Scope}{elt target iter:Expr}{ifs:ι Expr}{pos:Pos}{g:RG}{tt:RT}{te:RE}{ti:RA}
def PV{Z:St}{s f:aJ}{C:Addr}(a:Inv X Γ Z H s){h:St}(i:Inv X Γ h H' f)(d:s.z<=C)(j:H' C=ξ)(k:qA C f.heap h'):
  Inv X Γ h H' {f with heap:=h',toks:=t'}:=
 i.turned (λb o l e=>(k.2 b l).trans e) j (lE (bF a.lt d)) (.inr (dC a.sz d)) (λx c e z=>by
  let⟨v,m⟩:=a.cell x c e;show Ψ (bF m.lt (by rw[z];show d)) (iC _)) λp n z=>Ψ (bF (aZ (a.pin p n).1) (by rw[z];show d)) (iC _)
def Di(N:ι Str)(k:Nat)(d:ι Nat)(hi:DI X target iter ti)(V:∀cl C s H fp,DG (pS X scope N cl C s H fp) target g)(W:∀cl C s H fp,Qp (pS X scope N cl C s H fp) ifs tt)(Y:∀cl C s H fp,DE (pS X scope N cl C s H fp) elt te)
  (hc:X.calm=ζ:=by rfl) (hB:YH X scope N k d=ζ:=by rfl) (hs:∀x,foldedSetIterable iter X.env x=pure x:=by intro _;rfl):DO X (.ListComp elt [#[target,iter,ifs,0]] scope pos) (OS ti k d g tt te):=by
 intro Γ s Z H Q I d_;let⟨a,P,u,q,kk⟩:=d_;have F:=Cs hB;let⟨cl,ur,nv,jm⟩:=JO (scope:=scope) (env:=X.env) λy hy f=>I.ok.has _ (F.sc.frees y hy f);rw[eval_ListComp];show zQ (use:=ξ) rfl hs ur F.sc.kind F.sc.locs (h8 (hi Γ s Z H (λJ c=>∃b,cc H c/\r8 X J b c/\b.length<=sizeLine/\mH g tt te b (xX a k d) [] P) I #[a,_,u,q,λb J c B D ok=>#[b,D,ok,B.1.ok,B.2]]) λv D h1=>h8 h1 λitv E h2=>?_);let⟨it,fp,tn,J,c,rfl,h,T,st,f,b,G,ok,hz,hD⟩:=h2;show YJ (RR:=λi C=>compPost (model X.prog X.w) X.A X.xe ξ (EP X Γ Z Q) i C) hc F.sc nv jm F.hN rfl F.hix F.hiy F.hkind (V cl) (W cl) (Y cl) h (u.ext G) T st f ok.s hz hD ?_;intro ds vs j n C K L hP xq M rr rv hl e I' ⟨m,l⟩ O o;show#[m,l,λR U=>?_];have I3:Inv X Γ Z L {K with heap:=R}:=PV (t':=K.toks) h I' (kF O) o U;have e3:R.get? E.z=ψ {cls:=.type "list",data:=.seq j.toArray n}:=(U.2 _ (bO O)).trans e;show#[.ref E.z,_,h.track I3 (aS _) M e3 rv hl,rfl,kk ds _ vs L hP (G.trans xq) M rr]
def Ss{i:Nat}{y:Str}{c l_:Pos}(N:ι Str)(k:Nat)(L:ι Nat)(hN:X.N.Nodup)(hi:DIS X target iter ti)(hg:∀cl C s H fp,DG (pS X scope N cl C s H fp) target g)(V':∀cl C s H fp,Qp (pS X scope N cl C s H fp) ifs tt)(he:∀cl C s H fp,DE (pS X scope N cl C s H fp) elt te)
  (M:X.N[i]?=ψ y:=by rfl) (u:X.env.scope.names.lookup y=ψ .local:=by rfl) (hc:X.calm=ζ:=by rfl) (hB:YH X scope N k L=ζ:=by rfl) (hs:∀x,foldedSetIterable iter X.env x=pure x:=by intro _;rfl)
  (uw:swapsWith (.ListComp elt [#[target,iter,ifs,0]] scope pos) (ψ (.Name y c)) l_.line X.env=pure ζ:=by rfl):
  DS X (.Assign [.Name y c] (.ListComp elt [#[target,iter,ifs,0]] scope pos) l_) (lW i (OS ti k L g tt te)):=by
 intro Γ s Z H De I d_;let⟨j,E,O,q,nn,rt,bk,ct⟩:=d_;have F:=Cs hB;let⟨cl,ur,nv,jm⟩:=JO (scope:=scope) (env:=X.env) λy M P=>I.ok.has _ (F.sc.frees y M P);rw[exec_Assign_Name_used _ _ _ _ uw];show aC (IU (aC ?_));show wpAny _ X.A (do let _ <-comprehension (.ListComp elt [⟨target,iter,ifs,0⟩] scope pos) scope X.env _ (newList []) χ (eval iter X.env) (ψ (assign (.Name y c) X.env))) _ _ s;show aC (gM (zQ (use:=ψ (assign (.Name y c) X.env)) (Q:=λ_ d=>SP X Γ De .next d) rfl hs ur F.sc.kind F.sc.locs
  (h8 (hi Γ s Z H (λJ G=>∃f,cc H G/\Kh X J f G/\f.length<=sizeLine/\mH g tt te f (xX j k L) [] (λR=>E.nx (j.set i (ψ (.own R))))) I #[j,_,O,q,λf J G u s1 ok=>#[f,s1,ok,u.1.ok,u.2]]) λv s1 h1=>h8 h1 λitv l h2=>?_)) (λ_ d hq=>aO (aO hq)) λ_ _ e=>e)
 let⟨it,fp,tn,J,G,rfl,B,T,st,P,f,U,ok,hz,hD⟩:=h2;show YJ (RR:=λV C=>compPost (model X.prog X.w) X.A X.xe (ψ (assign (.Name y c) X.env)) (λ_ d=>SP X Γ De .next d) V C) hc F.sc nv jm F.hN rfl F.hix F.hiy F.hkind (hg cl) (V' cl) (he cl) B (O.ext U) T st P ok hz hD ?_;intro R vs its n C d H2 hP xq W rr rv hl e I' ⟨m,Y⟩ K hnC;have I3:=B.track I' (aS _) W e rv hl;have D:l.z≠C:=bO K;have so3:c_ X (j.set i (ψ (.own R))) (Z.set i (ψ (.ref l.z))) (f6 H2 l.z (.lst vs)):=(O.ext (U.trans xq)).set_own W rr;have k3:c5 H (f6 H2 l.z (.lst vs)):=(c5.of (U.trans xq)).trans (.ofF λb o h=>by rw[cQ (cX h W)];show h);show Θ X (assign (.Name y c) X.env (.ref l.z)) _ _ d;show MV (ZN I3 hN M (.inl u) (v:=.ref l.z) rfl (λs4 I4 ⟨a,sb,ha⟩=>?_) (.inr u));have hCa:C≠a:=by
  rcases ha with rfl |ha
  ·show lE (mO B.lt K)
  ·let⟨v,hv⟩:=B.cell _ a ha;show lE (mO hv.lt K)
 show#[m,Y.sameBut sb hCa,λh' qk=>#[_,_,PV (t':=s4.toks) B I4 (kF K) (by rw[cQ (Ne.symm D)];show hnC) qk,nn _ _ _ hP k3 so3]]
def sU(N:ι Str)(k:Nat)(a:ι Nat)(hi:DI X target iter ti)(b:∀cl C s H fp,DG (pS X scope N cl C s H fp) target g)(c:∀cl C s H fp,DE (pS X scope N cl C s H fp) elt te)
  (d:X.calm=ζ:=by rfl) (hB:YH X scope N k a=ζ:=by rfl) (e:∀x,foldedSetIterable iter X.env x=pure x:=by intro _;rfl):DO X (.ListComp elt [#[target,iter,[],0]] scope pos) (mE ti k a g te):=by
 rw[<-ZD];show Di N k a hi b (λ_ _ _ _ _=>Dh) c d hB e
def GU{i:Nat}{y:Str}{a c:Pos}(N:ι Str)(k:Nat)(b:ι Nat)(d:X.N.Nodup)(hi:DI X target iter ti)(e:∀cl C s H fp,DG (pS X scope N cl C s H fp) target g)(f:∀cl C s H fp,DE (pS X scope N cl C s H fp) elt te)
  (h:X.N[i]?=ψ y:=by rfl) (j:X.env.scope.names.lookup y=ψ .local:=by rfl) (l:X.calm=ζ:=by rfl) (hB:YH X scope N k b=ζ:=by rfl) (m:∀x,foldedSetIterable iter X.env x=pure x:=by intro _;rfl)
  (n:swapsWith (.ListComp elt [#[target,iter,[],0]] scope pos) (ψ (.Name y a)) c.line X.env=pure ζ:=by rfl):
  DS X (.Assign [.Name y a] (.ListComp elt [#[target,iter,[],0]] scope pos) c) (lW i (mE ti k b g te)):=by
 rw[<-ZD];show Ss N k b d hi.s e (λ_ _ _ _ _=>Dh) f h j l hB m n
def riO(i:Nat):RA:=λa Q=>match a[i]? with
 |some (ψ (.own b))=>Q b
 |_=>False
end
section
variable{X:Cx}{pos apos cpos im:Pos}{te:RE}{x:Str}
def tQ(i:Nat)(te:RE):RS:=λE a=>match a[i]? with
 |some (ψ (.own b))=>te a λd=>Sz (b.length+1)/\E.nx (a.set i (ψ (.own (b++[d]))))
 |_=>False
def mL(i:Nat)(u:DE X e te)(w:X.N[i]?=ψ x:=by rfl)(y:sx X.env.scope x:=by walk_at "vis")(b:(x == ("__debug__":Str))=χ:=by decide)(z:(x == ("__classdict__":Str))=χ:=by decide)
  (A:attributeBase (.Name x im) "append" X.env (eval (.Name x im) X.env)=eval (.Name x im) X.env:=by rfl)
  (B:((backTo cpos (starEach [e] X.env)).all (λx=>!x.1) && (backToKw cpos (keywordEach [] X.env)).all (λx=>x.1.isSome) && decide (([e]:ι Expr).length+([]:ι pA).length+(if([]:ι pA).isEmpty then 0 else 1)<30))=ζ:=by rfl)
  (C:(apos.endLine == cpos.line)=ζ:=by rfl) (h:starEach [e] X.env=[(χ,eval e X.env)]:=by rfl) (f:starEach [] X.env=[]:=by rfl) (D:swapsWith (.Call (.Attribute (.Name x im) "append" apos) [e] [] cpos) ξ pos.line X.env=pure χ:=by rfl):
  DS X (.Expr (.Call (.Attribute (.Name x im) "append" apos) [e] [] cpos) pos) (tQ i te):=by
 show PS.mono (SU (Lu nH zE zF YY (pv i w y b z) (pX u h f) A B C (by rw[h,f]) (by rw[f];rfl)) D) λP Z H F=>pV F λa E g q n r bk Q=>?_;unfold tQ at q;split at q
 ·rename_i G j;let⟨v,k,p,l,I,m,J,o⟩:=g.rel i _ j;subst I;show#[.ref p,k,.inl #[rfl,l,j9.of m],a,_,g,q,λd v R b c K=>?_];have s:=c.get _ _ m trivial;let⟨L,M⟩:=(g.ext c).upd_own j k s J ((o.keep (.of c)).append (.cons K .nil));have O:G.length+1<=sizeLine:=b.1.ok;show#[p,l,v,rfl,rfl,s,by rw[<-o.length];lia,n _ _ _ b.2 ((c5.of c).trans M) L]
 ·show q.elim
def Mb(i:Nat):RS:=λE a=>match a[i]? with
 |some (ψ (.own b))=>b≠[]/\E.nx (a.set i (ψ (.own b.dropLast)))
 |_=>False
def F7(i:Nat)(h:X.N[i]?=ψ x:=by rfl)(j:sx X.env.scope x:=by walk_at "vis")(k:(x == ("__debug__":Str))=χ:=by decide)(l:(x == ("__classdict__":Str))=χ:=by decide)
  (m:attributeBase (.Name x im) "pop" X.env (eval (.Name x im) X.env)=eval (.Name x im) X.env:=by rfl)
  (o:(apos.endLine == cpos.line)=ζ:=by rfl) (s:swapsWith (.Call (.Attribute (.Name x im) "pop" apos) [] [] cpos) ξ pos.line X.env=pure χ:=by rfl):
  DS X (.Expr (.Call (.Attribute (.Name x im) "pop" apos) [] [] cpos) pos) (Mb i):=by
 show PS.mono (SU (M8 nH PySem.F.slot_list_pop PySem.F.type_list_pop L8 (pv i h j k l) m o) s) λD Z H u=>pV u λa E d q n r bk G=>?_;unfold Mb at q;split at q
 ·rename_i w e;let⟨v,f,p,b,y,c,z,g⟩:=d.rel i _ e;subst y;have I:=g.length;have J:0<w.length:=List.length_pos_iff.mpr q.1;have A:b[b.length-1]?=ψ (b[b.length-1]'ν):=aL _;let⟨B,C⟩:=d.upd_own e f c z g.dropLast;show#[.ref p,f,.inl #[rfl,b,j9.of c],p,b,_,rfl,rfl,c,A,n _ _ _ q.2 C B]
 ·show q.elim
def O9(i:Nat)(te c:RE):RS:=λE a=>match a[i]? with
 |some (ψ (.own b))=>te a λd=>c a λe=>match e with
  | .int k=>match s_ b.length k with
   |some j=>E.nx (a.set i (ψ (.own (b.set j d))))
   |none=>False
  |_=>False
 |_=>False
end
section
variable{X:Cx}{e a b:Expr}{pos p:Pos}
def Yo:o_ X (binaryOp .Add) (λx y H Q=>∃l b xs zs,x = .ref l/\y = .ref b/\j9 X.K H l xs/\j9 X.K H b zs/\xs.length+zs.length<=sizeLine/\∀p,H p=ξ->Q (.ref p) (f6 H p (.lst (xs++zs)))):=by
 intro Γ s Z H x y v u Q I B C h;let⟨l,b,xs,zs,rfl,rfl,D,hB,R,q⟩:=h;cases B;cases C;obtain⟨f,r,⟨o,n,e,j,k,m⟩,U⟩:=I.list D;obtain⟨i,r2,⟨E,G,w,z,g,A⟩,J⟩:=I.list hB;let⟨c,d,V,L⟩:=o;let⟨W,Y,M,N⟩:=E;dsimp only at j m k z A g;subst j m k z A g;have O:=r.length;have J:=r2.length;show LK (T:="list") (id:="list.__add__") #[_,e,rfl] #[_,w,rfl] (by kernel_rfl) (by kernel_rfl) PySem.F.slot_list_add PySem.F.entry_list_add (PySem.F.args_list_add_2 _ _)
  (list_addW l b f.toArray i.toArray n G ξ ξ L N (by rw[aY,aY];lia)) #[e,w,?_]
 have P:f.toArray++i.toArray=(f++i).toArray:=η
 rw[P];show#[.ref _,_,I.lnew (t':=s.toks) (r.append r2) (by rw[aU];lia),rfl,q _ I.fresh]
def FzQ(X:Cx)(Q:VK):VK:=λv f=>Q v f\/∃p g c,v = .ref p/\f=f6 c p (.lst g)/\c p=ξ/\∀d,cc c d->r6 X.K d p g->Q v d
def A4{s:aJ}(h:EP X Γ Z (FzQ X Q) u s):EP X Γ Z Q u s:=by
 obtain⟨v,f,I,c,q | ⟨p,g,j,rfl,rfl,d,q⟩⟩:=h
 ·show#[v,f,I,c,q]
 ·let⟨o,i⟩:=Inv.freeze I (a:=p) (xs:=g) eV;show#[.ref p,_,i,c,q _ (.fn λb u e=>by rw[cQ (cX e d),cQ (cX e d)];show e) (.inl #[o,eV])]
def PE.frz{t:TE}(h:PE X e t):PE X e (λZ H Q=>t Z H (FzQ X Q)):=λΓ s Z H Q I q=>h8 (h Γ s Z H _ I q) λ_ _=>A4
def o_.frz(h:o_ X f r):o_ X f (λx y H Q=>r x y H (FzQ X Q)):=λΓ s Z H x y v u Q I c d q=>h8 (h Γ s Z H x y v u _ I c d q) λ_ _=>A4
def vS:R22:=λx y Q=>match x,y with
 | .int i,.int j=>Q (.int (i+j))
 | .lst c,.lst d=>Sz (c.length+d.length)/\Q (.lst (c++d))
 | .tup c,.tup d=>c≠[]/\Sz (c.length+d.length)/\Q (.tup (c++d))
 |_,_=>False
def upd_new{p:Addr}(c:H p=ξ):cc H (f6 H p o):=cc.fn λb u e=>by rw[cQ (cX e c)];show e
def wF:n9 X (binaryOp .Add) vS:=by
 intro Γ s Z H x y v u Q I j l C;let⟨d,e,P,r1,r2,q,k⟩:=C;unfold vS at q;split at q
 ·show jO Γ s Z H x y v u Q I j l #[_,_,P,r1,r2,q,k]
 ·rename_i m n;let⟨a,o,rfl,h,c⟩:=r1.lst;let⟨b,w,rfl,A,g⟩:=r2.lst;have f:m.length+n.length<=sizeLine:=q.1.ok;show o_.frz Yo Γ s Z H _ _ v u Q I j l #[a,b,o,w,rfl,rfl,h,A,by rw[<-c.length,<-g.length];show f,λp i=>.inr #[p,_,H,rfl,rfl,i,λD B fz=>k _ _ D q.2 B (.lst fz ((c.append g).keep (.of B)))]]
 ·rename_i m n;let⟨a,o,rfl,h,c⟩:=r1.tup;let⟨b,w,rfl,A,g⟩:=r2.tup;have f:m.length+n.length<=sizeLine:=q.2.1.ok;have E:=c.length;show Yp Γ s Z H _ _ v u Q I j l #[a,b,o,w,rfl,rfl,ju.of h,ju.of A,λz=>q.1 (rY.mp (by rw[E,z];rfl)),by rw[<-c.length,<-g.length];show f,λz=>?_,λz p i=>?_]
  ·subst z;cases g;have:=k _ (.ref a) H q.2.2 (cc.refl H);rw[bU] at this;show this (.tup h c)
  ·show k _ _ _ q.2.2 (upd_new i) (.tup eV ((c.append g).keep (.of (upd_new i))))
 ·show q.elim
def RX(f:RE)(g h:RO):RE:=λc Q=>f c λx=>g c λl=>h c λu=>match x with
 | .lst d=>Q (.lst (cutD d l u))
 | .tup d=>¬(HT.sIx d.length 0 l=0/\HT.sIx d.length d.length u=d.length)/\Q (.tup (cutD d l u))
 |_=>False
def Cz{K:aH}{H:Hp}{c:ι D}{vs:ι V}(l u:Option Int)(d:a_ K H c vs):a_ K H (cutD c l u) (Cy vs l u):=by
 unfold cutD Cy;rw[<-d.length];show(d.drop _).take _
def AM{lo hi:Option Expr}(z:DB X e te)(A:DP X lo tl)(B:DP X hi th):DE X (.Subscript e (.Slice lo hi ξ p2) pos) (RX te tl th):=by
 show PE.mono (PE.frz (Ui (Zl.or Q1) z A B)) λZ H Q C=>lF C λc P st q k=>?_;show#[c,_,st,q,λd v I D m r1=>#[c,_,st.ext m,D,λl J E g=>#[c,_,(st.ext m).ext g,E,λu H3 h n=>?_]]];have f:=(m.trans g).trans n;cases d with
 |lst F=>
  let⟨p,o,rfl,s,i⟩:=(r1.same (g.trans n)).lst;show .inl #[p,o,rfl,s,λw j=>.inr #[w,_,H3,rfl,rfl,j,λG y fz=>k _ _ G h (f.trans y) (.lst fz ((Cz l u i).keep (.of y)))]]
 |tup F=>
  let⟨p,o,rfl,s,i⟩:=(r1.same (g.trans n)).tup;show .inr #[p,o,rfl,ju.of s,by rw[<-i.length];show h.1,λw j=>.inl ?_];show k _ _ _ h.2 (f.trans (upd_new j)) (.tup eV ((Cz l u i).keep (.of (upd_new j))))
 |_=>show h.elim
def uK:D->(D->Prop)->Prop:=λd Q=>match d with
 | .lst c=>Q (.lst c)
 | .tup c=>Q (.lst c)
 |_=>False
def boot_list:bootBuiltins "list" = ψ (.type "list"):=θ
def boot_tuple:bootBuiltins "tuple" = ψ (.type "tuple"):=θ
def AL(z:X.mg "list" = ξ)(h:DB X e te)(A:Gl X "list":=by rfl)(u:starEach [e] X.env=[(χ,eval e X.env)]:=by rfl)(i:starEach [] X.env=[]:=by rfl):DE X (.Call (.Name "list" p) [e] [] pos) (r1 uK te):=by
 show PE.mono (PE.frz (ZA Af A z boot_list (pX h u i) μ μ (by rw[u,i]) (by rw[i];rfl))) λZ H Q B=>lF B λc P st q k=>#[c,_,st,q,λd v w f y r=>?_];unfold uK at f;split at f
 ·let⟨p,j,rfl,l,m⟩:=r.lst;show#[p,j,rfl,.inl l,λn o=>.inr #[n,_,w,rfl,rfl,o,λs g fz=>k _ _ s f (y.trans g) (.lst fz (m.keep (.of g)))]]
 ·let⟨p,j,rfl,l,m⟩:=r.tup;show#[p,j,rfl,.inr (ju.of l),λn o=>.inr #[n,_,w,rfl,rfl,o,λs g fz=>k _ _ s f (y.trans g) (.lst fz (m.keep (.of g)))]]
 ·show f.elim
def Am:D->(D->Prop)->Prop:=λd Q=>match d with
 | .lst c=>Q (.tup c)
 | .tup c=>Q (.tup c)
 |_=>False
def Se(s:X.mg "tuple" = ξ)(h:DB X e te)(u:Gl X "tuple":=by rfl)(m:starEach [e] X.env=[(χ,eval e X.env)]:=by rfl)(i:starEach [] X.env=[]:=by rfl):DE X (.Call (.Name "tuple" p) [e] [] pos) (r1 Am te):=by
 show PE.mono (ZA XI u s boot_tuple (pX h m i) μ μ (by rw[m,i]) (by rw[i];rfl)) λZ H Q w=>lF w λc P st q k=>#[c,_,st,q,λd v y f n r=>?_];unfold Am at f;split at f
 ·let⟨p,j,rfl,g,l⟩:=r.lst;show#[p,j,rfl,.inl #[g,λz o=>k _ _ _ f (n.trans (upd_new o)) (.tup eV (l.keep (.of (upd_new o))))]]
 ·let⟨p,j,rfl,g,l⟩:=r.tup;show#[p,j,rfl,.inr #[ju.of g,k _ _ y f n (.tup g l)]]
 ·show f.elim
def bj:D->(D->Prop)->Prop:=λd Q=>match d with
 | .lst f=>∃c:List Int,f=c.map D.int/\Q (.int c.sum)
 |_=>False
def dMaxL:D->(D->Prop)->Prop:=λd Q=>match d with
 | .lst f=>∃c:List Int,f=c.map D.int/\c≠[]/\∀M,M∈c->(∀a∈c,a<=M)->Q (.int M)
 |_=>False
def dMinL:D->(D->Prop)->Prop:=λd Q=>match d with
 | .lst f=>∃c:List Int,f=c.map D.int/\c≠[]/\∀M,M∈c->(∀a∈c,M<=a)->Q (.int M)
 |_=>False
end
def Itv(K:aH)(a:Addr)(n:Nat):It:=
 #[λi H=>∃b x,j9 K H a b/\b.length=n/\b.reverse[i]?=ψ x,λi H x c=>c=H/\∀b,j9 K H a b->b.reverse[i]?=ψ x,λi H=>∃b,j9 K H a b/\b.length=n/\n<=i]
def Wg{P:bP}{w:cS}{K:aH}{U:Expr}(a f:Addr)(n:Nat):oh P w K U (Itv K a n) [f] f (λi h=>i<=n/\h.IsRevIter f a ((n:Int)-1-(i:Int))) where
 mem:=η
 obj:=λi h st b g=>by
  have e:b=f:= ~~~g
  subst e;let⟨_,o,e,c,d⟩:=st;show#[o,e,λv z=>by rw[d] at z;cases z]
 keep:=λi h l st k=>#[st.1,st.2.at λo e=>k f η o e]
 item:=by
  intro X q y A R i Γ s Z H E I m st B;subst q y A;let⟨V,st⟩:=st;let⟨T,x,C,D,j⟩:=B;let⟨W,Y,p,hz⟩:=I.list C;have jj:i<n:=by
   have:=(cE.mp j).1;simpa [D] using this
  have F:T[n-1-i]?=ψ x:=by
   rw[tM ν] at j;rw[<-j,D]
  let⟨u,hu,ru⟩:=Y.get F;let⟨G,J,f2,L,M,N⟩:=m f η;have O:(n:Int)-1-(i:Int)=((n-1-i:Nat):Int):=ν
  rw[O] at st;show DZ st p.isList (x:=u) (~~~hu) λl Q sb=>?_;have e2:((n-1-i:Nat):Int)-1=(n:Int)-1-((i+1:Nat):Int):=ν
  rw[e2] at Q;have I1:Inv X Γ Z H {s with heap:=l}:=I.turned (t':=s.toks) (λb o g e=>(sb.2 b g).trans e) G J L M N;let⟨o,e,c,d⟩:=id Q;show#[u,rfl,UQ (s:={s with heap:=l}) e c d μ #[x,H,I1,ru,#[rfl,λys hy=>by rw[I.list_inj hy C];show j],#[jj,Q],λb g=>(m b g).1]]
 done:=by
  intro X q y A R i Γ s Z H E I m st B;subst q y A;let⟨V,st⟩:=st;let⟨T,C,D,j⟩:=B;let⟨G,J,f2,L,M,N⟩:=m f η;have e:i=n:=ν
  subst e;have O:(i:Int)-1-(i:Int) = -1:=ν
  rw[O] at st;show GK (I.ok.hd R) st λl eb=>#[rfl,I.turned (t':=s.toks) (λb o g e=>eb b o g e) G J L M N]
 self:=λ_ _ _ _ _ st h=>vD st.2 h
section
variable{X:Cx}{tg e:Expr}{te:RE}{pos p:Pos}
def QM(te:RE):RA:=λa Q=>te a λd=>match d with
 | .lst b=>Q b.reverse
 |_=>False
def boot_reversed:bootBuiltins "reversed" = ψ (.type "reversed"):=θ
def Hy(N:X.mg "reversed" = ξ)(h:DE X e te)(O:Gl X "reversed":=by rfl)(G:starEach [e] X.env=[(χ,eval e X.env)]:=by rfl)(C:starEach [] X.env=[]:=by rfl):
  DI X tg (.Call (.Name "reversed" p) [e] [] pos) (QM te):=by
 intro Γ s Z H R I Q;let⟨c,P,st,q,T⟩:=Q;show Call_ (lU I O N boot_reversed (cN (h8 (pX h G C pos Γ s Z H (λn g=>∃a j D,n=[V.ref a]/\cc H g/\P j.reverse/\r6 X.K g a D/\a_ X.K g j D) I #[c,_,st,q,λd v g J f r=>?_]) λD f ⟨n,g,w,r1,U⟩=>?_) (by rw[G,C]) (by rw[C];rfl)))
 ·cases d with
  |lst j=>
   cases r with
   | @lst a n _ k A=>show#[a,j,n,rfl,f,J,k,A]
  |_=>show J.elim
 let⟨a,j,l,rfl,W,Y,k,A⟩:=U;let⟨u,rfl,ru⟩:=vals1 r1;cases ru;let⟨E,rv,pl,hzz⟩:=w.list k.sq;have F:=rv.length;show JN pl.isList ?_;have m:({f with heap:=f.heap.push (revObj a ((E.toArray.size:Int)-1))}:aJ).heap.IsRevIter f.z a ((l.length:Int)-1-((0:Nat):Int)):=#[_,bQ _ rfl,rfl,by simp[revObj,F]];show vD m #[f.z,[f.z],_,_,g,rfl,w.kept (t':=f.toks) λb o e=>aN _ e,Wg a _ l.length,#[dL _,m],λb hb=>?_,?_]
 ·rw[bE.mp hb];show(w.fpOk (aS _) (w.hok.fresh (aS _)))
 ·show T j.reverse _ g Y W λi H2 B=>#[λd ed=>?_,λF=>#[l,(k.keep B).sq,rfl,by rw[<-A.length];simpa using F]];let⟨v,L,h2⟩:=(A.reverse.keep B).get ed;show#[#[l,v,(k.keep B).sq,rfl,L],λx H' y=>?_];let⟨rfl,hy⟩:=y;have M:=hy l (k.keep B).sq;rw[L] at M;cases M;show#[cc.refl _,h2]
end
section
variable{prog:bP}{w:cS}{A:cV}{E:aF->aJ->Prop}{s:aJ}
def Dp{R:Result->aJ->Prop}{S I:Addr}{n:Nat}{J F:ι aF->Heap->Prop}{s0:aJ}(res:aF)(y:n<=sizeLine)
  (stay:∀acc h h',J acc h->(∃o,h.get? S=ψ o/\o.cls = .type "list")->h'.objs.size=h.objs.size->(∀b o,b≠S->h.get? b=ψ o->h'.get? b=ψ o)->J acc h')
  (item:∀acc (s:aJ) (o:Obj) (Q:Option aF->aJ->Prop) (E:aF->aJ->Prop),acc.length<n->J acc s.heap->s.heap.get? S=ψ o->(∀v h',J (acc++[v]) h'->h'.get? S=ψ o->Q (ψ v) {s with heap:=h'})->Δ prog w A.in1 (pyNext (.ref I)) Q E s)
  (done:∀acc (s:aJ) (o:Obj) (Q:Option aF->aJ->Prop) (E:aF->aJ->Prop),acc.length=n->J acc s.heap->s.heap.get? S=ψ o->(∀h',F acc h'->h'.get? S=ψ o->Q ξ {s with heap:=h'})->Δ prog w A.in1 (pyNext (.ref I)) Q E s)
  (j:∀h' acc c,acc.size=n->F acc.toList h'->h'.get? S=ψ {cls:=.type "list",dict:=ξ,data:=.seq acc c,slots:=(mt [])}->R (.ok (.ret res)) {s0 with heap:=h'}):
  ∀(k:Nat)(acc:Array aF)(h:Heap)(c:Nat),k=n-acc.size->acc.size<=n->J acc.toList h->h.get? S=ψ {cls:=.type "list",dict:=ξ,data:=.seq acc c,slots:=(mt [])} ->
   codeAny (model prog w) A (.builtin "list.extend.loop" #[[.ref S,.ref I,res],[]]) R {s0 with heap:=h}:=by
 intro k
 induction k with
 |zero=>
  intro acc h c l d f g;show gF xW ?_;rw[fN jU _];show wpAny _ A.in1 (pyNext (.ref I) >>= _) _ _ _;apply aC;show done acc.toList {s0 with heap:=h} _ _ _ ε f g λh' m a=>?_;show aO (j h' acc c ν m a)
 |succ k q=>
  intro acc h c l d f g;show gF xW ?_;rw[fN jU _];show wpAny _ A.in1 (pyNext (.ref I) >>= _) _ _ _;apply aC;show item acc.toList {s0 with heap:=h} _ _ _ ε f g λv h' i a=>?_;show wpAny _ A.in1 (updateSeq S (·.push v) >>= _) _ _ _;have z:acc.size<n:=ν
  have B:(acc.push v).size=acc.size+1:=Array.size_push ..;apply aC;show rG a rfl ?_ ν (by show(acc.push v).size<=sizeLine+1;lia);apply aO;show#[kH jU _,?_];show q (acc.push v) _ _ ν ν (stay _ _ _ (~~~i) #[_,a,rfl] (kW ..).1 λb o u e=>(eD _ _ (Ne.symm u)).trans e) (gR _ a rfl)
end
section
variable{σ:St}
def _root_.L2.Inv.trackO{s h:aJ}{a:Addr}(I:Inv X Γ σ H s)(d:Inv X Γ σ H' h)(f:s.z<=a)(e:H' a=ξ)(i:gw X.prog X.w (f6 H' a w) h.heap a w):Inv X Γ σ (f6 H' a w) h:=by
 have y:X.env.locals≠a:=bO (bF I.lt f);have A:∀x c,X.env.cells.lookup x=ψ c->c≠a:=λx c q z=>by
  let⟨v,B⟩:=I.cell x c q;show Ψ (bF B.lt (by rw[z];show f)) (iC _)
 have C:∀{b:Addr}{o:Obj},X.s₀.heap.get? b=ψ o->b≠a:=λ{b o} q=>bO (bF (aZ q) (dC I.sz f));show#[d.ok,d.os,d.bare,#[d.base.keep,d.base.slot,λb o q n D=>by rw[cQ (C q)];show d.base.free b o q n D,d.base.there,λb j q=>by rw[cQ (cX (d.base.tups b j q) e)];show d.base.tups b j q,λb o u q=>by rw[cQ (cX (d.base.frzs b o u q) e)];show d.base.frzs b o u q,λb E q=>?_],d.loc,d.cell,by rw[cQ y];show d.free,λx c q=>by rw[cQ (A x c q)];show d.freeC x c q,λp k=>?_,λb u q=>?_,d.len]
 ·let⟨m,g⟩:=d.base.tbls b E q;show#[m,by rw[cQ (cX g e)];show g]
 ·let⟨F,g,G,J,K⟩:=d.pin p k;have L:p.1≠a:=bO (bF (aZ (I.pin p k).1) f);show#[F,by rw[cQ L];show g,G,J,K]
 ·by_cases l:b=a
  ·subst l;rw[eV] at q;cases q;show i
  ·rw[cQ l] at q;show(d.hok b u q).stay (λc v _ w=>w) (λc w=>by rw[cQ (cX w e)];show w) λc j w=>by rw[cQ (cX w e)];show w
end
def Zk:D->Option (ι D)
 | .lst a=>ψ a
 | .tup a=>ψ a
 |_=>ξ
def di(f g:RE):RA:=λc Q=>f c λx=>g c λy=>∃d e,Zk x=ψ d/\Zk y=ψ e/\d.length=e.length/\Q (d.zipWith (λa b=>D.tup [a,b]) e)
def boot_zip:bootBuiltins "zip" = ψ (.type "zip"):=θ
def Itz(K:aH)(l m:Addr):It:=
 #[λi H=>∃c d x y,j9 K H l c/\j9 K H m d/\c[i]?=ψ x/\d[i]?=ψ y,λi H x e=>∃p a b,H p=ξ/\x = .ref p/\e=f6 H p (.tup [a,b])/\(∀c,j9 K H l c->c[i]?=ψ a)/\∀d,j9 K H m d->d[i]?=ψ b,
  λi H=>∃c d,j9 K H l c/\j9 K H m d/\(c.length<=i\/d.length<=i)]
def ZSt(z TI TO c d l m:Addr)(i:Nat)(h:Heap):Prop:=IsZip h z TI TO .none/\IsPair h TI (.ref c) (.ref d)/\(∃a b,IsPair h TO a b)/\h.IsListIter c l i/\h.IsListIter d m i
def Wh{P:bP}{w:cS}{K:aH}{n:ι Expr}{k:Nat}{pos:Pos}(z TI TO f g l m:Addr)(D:ZipApart z TI TO f g l m):
  oh P w K (.Tuple n k pos) (Itz K l m) [z,TI,TO,f,g] z (ZSt z TI TO f g l m) where
 mem:=η
 obj:=λi h st b d=>by
  obtain⟨F,G,⟨a,c,J⟩,⟨o1,U,c1,d1⟩,o2,V,c2,d2⟩:=st;erw[aP,dN,or_false] at d;rcases d with rfl |rfl |rfl |rfl |rfl
  ·show#[_,F,λv z=>by cases z]
  ·show#[_,G,λv z=>by cases z]
  ·show#[_,J,λv z=>by cases z]
  ·show#[o1,U,λv z=>by rw[d1] at z;cases z]
  ·show#[o2,V,λv z=>by rw[d2] at z;cases z]
 keep:=λi h B st j=>by
  obtain⟨F,G,⟨a,c,J⟩,M,h2⟩:=st;show#[j z η _ F,j TI η _ G,#[a,c,j TO η _ J],M.at λo x=>j f η o x,h2.at λo x=>j g η o x]
 item:=by
  intro X Y hw hK hc i Γ s Z H E I N st hg;subst Y hw hK;let⟨xs,ys,x,y,O,Q,C,hy⟩:=hg;let⟨its,rv,p,hzl⟩:=I.list O;let⟨R,n5,p',hzm⟩:=I.list Q;let⟨u,hu,ru⟩:=rv.get C;let⟨u',xm,ru'⟩:=n5.get hy;have W:=WalksT.zip2 (prog:=X.prog) (w:=X.w) (A:=X.A) (I.ok.hd hc) z TI TO f g l m D its.toArray R.toArray;have jj:i<min its.toArray.size R.toArray.size:=by
   have a1:=(cE.mp hu).1;have a2:=(cE.mp xm).1;simp;lia
  let⟨g1,g2,g3,g4,g5⟩:=id st;show W.item i s _ _ jj #[g1,g2,g3,g4,g5,p.isList,p'.isList] λT vals M tk hv hT ht hm j=>?_;let⟨v1,v2,U,V,rfl⟩:=hv;have q1:v1=u:=by
   have:its.toArray[i]?=ψ u:=(~~~hu);rw[U] at this;show dG this
  have q2:v2=u':=by
   have:R.toArray[i]?=ψ u':=(~~~xm);rw[V] at this;show dG this
  subst q1 q2;show#[_,rfl,?_];have sub:∀{b:Addr},b∉[z,TI,TO,f,g]->b∉[z,TO,f,g]:=λh B=>h (by simp at B⊢;rcases B with a |a |a |a <;> simp[a]);have I1:Inv X Γ Z (f6 H T (.tup [x,y])) {s with heap:=M,toks:=tk}:=
   I.turnedT (its:=[v1,v2]) (ch:=[z,TI,TO,f,g]) (λb o d e=>j b o (sub d) e) N hT (~~~ht) (.cons ru (.cons ru' .nil)) (by show 2<=sizeLine;decide)
  have hn:H T=ξ:=I.hok.fresh hT;show W.go n k pos i T _ _ _ hm λh2 L kk2=>?_;have T_:∀b∈[z,TI,TO,f,g],IZ X Γ (f6 H T (.tup [x,y])) b:=λb d=>by
   let⟨f0,f1⟩:=N b d;have:∃o,s.heap.get? b=ψ o:=by
    obtain⟨F,G,⟨a,c,J⟩,⟨o1,w1,c1,d1⟩,o2,w2,c2,d2⟩:=st;erw[aP,dN,or_false] at d;rcases d with rfl |rfl |rfl |rfl |rfl
    ·show#[_,F]
    ·show#[_,G]
    ·show#[_,J]
    ·show#[_,w1]
    ·show#[_,w2]
   let⟨o,ho⟩:=this;show#[by rw[cQ (bO (bF (aZ ho) hT))];show f0,f1]
  show#[.ref T,_,I1.turnedL (ch:=[z,TI,TO,f,g]) (t':=tk) (λb o d e=>kk2 b o (sub d) e) T_,rfl,#[T,x,y,hn,rfl,rfl,λys' B=>by rw[I.list_inj B O];show C,λys' B=>by rw[I.list_inj B Q];show hy],#[L.1,L.2.1,L.2.2.1,L.2.2.2.1,L.2.2.2.2.1],λb d=>(T_ b d).1]
 done:=by
  intro X Y hw hK hc i Γ s Z H E I N st hg;subst Y hw hK;let⟨xs,ys,O,Q,C⟩:=hg;let⟨its,rv,p,hzl⟩:=I.list O;let⟨R,n5,p',hzm⟩:=I.list Q;obtain⟨g1,g2,⟨a,b,g3⟩,g4,g5⟩:=st;have l1:=rv.length;have l2:=n5.length;show wpAny_pyNext_zip_end (I.ok.hd hc) D g1 g2 g3 g4 g5 p.isList p'.isList ?_ λM j=>#[rfl,I.turnedL (ch:=[z,TI,TO,f,g]) (t':=s.toks) (λb o d q=>j b o (λe=>d (by simp[e])) (λe=>d (by simp[e])) (λe=>d (by simp[e])) (λe=>d (by simp[e])) q) N];rcases C with C |C
  ·show .inl (by rw[tN];show gC ν)
  ·show .inr (by rw[tN];show gC ν)
 self:=λ_ _ _ _ _ st h=>PB st.1 h
section
variable{X:Cx}{a b:Expr}{ta tb:RE}{pos p:Pos}{elts:ι Expr}{k:Nat}{tp:Pos}
def IT(ta tb:RE):RA:=λc Q=>ta c λx=>tb c λy=>match x,y with
 | .lst d,.lst e=>Q (d.zipWith (λa b=>D.tup [a,b]) e)
 |_,_=>False
def Ao(hm:X.mg "zip" = ξ)(ha:DE X a ta)(L:DE X b tb)(hg:Gl X "zip":=by rfl)(h2:starEach [a,b] X.env=(χ,eval a X.env)::starEach [b] X.env:=by rfl)(h1:starEach [b] X.env=[(χ,eval b X.env)]:=by rfl)(O:starEach [] X.env=[]:=by rfl):
  DI X (.Tuple elts k tp) (.Call (.Name "zip" p) [a,b] [] pos) (IT ta tb):=by
 intro Γ s Z H R I d_;let⟨c,P,st,q,kk⟩:=d_;show Call_ (lU I hg hm boot_zip (cN (h8 (yJ ha (yJ L OO (by rw[h1,O])) h2 pos Γ s Z H (λvs g=>∃l m B C h j,vs=[V.ref l,V.ref m]/\cc H g/\P (B.zipWith (λa b=>D.tup [a,b]) C)/\r6 X.K g l h/\a_ X.K g B h/\r6 X.K g m j/\a_ X.K g C j) I
  #[c,_,st,q,λx v g hx f r1=>#[c,_,st.ext f,hx,λy u Q T U r2=>?_]]) λh f ⟨vs,g,G,r1,q1⟩=>?_) h2 (by rw[h1];rfl)))
 ·cases x with
  |lst B=>
   cases y with
   |lst C=>
    cases r1 with
    | @lst l h _ E M=>
     cases r2 with
     | @lst m j _ F N=>show#[l,m,B,C,h,j,rfl,f.trans U,T,E.keep (.of U),M.keep (.of U),F,N]
   |_=>show T.elim
  |_=>show T.elim
 let⟨l,m,B,C,h,j,rfl,k9,hp,E,M,F,N⟩:=q1;let⟨w1,w2,rfl,rv,ru⟩:=vals2 r1;cases rv;cases ru;let⟨its,rv,pl,hzz⟩:=G.list E.sq;let⟨t_,rv',J,hzz'⟩:=G.list F.sq;have W:l<f.z:=by let⟨o,n,e,_⟩:=pl;show aZ e
 have Y:m<f.z:=by let⟨o,n,e,_⟩:=J;show aZ e
 show call_zip_2 pl.isList J.isList λh' hz hTI hTO hi1 v5 hsz kk'=>?_;have I2:Inv X Γ Z g {f with heap:=h'}:=G.kept (t':=f.toks) kk';show PB hz #[f.z+4,[f.z+4,f.z+2,f.z+3,f.z,f.z+1],_,_,g,rfl,I2,Wh (f.z+4) (f.z+2) (f.z+3) f.z (f.z+1) l m (zipApart_new W Y),#[hz,hTI,#[_,_,hTO],hi1,v5],λb L=>?_,?_]
 ·have:f.z<=b:=by
   erw[aP,dN,or_false] at L;rcases L with rfl |rfl |rfl |rfl |rfl <;> simp
  show G.fpOk this (G.hok.fresh this)
 ·show kk _ _ g hp k9 λi Q w=>#[λd A=>?_,λhl=>#[h,j,(E.keep w).sq,(F.keep w).sq,by rw[<-M.length,<-N.length];simp at hl;lia]];rw[List.getElem?_zipWith] at A;cases e1:B[i]? with
  |none=>rw[e1] at A;cases A
  |some d1=>
   cases e2:C[i]? with
   |none=>rw[e1,e2] at A;cases A
   |some d2=>
    rw[e1,e2] at A;cases A;let⟨v,f1,f2⟩:=(M.keep w).get e1;let⟨u,f3,f4⟩:=(N.keep w).get e2;show#[#[h,j,v,u,(E.keep w).sq,(F.keep w).sq,f1,f3],λx H' y=>?_];let⟨pp,y1,y2,O,rfl,rfl,OK,zl⟩:=y;have e3:=OK h (E.keep w).sq;have e4:=zl j (F.keep w).sq;rw[f1] at e3;rw[f3] at e4;cases e3;cases e4;have sm:cc Q (f6 Q pp (.tup [v,u])):=cc.fn λb o e=>(by rw[cQ (cX e O)];show e);show#[sm,.tup eV (.cons (f2.keep (.of sm)) (.cons (f4.keep (.of sm)) .nil))]
end
abbrev uE(ns:ι Int):D:=.tup (ns.map .int)
def a_.tupI_inv{K:aH}{H:Hp}{ns:ι Int}{v:V}(r:ig K H (uE ns) v):∃a,v = .ref a/\H a=ψ (.tup (ns.map V.int)):=by
 cases r with
 |tup h b=>rw[b.ints_inv] at h;show#[_,rfl,h]
section
variable{e a b:Expr}{p pos:Pos}
def dNe:R22:=λx y Q=>match x,y with
 | .int i,.int j=>Q (.bl !(decide (i=j)))
 | .bl i,.bl j=>Q (.bl !(decide (i=j)))
 | .tup c,.tup d=>match ma (jc 5) c d with
  |some b=>Q (.bl !b)
  |none=>False
 | .non,.non=>Q (.bl χ)
 |_,_=>False
def El(R:h9 k X.A):n9 X (compareOp .NotEq) dNe:=by
 intro Γ s Z H x y v u Q I g l T;let⟨d,e,P,r1,r2,q,n⟩:=T;have hu:=R.un;unfold dNe at q;split at q
 ·rename_i i j;rw[r1.int_inv] at g;rw[r2.int_inv] at l;let⟨t,rfl⟩:=g;let⟨U,rfl⟩:=l;have e:(!(decide (i=j))) = !(i == j):=by rw[oU]
  rw[e] at q;show SeqAt.RcNeAt.int_int i t j U _ _ _ _ #[.bl _,H,I,rfl,n _ _ H q (cc.refl H) (.bl _)]
 ·rename_i i j;rw[r1.bl_inv] at g;rw[r2.bl_inv] at l;cases g;cases l;have e:(!(decide (i=j))) = !(i == j):=by rw[oU]
  rw[e] at q;show SeqAt.RcNeAt.bool_bool i j _ _ _ _ #[.bl _,H,I,rfl,n _ _ H q (cc.refl H) (.bl _)]
 ·rename_i o w;split at q
  ·rename_i b h;let⟨a,vs,rfl,W,C⟩:=r1.tup;let⟨c,ws,rfl,Y,D⟩:=r2.tup;cases g;cases l;let⟨m,E,ht,_⟩:=I.tuple (ju.of W);let⟨F,G,ve,_⟩:=I.tuple (ju.of Y);have l1:o.length=m.length:=C.length.trans E.length;have l2:w.length=F.length:=D.length.trans G.length;have rc:SeqAt.RcNeAt X.A s (.ref a) (.ref c) (!b):=by
    have:=SeqAt.RcNeAt.tuples (A:=X.A) (s:=s) (e:=λj=>match o[j]?,w[j]? with |some x,ψ y=>(jc 5 x y).getD χ |_,_=>χ) ht ve ν (λj J L=>?_)
    ·erw[aY,<-l1,<-l2] at this;have al:=GW h;rw[<-al];show this
    ·erw[aY] at J L;have z:o[j]?=ψ (o[j]'ν):=aL _;have B:w[j]?=ψ (w[j]'ν):=aL _;let⟨k,M⟩:=LX h j _ _ z B;rw[z,B];erw[M,nG];let⟨v1,f1,f2⟩:=C.get z;let⟨v2,f3,f4⟩:=D.get B;let⟨u1,N,g4⟩:=E.get f1;let⟨u2,O,g6⟩:=G.get f3;have a1:m.toArray[j]=u1:=by
      have:=aL J;rw[this] at N;simpa using dG N
     have a2:F.toArray[j]=u2:=by
      have:=aL L;rw[this] at O;simpa using dG O
     rw[a1,a2];show(xD I 5 M f2 f4 g4 g6 (by show X.A.units+1+5<cLine;lia)).2
   show rc _ _ _ _ #[.bl _,H,I,rfl,n _ _ H q (cc.refl H) (.bl _)]
  ·show q.elim
 ·have f:∀{v:V},jh X.K H .non v->v = .non:=λr=>by
   rcases r with r | ⟨_,_,_,e,_⟩
   ·cases r;rfl
   ·cases e
  rw[f r1] at g;rw[f r2] at l;cases g;cases l;show SeqAt.RcNeAt.none_none _ _ _ _ #[.bl _,H,I,rfl,n _ _ H q (cc.refl H) (.bl _)]
 ·show q.elim
def E7:R22:=λx y Q=>match x with
 | .lst c=>∃j:Nat,(∃d,c[j]?=ψ d/\jc 6 d y=ψ ζ)/\(∀(i:Nat) d,i<j->c[i]?=ψ d->jc 6 d y=ψ χ)/\(∀d∈c,∃b,jc 6 d y=ψ b)/\Q (.int (j:Int))
 |_=>False
end
section
variable{σ:St}{s:aJ}
def zw1{α β c:Type}{f:α->β->c}{g:c->α}(d:∀a b,g (f a b)=a){ks:ι α}:∀{vs:ι β},ks.length=vs.length->(gL f ks vs).map g=ks:=by
 induction ks with
 |nil=>intro vs h;rfl
 |cons k ks e=>
  intro vs h;cases vs with
  |nil=>cases h
  |cons v vs=>rw[jL,aM,d,e (sQ h)]
def zw2{α β c:Type}{f:α->β->c}{g:c->β}(d:∀a b,g (f a b)=b){ks:ι α}:∀{vs:ι β},ks.length=vs.length->(gL f ks vs).map g=vs:=by
 induction ks with
 |nil=>intro vs h;rw[nR h.symm];rfl
 |cons k ks e=>
  intro vs h;cases vs with
  |nil=>cases h
  |cons v vs=>rw[jL,aM,d,e (sQ h)]
def Th(x:ij):Int:=match x with
 | .inl i=>i
 | .inr _=>0
def Od(c:ks.length=vs.length)(d:kg.length=y9.length)(h:xF ks vs=xF kg y9):ks=kg/\vs=y9:=by
 have a:=Φ (pL λx:ij×V=>Th x.1) h;have b:=Φ (pL λx:ij×V=>x.2) h;unfold xF at a b;rw[zw1 (λ_ _=>rfl) c,zw1 (λ_ _=>rfl) d] at a;rw[zw2 (λ_ _=>rfl) c,zw2 (λ_ _=>rfl) d] at b;show#[a,b]
def Ih(c:ks.length=vs.length)(d:kg.length=y9.length)(h:gT ks vs=gT kg y9):ks=kg/\vs=y9:=by
 have a:=Φ (pL λx:ι ij×V=>x.1.map Th) h;have b:=Φ (pL λx:ι ij×V=>x.2) h;have e:∀(k:ι Int),(k.map (dR:Int->ij)).map Th=k:=λk=>by rw[cP];show pM k
 unfold gT at a b;rw[zw1 (g:=λx:ι ij×V=>x.1.map Th) (λk _=>e k) c,zw1 (g:=λx:ι ij×V=>x.1.map Th) (λk _=>e k) d] at a;rw[zw2 (λ_ _=>rfl) c,zw2 (λ_ _=>rfl) d] at b;show#[a,b]
def PQ(I:Inv X Γ σ H s)(h:H a=ψ (.frz o (.dT kvs)))(h':r6 X.K H a vs):False:=by
 let⟨f,i,g,_⟩:=I.list h'.sq;let⟨j,b,d,_⟩:=g.isList;let⟨_,_,_,k,_,l,m,n,e,c,_⟩:=I.hok a _ h;rw[e] at b;cases b;rw[c.1] at d;simp at d
def PM(I:Inv X Γ σ H s)(h:H a=ψ (.frz o (.dK kvs)))(h':r6 X.K H a vs):False:=by
 let⟨f,i,g,_⟩:=I.list h'.sq;let⟨j,b,d,_⟩:=g.isList;let⟨_,_,_,k,_,l,m,n,e,c,_⟩:=I.hok a _ h;rw[e] at b;cases b;rw[c.1] at d;simp at d
mutual
theorem ig.det(I:Inv X Γ σ H s):∀{d d':D}{v:V},ig X.K H d v->ig X.K H d' v->d=d'
 |_,_,_,.non,r=>by cases r;rfl
 |_,_,_,.bl b,r=>by cases r;rfl
 |_,_,_,.int i,r=>by cases r;rfl
 |_,_,_,.str x,r=>by cases r;rfl
 |_,_,_,.tup h q,r=>by
  cases r with
  |tup a f=>rw[h] at a;cases a;rw[a_.det I q f]
  |lst a f=>
   let⟨l,w,m,_⟩:=I.list a.sq;obtain⟨y,n,⟨o,e,c,_⟩,_⟩:=I.tuple (ju.of (K:=X.K) h);let⟨z,j,k,_⟩:=m.isList;rw[e] at j;cases j;rw[c] at k;simp at k
  |dct a _ _=>rw[h] at a;cases a
  |dtt a _ _=>rw[h] at a;cases a
 |_,_,_,.dct h u q,r=>by
  cases r with
  |tup a f=>rw[h] at a;cases a
  |lst a f=>show(PM I h a).elim
  |dct a g f=>
   rw[h] at a;let⟨rfl,rfl⟩:=Od u g (by injection a with e;injection e with _ e;injection e);rw[a_.det I q f]
  |dtt a _ _=>rw[h] at a;cases a
 |_,_,_,.dtt h u q,r=>by
  cases r with
  |tup a f=>rw[h] at a;cases a
  |lst a f=>show(PQ I h a).elim
  |dct a _ _=>rw[h] at a;cases a
  |dtt a g f=>
   rw[h] at a;let⟨rfl,rfl⟩:=Ih u g (by injection a with e;injection e with _ e;injection e);rw[a_.det I q f]
 |_,_,_,.lst h q,r=>by
  cases r with
  |tup a f=>
   let⟨l,w,m,_⟩:=I.list h.sq;obtain⟨y,n,⟨o,e,c,_⟩,_⟩:=I.tuple (ju.of (K:=X.K) a);let⟨z,j,k,_⟩:=m.isList;rw[e] at j;cases j;rw[c] at k;simp at k
  |lst a f=>rw[I.list_inj a.sq h.sq] at f;rw[a_.det I q f]
  |dct a _ _=>show(PM I a h).elim
  |dtt a _ _=>show(PQ I a h).elim
theorem a_.det(I:Inv X Γ σ H s):∀{d d':ι D}{v:ι V},a_ X.K H d v->a_ X.K H d' v->d=d'
 |_,_,_,.nil,r=>by cases r;rfl
 |_,_,_,.cons h t,r=>by
  cases r with
  |cons a b=>rw[ig.det I h a,a_.det I t b]
end
end
section
variable{te ta tb:RE}{p pos:Pos}
def O7(ta tb:RE):RE:=λa Q=>ta a λx=>(∃b,x = .lst b)/\tb a λy=>E7 x y Q
end
end
section
open PySem PySem.SetTable
def zo(N i:Nat):Nat:=(i*5+1) % N
def Au(N:Nat):Nat->Nat->Nat
 | 0,i=>i
 |m+1,i=>Au N m (zo N i)
theorem LY(N:Nat):∀a b i,Au N (a+b) i=Au N b (Au N a i)
 | 0,b,i=>by rw[nZ];rfl
 |a+1,b,i=>by rw[Nat.add_right_comm];show LY N a b (zo N i)
def Mj(N:Nat):Nat->Nat->ι Nat
 | 0,_=>[]
 |m+1,i=>i::Mj N m (zo N i)
theorem OG:∀{m i:Nat},j∈Mj N m i->∃k,k<m/\Au N k i=j
 | 0,_,h=>by cases h
 |m+1,i,h=>by
  rcases aP.mp h with rfl |h
  ·show#[0,ν,rfl]
  ·let⟨k,a,e⟩:=OG h;show#[k+1,ν,e]
def ki(N:Nat):Prop:=(∀j,j<N->j∈Mj N N 0)/\Au N N 0=0
def WL(h:((bT N).all λj=>(Mj N N 0).contains j)=ζ)(k:Au N N 0=0):ki N:=
 #[λj a=>by have:=tW.mp h j (cM.mpr a);simpa using this,k]
def P1:ki 8:=WL θ θ
def Zi:ki 32:=WL θ θ
def Vl:ki 128:=WL θ θ
def ki.reach(h:ki N)(hi:i<N)(e:j<N):∃k,k<N/\Au N k i=j:=by
 let⟨a,f,c⟩:=OG (h.1 i hi);let⟨b,g,d⟩:=OG (h.1 j e);by_cases l:a<=b
 ·show#[b-a,ν,?_];rw[<-c,<-LY,show a+(b-a)=b by lia,d]
 ·show#[b+(N-a),ν,?_];rw[<-c,<-LY,show a+(b+(N-a))=N+b by lia,LY,h.2,d]
def Em(P:Nat->Prop)(mask:Nat):Nat->Nat->Nat->Prop
 | 0,i,_=>P i
 |m+1,i,pt=>Em P mask m (leap mask i pt).1 (leap mask i pt).2
theorem Kd{P:Nat->Prop}{mask:Nat}:∀m i,P (Au (mask+1) m i)->Em P mask m i 0
 | 0,_,h=>h
 |m+1,i,h=>by
  unfold Em;have e:leap mask i 0=(zo (mask+1) i,0):=by simp[leap,zo]
  rw[e];show Kd m (zo (mask+1) i) h
theorem Gr{P:Nat->Prop}{mask:Nat}(R:ki (mask+1)){j:Nat}(d:j<=mask)(c:P j):∀(b i pt:Nat),i<=mask->pt<32 ^ b->∃m,m<=mask+b/\Em P mask m i pt
 | 0,i,pt,f,a=>by
  have:pt=0:= ~~~a
  subst this;let⟨k,l,e⟩:=R.reach (i:=i) (j:=j) ν ν;show#[k,ν,Kd k i (by rw[e];show c)]
 |b+1,i,pt,f,a=>by
  have g:(leap mask i pt).1<=mask:=by unfold leap;show pD (rM _ ν)
  have h:(leap mask i pt).2<32 ^ b:=by
   unfold leap;fail;rw[Nat.pow_succ] at a;lia
  let⟨m,n,e⟩:=Gr R d c b _ _ g h;show#[m+1,ν,e]
def Kn(h:Int):bits h<32 ^ 13:=by
 unfold bits;have:(h % (2 ^ 64:Int))<2 ^ 64:=Int.emod_lt_of_pos _ μ;have a:0<=h % (2 ^ 64:Int):=Int.emod_nonneg _ μ;have:(h % (2 ^ 64:Int)).toNat<2 ^ 64:=ν
 show bF this μ
theorem zL{α:Type}[DecidableEq α]:∀(l m:ι α),l.Nodup->(∀x∈l,x∈m)->l.length<=m.length
 | [],_,_,_=>dL _
 |x::l,m,f,a=>by
  have b:=a x η;have c:=iB.mp f;have:=zL l (m.erase x) c.2 λy d=>by
   have ne:y≠x:=λe=>c.1 (e▸d);show(uQ ne).mpr (a y (by simp[d]))
  rw[qQ b] at this;have:0<m.length:=sM b;simp;lia
structure ji(t:SetTable)(n:Nat):Prop where
 size:t.place.size=n
 dum:t.dummies = (mt [])
 room:n<=t.mask
 round:ki (t.mask+1)
 ris:t.place.toList.Pairwise (· < ·)
def slot_of{t:SetTable}(a:t.dummies = (mt []))(j:Nat):t.slot j = .empty\/∃i,t.slot j = .live i/\t.place[i]?=ψ j:=by
 unfold slot;fail;by_cases h:(t.place[below t.place j]? == ψ j)=ζ
 ·rw[Ω h];show gX #[_,rfl,~~~h]
 ·rw[υ h,a,υ (by simp[has])];show gJ rfl
def Jt{t:SetTable}(T:ji t n):∃j,j<=t.mask/\t.slot j = .empty:=by
 apply iH;intro a;have all:∀j∈bT (t.mask+1),j∈t.place.toList:=by
  intro j b;rcases slot_of T.dum j with h | ⟨i,h,e⟩
  ·show Ψ #[j,by have:=cM.mp b;lia,h] a
  ·rw[pH];show Array.mem_of_getElem? e
 have:=zL _ _ NN all;rw[eI,bX,T.size] at this;have:=T.room;lia
def XY(t:SetTable)(p:Probe)(m:Nat):Prop:=p.dummy=ξ/\p.more<=9/\Em (λj=>t.slot j = .empty) t.mask m p.i p.perturb/\(m=0->p.j=p.i)
def RU(p:Probe)(m:Nat):Nat:=p.more+10*m
def GZ(mask i:Nat):runEnd mask i-i<=9:=by unfold runEnd;split <;> lia
def Ck{t:SetTable}(h:XY t p m)(b:t.slot p.j≠.empty):∃m',XY t (t.advance p) m'/\RU (t.advance p) m'<RU p m:=by
 let⟨c,g,a,d⟩:=h;have f:m≠0:=by rintro rfl;rw[d rfl] at b;show b a
 unfold advance;split
 ·show#[m,#[c,by fail;lia,a,λe=>Ψ e f],by unfold RU;fail;lia]
 ·obtain⟨k,rfl⟩:∃k,m=k+1:=#[m-1,ν];show#[k,#[c,GZ _ _,a,λ_=>rfl],?_];unfold RU;have:=GZ t.mask (leap t.mask p.i p.perturb).1;fail;lia
theorem Fa{t:SetTable}(b:t.dummies = (mt []))(hashAt:Nat->Int)(h:Int):∀(fuel:Nat)(p:Probe)(m:Nat),XY t p m->RU p m<fuel ->
  (∃j,Ez t hashAt h fuel p=ψ (.empty j ξ)/\t.slot j = .empty)\/(∃j i next m',Ez t hashAt h fuel p=ψ (.candidate j i next)/\t.slot j = .live i/\t.place[i]?=ψ j/\XY t next m'/\RU next m'<RU p m)
 | 0,_,_,_,h=>Ψ h (qV _)
 |fuel+1,p,m,c,o=>by
  unfold Ez;rcases slot_of b p.j with e | ⟨i,e,f⟩
  ·rw[e];fail;rw[c.1];show gJ #[_,rfl,e]
  ·rw[e];fail;let⟨m',d,g⟩:=Ck c (by rw[e];show λx=>nomatch x);split
   ·show gX #[_,_,_,m',rfl,e,f,d,g]
   ·rcases Fa b hashAt h fuel (t.advance p) m' d ν with r | ⟨j,i,k,a,r,r2,l,n,q⟩
    ·show gJ r
    ·show gX #[j,i,k,a,r,r2,l,n,ν]
def Qd{t:SetTable}(T:ji t n)(h:Int):∃m,XY t (t.probeStart h) m/\RU (t.probeStart h) m<10*turns t.mask:=by
 let⟨j,a,b⟩:=Jt T;let⟨m,c,e⟩:=Gr (P:=λj=>t.slot j = .empty) T.round a b 13 (bits h % (t.mask+1)) (bits h) (pD (rM _ ν)) (Kn h);show#[m,#[rfl,GZ _ _,e,λ_=>rfl],?_];have:=GZ t.mask (bits h % (t.mask+1));unfold RU probeStart turns;fail;lia
theorem Lj{mask:Nat}{owner:Array (Option Nat)}:∀(fuel m i pt:Nat),i<=mask->owner.size=mask+1->Em (λj=>owner.getD j (ψ 0)=ξ) mask m i pt->m<fuel->∃j,uM mask owner fuel i pt=ψ j/\j<=mask/\owner.getD j (ψ 0)=ξ
 | 0,_,_,_,_,_,_,h=>Ψ h (qV _)
 |fuel+1,m,i,pt,g,b,a,l=>by
  unfold uM;cases hq:(bT (runEnd mask i+1-i)).find? λk=>(owner.getD (i+k) (ψ 0)).isNone with
  |some k=>
   have c:=List.find?_some hq;have d:=List.mem_of_find?_eq_some hq;have n:=cM.mp d;show#[i+k,rfl,?_,~~~c];have:runEnd mask i<=mask:=(by unfold runEnd;split <;> lia);lia
  |none=>
   fail;have e:owner.getD i (ψ 0)≠ξ:=by
    have f:=JE.mp hq 0 (cM.mpr (by unfold runEnd;split <;> lia));simpa using f
   obtain⟨k,rfl⟩:∃k,m=k+1:=by
    cases m with
    |zero=>show Ψ a e
    |succ k=>show#[k,rfl]
   show Lj fuel k _ _ (by unfold leap;show pD (rM _ ν)) b a ν
def MK(owner:Array (Option Nat))(n:Nat):ι Nat:=(bT n).filterMap λj=>owner.getD j ξ
theorem Dt{α:Type}{f g:Nat->Option α}:∀(l:ι Nat),(∀a∈l,f a=g a)->l.filterMap f=l.filterMap g
 | [],_=>rfl
 |a::l,h=>by rw[eQ,eQ,h a η,Dt l λb c=>h b (by simp[c])]
theorem IC{α:Type}{f g:Nat->Option α}{x:α}:∀(l:ι Nat),l.Nodup->j∈l->(∀i,i≠j->f i=g i)->f j=ξ->g j=ψ x->(l.filterMap g).Perm (x::l.filterMap f)
 | [],_,h,_,_,_=>by cases h
 |i::l,n,o,b,c,d=>by
  have k:=iB.mp n;by_cases e:i=j
  ·subst e;rw[eQ,eQ,c,d];fail;have:l.filterMap g=l.filterMap f:=by
    show Dt l λa q=>(b a (λe=>k.1 (e▸q))).symm
   rw[this]
  ·have s:j∈l:=(by rcases aP.mp o with h |h;show Ψ h.symm e;show h);have m:=IC l k.2 s b c d;rw[eQ,eQ,b i e];cases g i with
   |none=>show m
   |some y=>show(m.cons y).trans (TF x y _)
def Ou{N c:Nat}(d:(MK owner N).Perm (bT c))(m:owner.size=N)(n:c<N):∃j,j<N/\owner.getD j (ψ 0)=ξ:=by
 apply iH;intro f;have a:∀(l:ι Nat),(∀j∈l,∃k,owner.getD j ξ=ψ k)->(l.filterMap λj=>owner.getD j ξ).length=l.length:=by
  intro l
  induction l with
  |nil=>intro _;rfl
  |cons j l g=>
   intro h;let⟨k,e⟩:=h j η;rw[eQ,e];have:=g λj b=>h j (by simp[b]);rw[aQ,aQ,this]
 have:=a (bT N) (by
  intro j b;have i:=cM.mp b;cases h:owner.getD j ξ with
  |some k=>show#[k,rfl]
  |none=>
   show Ψ #[j,i,?_] f;have lt:j<owner.size:=ν;simp[fR,lt] at h⊢;show h)
 have e:=d.length_eq;unfold MK at e;rw[this] at e;simp at e;lia
theorem Dz{mask:Nat}(R:ki (mask+1)):∀(hs:ι Int)(owner:Array (Option Nat))(c:Nat),owner.size=mask+1->(MK owner (mask+1)).Perm (bT c)->c+hs.length<=mask+1 ->
  ∃sw ,(hs.foldl (λacc h=>do
    let (owner,k) <-acc
    let j <-uM mask owner (turns mask) (bits h % (mask+1)) (bits h)
    pure (owner.setIfInBounds j (ψ k),k+1)) (ψ (owner,c)))=ψ (sw,c+hs.length)/\sw.size=mask+1/\(MK sw (mask+1)).Perm (bT (c+hs.length))
 | [],owner,c,hs,b,_=>#[owner,rfl,hs,b]
 |h::hs,owner,c,d,b,g=>by
  erw[aQ] at g;let⟨l,o,q⟩:=Ou b d ν;let⟨m,y,em⟩:=Gr (P:=λj=>owner.getD j (ψ 0)=ξ) R (j:=l) ν q 13 (bits h % (mask+1)) (bits h) (pD (rM _ ν)) (Kn h);let⟨j,s,z,e⟩:=Lj (turns mask) m _ _ (pD (rM _ ν)) d em (by unfold turns;lia);rw[mJ];have step:((do
    let (owner,k) <-ψ (owner,c)
    let j <-uM mask owner (turns mask) (bits h % (mask+1)) (bits h)
    pure (owner.setIfInBounds j (ψ k),k+1)):Option (Array (Option Nat)×Nat))=ψ (owner.setIfInBounds j (ψ c),c+1):=by
   show(uM mask owner (turns mask) (bits h % (mask+1)) (bits h) >>= λj=>_)=_;rw[s];rfl
  rw[step];have lt:j<owner.size:=ν
  have a:(MK (owner.setIfInBounds j (ψ c)) (mask+1)).Perm (bT (c+1)):=by
   unfold MK;show(IC (f:=λi=>owner.getD i ξ) (x:=c) (j:=j) _ NN (cM.mpr ν) ?_ ?_ ?_).trans ?_
   ·intro i u;erw[eK];rw[Array.getElem?_setIfInBounds_ne (Ne.symm u)]
   ·erw[eK] at e⊢;have:owner[j]?=ψ owner[j]:=cD lt;rw[this] at e⊢;show e
   ·erw[eK];rw[Array.getElem?_setIfInBounds_self_of_lt lt];rfl
   ·rw[eE (n:=c)];show(List.Perm.cons c b).trans (iQ (l₁:=[c]))
  let⟨v,r1,r2,w⟩:=Dz R hs (owner.setIfInBounds j (ψ c)) (c+1) (by simp[d]) a ν;show#[v,?_,r2,?_]
  ·rw[r1,aQ,show c+1+hs.length=c+(hs.length+1) by lia]
  ·rw[aQ,show c+(hs.length+1)=c+1+hs.length by lia];show w
def Xu{mask:Nat}(R:ki (mask+1))(finger moves:Nat)(led plain:Bool)(a:Array Int)(h:a.size<=mask):
  ∃t order,laid mask finger moves led plain a=ψ (t,order)/\ji t a.size/\t.mask=mask/\t.led=led/\t.plain=plain/\order.toList.Perm (bT a.size):=by
 let⟨o,e,sz,c⟩:=Dz R a.toList (QP (mask+1) ξ) 0 η (by
  have:MK (QP (mask+1) ξ) (mask+1)=[]:=by
   unfold MK;rw[List.filterMap_eq_nil_iff];intro j i;have:=cM.mp i;simp[eK,this]
  rw[this];show EF _) (by rw[bX];lia)
 have m:layClean mask a=ψ o:=by
  unfold layClean;rw[<-Array.foldl_toList];have d:=e;erw[nZ] at d;rw[d];rfl
 unfold laid;rw[m];erw[nZ,bX] at c;have f:∀l:ι Nat,(l.filterMap λj=>(o.getD j ξ).map (j,·)).map (·.2)=l.filterMap λj=>o.getD j ξ:=by
  intro l
  induction l with
  |nil=>rfl
  |cons j l b=>
   rw[eQ,eQ];cases o.getD j ξ with
   |none=>show b
   |some k=>show Φ (k :: ·) b
 have n:∀l:ι Nat,((l.filterMap λj=>(o.getD j ξ).map (j,·)).map (·.1)).Sublist l:=by
  intro l
  induction l with
  |nil=>show KQ _
  |cons j l b=>
   rw[eQ];cases o.getD j ξ with
   |none=>show b.cons j
   |some k=>show b.cons_cons j
 show#[_,_,rfl,#[?_,rfl,h,R,lX (n _) sO],rfl,rfl,rfl,?_]
 ·have q:=Φ iM (f (bT (mask+1)));have g:=c.length_eq;unfold MK at g;erw[aG,eI] at q g;erw[aY,aG];lia
 ·fail;rw[f];show c
theorem TX(e:xs.toList.Pairwise (· < ·)):∀(fuel lo hi:Nat),lo<=hi->hi<=xs.size->hi-lo<=fuel->(∀i x,i<lo->xs[i]?=ψ x->x<j)->(∀i x,hi<=i->xs[i]?=ψ x->j<=x) ->
  TV xs j fuel lo hi<=xs.size/\(∀i x,i<TV xs j fuel lo hi->xs[i]?=ψ x->x<j)/\(∀i x,TV xs j fuel lo hi<=i->xs[i]?=ψ x->j<=x)
 | 0,lo,hi,o,d,q,a,b=>by
  have:lo=hi:=ν
  subst this;show#[d,a,b]
 |fuel+1,lo,hi,o,d,q,a,b=>by
  unfold TV;by_cases l:lo<hi
  ·rw[Ω l];fail;have m:(lo+hi) / 2<xs.size:=ν;have em:xs[(lo+hi) / 2]?=ψ xs[(lo+hi) / 2]:=cD m;have s:xs.getD ((lo+hi) / 2) j=xs[(lo+hi) / 2]:=(by simp[fR,m]);have mono:∀(i k x y:Nat),i<k->xs[i]?=ψ x->xs[k]?=ψ y->x<y:=by
    intro i k x y u c f;have n:k<xs.size:=(lI.mp f).1;have:=dJ.mp e i k ε (~~~n) u;rw[cD ν] at c;rw[cD n] at f;cases c;cases f;simpa using this
   rw[s];split
   ·rename_i h;show TX e fuel _ _ ν d ν (λi x v c=>?_) b;by_cases g:i=(lo+hi) / 2
    ·subst g;rw[em] at c;cases c;show h
    ·show mO (mono i ((lo+hi) / 2) x _ ν c em) h
   ·rename_i h;show TX e fuel _ _ ν ν ν a (λi x v c=>?_);by_cases g:i=(lo+hi) / 2
    ·subst g;rw[em] at c;cases c;lia
    ·have:=mono ((lo+hi) / 2) i _ x ν em c;lia
  ·rw[υ l];have:lo=hi:=ν;subst this;show#[d,a,b]
def Cm(j:Nat)(a:xs.toList.Pairwise (· < ·)):below xs j<=xs.size/\(∀i x,i<below xs j->xs[i]?=ψ x->x<j)/\(∀i x,below xs j<=i->xs[i]?=ψ x->j<=x):=
 TX a xs.size 0 xs.size (dL _) (aS _) ν (λi x h=>Ψ h (qV _)) λi x h e=>by
  have:=(lI.mp e).1;lia
def zK{α:Type}(xs:Array α)(p:Nat)(x:α)(a:p<=xs.size):(insertAt xs p x).toList=xs.toList.take p++x::xs.toList.drop p:=by
 unfold insertAt;rw[gQ,KH,EA,EA];erw[List.extract_eq_drop_take,BO,EG,cL,oV];congr 2;rw[eF η]
def ID{α:Type}(xs:Array α)(p:Nat)(x:α)(a:p<=xs.size):(insertAt xs p x).size=xs.size+1:=by
 rw[<-bX,zK xs p x a];simp;lia
def Aw{α:Type}(xs:Array α)(p:Nat)(x:α)(a:p<=xs.size)(y:α):y∈(insertAt xs p x).toList↔y=x\/y∈xs.toList:=by
 rw[zK xs p x a,bV,aP];constructor
 ·rintro (h |h |h)
  ·show gX (uS h)
  ·show gJ h
  ·show gX (uR h)
 ·rintro (h |h)
  ·show gX (gJ h)
  ·rw[<-iR p xs.toList] at h;rcases bV.mp h with h |h
   ·show gJ h
   ·show gX (gX h)
def O2{t:SetTable}(T:ji t n)(b:t.slot j = .empty)(q:n+1<=t.mask):ji (t.put j).1 (n+1)/\(t.put j).2=below t.place j/\below t.place j<=n/\(t.put j).1.mask=t.mask/\(t.put j).1.led=t.led/\(t.put j).1.plain=t.plain/\(t.put j).1.moves=t.moves:=by
 let⟨c,s,d⟩:=Cm j T.ris;have u:t.place[below t.place j]?≠ψ j:=by
  intro h;unfold slot at b;dsimp only at b;rw[Ω (~~~h)] at b;cases b
 have v:(if has t.dummies j=ζ then eraseAt t.dummies (below t.dummies j) else t.dummies) = (mt []):=by
  rw[T.dum];simp[has]
 show#[#[?_,v,q,T.round,?_],rfl,by rw[<-T.size];show c,rfl,rfl,rfl,rfl]
 ·show(insertAt t.place _ j).size=_;rw[ID _ _ _ c,T.size]
 ·show(insertAt t.place _ j).toList.Pairwise _;rw[zK _ _ _ c];show dI.mpr #[lX (KS _ _) T.ris,cG.mpr #[λx f=>?_,lX (List.drop_sublist _ _) T.ris],λx f y g=>?_]
  ·let⟨i,l,e⟩:=gE f;erw[fO,bX] at l;rw[KR] at e;have a:t.place[below t.place j+i]?=ψ x:=(by rw[cD ν,<-e];simp);have:=d _ x ν a;rcases Nat.lt_or_eq_of_le this with h |h
   ·show h
   ·subst h;exfalso;cases i with
    |zero=>show u a
    |succ i=>
     have m:below t.place j<t.place.size:=ν;have w:t.place[below t.place j]?=ψ t.place[below t.place j]:=cD m;have D:=d _ _ (aS _) w;have z:=dJ.mp T.ris (below t.place j) (below t.place j+(i+1)) (~~~m) ε ν;rw[cD ν] at a;injection a with a;simp at z;lia
  ·let⟨i,l,e⟩:=gE f;erw[gH,bX] at l;rw[List.getElem_take] at e;have a:t.place[i]?=ψ x:=(by rw[cD ν,<-e];simp);have A:=s i x ν a;rcases aP.mp g with rfl |g
   ·show A
   ·let⟨k,B,o⟩:=gE g;erw[fO,bX] at B;rw[KR] at o;have C:t.place[below t.place j+k]?=ψ y:=(by rw[cD ν,<-o];simp);have:=d _ y ν C;lia
def wG(t:SetTable)(k:Nat):Nat:=if k=0 then 0 else t.place.getD (k-1) 0+1
def Ir{t:SetTable}(T:ji t n)(a:k<=n):below t.place (wG t k)=k:=by
 let⟨o,j,l⟩:=Cm (wG t k) T.ris;have mono:∀(i k x y:Nat),i<k->t.place[i]?=ψ x->t.place[k]?=ψ y->x<y:=by
  intro i k x y m e b;have a:k<t.place.size:=(lI.mp b).1;have:=dJ.mp T.ris i k ε (~~~a) m;rw[cD ν] at e;rw[cD a] at b;cases e;cases b;simpa using this
 have sz:=T.size;have c:∀i,i<n->t.place[i]?=ψ (t.place.getD i 0):=by
  intro i q;rw[cD ν];have:i<t.place.size:=ν
  simp[fR,this]
 rcases KW (below t.place (wG t k)) k with h |h |h
 ·exfalso;have:=l (k-1) _ ν (c (k-1) ν);unfold wG at this;rw[υ ν] at this;lia
 ·show h
 ·exfalso;have f:=c k ν;have d:=j k _ h f;unfold wG at d;by_cases g:k=0
  ·rw[Ω g] at d;lia
  ·rw[υ g] at d;have:=mono (k-1) k _ _ ν (c (k-1) ν) f;lia
section
variable{prog:bP}{w:cS}{A:cV}{E:aF->aJ->Prop}{s:aJ}
def Fy(f:IsTupleKey (intKind prog w) s.heap ks a)(q:Q χ s):Δ prog w A (ofAClassStatement 8 (.ref a)) Q E s:=by
 have h:=f.typeIs;let⟨o,b,n,i,_,j,k⟩:=f;unfold ofAClassStatement;show aC (wH h ?_);fail;rw[Ω μ];show aC (aO ?_);erw[dD,aR,if_false];show aC (GL i j ?_)
 try fail
 show aC ?_;rw[<-IW];show uF _ (λrest r c=>r.1=ξ/\c=s/\∀v∈rest,carriedByValue v=ζ) _ ?_ ?_ _ _ #[rfl,rfl,k.byValue]
 ·rintro v rest r c ⟨d,rfl,g⟩;have l:=g v cT;have e:ofAClassStatement 7 v=pure χ:=by
   cases v with
   |ref a=>simp[carriedByValue] at l
   |_=>first |rfl | (unfold ofAClassStatement;rfl)
  rw[e];show aC (aO ?_);erw[aR,if_false];show aO #[rfl,rfl,λu m=>g u (bH _ m)]
 ·rintro⟨r1,r2⟩ c ⟨d,rfl,_⟩;simp only at d;subst d;show aO q
def Ju(f:IsTupleKey (intKind prog w) s.heap ks a)(q:Q ζ s):Δ prog w A (hashByValue 8 (.ref a)) Q E s:=by
 have j:=f.typeIs;let⟨o,b,n,l,_,m,u⟩:=f;unfold hashByValue;show aC (oQ j F.slot_tuple_hash.lookup ?_)
 try fail
 show aC (GL l m ?_)
 try fail
 show aC ?_;show wpAny _ _ (forIn b _ _) _ _ s;rw[<-IW];show uF _ (λrest r c=>r.1=ξ/\c=s/\∃g,ItemsAre (intKind prog w) g rest) _ ?_ ?_ _ _ #[rfl,rfl,ks,u]
 ·rintro v rest r c ⟨d,rfl,g,y⟩;cases y with
  | @cons k _ h _ i z=>
   have e:hashByValue 7 v=pure ζ:=by
    obtain⟨t,rfl⟩:∃t,v = .int k t:=by
     cases v <;> simp[intKind,EN] at i;show#[_,by rw[i]]
    rfl
   rw[e];show aC (aO ?_);erw[dD,aR,if_false];show aO #[rfl,rfl,_,z]
 ·rintro⟨r1,r2⟩ c ⟨d,rfl,_⟩;simp only at d;subst d;show aO q
def Zp{ks:ι Int}{a:Addr}{stored:ι aF}{Q:Bool->aJ->Prop}(e:IsTupleKey (intKind prog w) s.heap ks a)(k:∀y∈stored,∃kg b,y = .ref b/\IsTupleKey (intKind prog w) s.heap kg b)(q:Q χ s):
  Δ prog w A (searchCouldBeSeen (.ref a) stored) Q E s:=by
 unfold searchCouldBeSeen;show aC ?_;show uF _ (λrest r c=>r.1=ξ/\c=s/\∀y∈rest,y∈stored) _ ?_ ?_ _ _ #[rfl,rfl,λ_ h=>h]
 ·rintro v rest r c ⟨d,rfl,f⟩;let⟨kg,b,rfl,g⟩:=k v (f v cT);have i:∀y∈rest,y∈stored:=λu l=>f u (bH _ l);fail;by_cases j:((a == b) || (carriedByValue (eG a) && carriedByValue (eG b)))=ζ
  ·rw[Ω j];show aO #[rfl,rfl,i]
  ·rw[υ j];show aC (DX e ?_);erw[dD,aR,if_false];show aC (DX g ?_);erw[dD,aR,if_false];show aC (Fy e ?_);erw[aR,if_false];show aC (Fy g ?_);erw[aR,if_false];show aO #[rfl,rfl,i]
 ·rintro⟨r1,r2⟩ c ⟨d,rfl,_⟩;simp only at d;subst d;show aO q
def oC(w:cS):Bool:=w.params.followText "set-order"
def EsOk(prog:bP)(w:cS)(h:Heap)(es:Array (Int×aF)):Prop:=∀e∈es.toList,∃a b,e=(tupleKeyHash (intKind prog w) a,.ref b)/\IsTupleKey (intKind prog w) h a b
def Qs(mask n:Nat):Prop:=(mask=7/\n<=4)\/(mask=31/\n<=18)\/(mask=127/\n<=76)
def oX(es:Array (Int×aF))(ep:Nat)(t:SetTable):Obj:={cls:=.type "set",dict:=ξ,data:=.set es ep t}
def ji.fits{t:SetTable}(T:ji t n):t.fits n=ζ:=by
 unfold SetTable.fits fill;rw[T.dum,T.size];simp;show T.room
def Sy{mask n:Nat}(h:Qs mask n):(mask % 2 == 0)=χ:=by
 rcases h with⟨rfl,_⟩ | ⟨rfl,_⟩ | ⟨rfl,_⟩ <;> rfl
theorem ZL{S a:Addr}{t:SetTable}(B:A.units<cLine)(k:s.heap.get? S=ψ (oX es ep t))(T:ji t es.size)(C:Qs t.mask es.size)(l:EsOk prog w s.heap es)
  (n:IsTupleKey (intKind prog w) s.heap ks a) (D:(∃e∈es.toList,∃b,e.2 = .ref b/\IsTupleKey (intKind prog w) s.heap ks b)->Q (.there ξ) s) (F:∀j,t.slot j = .empty->Q (.free j χ) s):
  ∀(fuel:Nat)(rf:Option Probe)(m:Nat),XY t (rf.getD (t.probeStart (tupleKeyHash (intKind prog w) ks))) m->RU (rf.getD (t.probeStart (tupleKeyHash (intKind prog w) ks))) m<10*turns t.mask->RU (rf.getD (t.probeStart (tupleKeyHash (intKind prog w) ks))) m<fuel ->
   Δ prog w A (setSearchFrom S (.ref a) (tupleKeyHash (intKind prog w) ks) ζ fuel rf) Q E s
 | 0,_,_,_,_,h=>Ψ h (qV _)
 |fuel+1,rf,m,K,G,X=>by
  unfold setSearchFrom;show aC (jP k rfl T.fits ?_);fail;rw[υ (by unfold SetTable.gaveWay;rw[Sy C];show bR)];unfold probe;rcases Fa T.dum _ (tupleKeyHash (intKind prog w) ks) (10*turns t.mask) _ m K G with⟨j,e,ej⟩ | ⟨j,i,next,m',e,ej,K_,k8,hm'⟩
  ·rw[e];fail;show aO (F j ej)
  ·rw[e];fail;have o:i<es.size:=by
    have:=(lI.mp K_).1;rw[T.size] at this;show this
   have H:es[i]?=ψ es[i]:=cD o;have I:es[i]∈es.toList:=η;let⟨L,b,q,J⟩:=l _ I;have rest:Δ prog w A (match es[i]? with
    |some (u,y)=>do
     let c <-holding [y] (eqBool y (eG a))
     let d <-setState S
     if(ζ && c)=ζ then pure (TL ξ)
      else
       match d.2.snd.sameMemory t.moves t.mask with
       |some same=>
        let f <-match if same=ζ then d.2.snd.slot j else Slot.empty with
        |Slot.live g=>
         match d.fst[g]? with
         |some (u,M)=>do pure (if <-isSame M y then ψ g else ξ)
         |none=>pure ξ
        |_=>pure ξ
        match f with
        |none=>do
         rule "set.search.anew"
         setSearchFrom S (eG a) (tupleKeyHash (intKind prog w) ks) ζ fuel ξ
        |some g=>
         if c=ζ then pure (TL (ψ g))
         else setSearchFrom S (eG a) (tupleKeyHash (intKind prog w) ks) ζ fuel (ψ next)
       |_=>unsupported "set.changed-during-lookup:is-the-new-block-at-the-old-address"
    |_=>unsupported "internal:set-entry") Q E s:=by
    rw[H,q];fail;show aC (gI (wpAny_eqBool_tuple B J n ?_));show aC (jP k rfl T.fits ?_);fail;by_cases v:L=ks
    ·subst v;rw[Ω η];show aO (D #[_,I,b,by rw[q],J])
    ·rw[υ (by simp[v])];have N:t.sameMemory t.moves t.mask=ψ ζ:=(by unfold sameMemory;rw[Ω η]);rw[N];fail;rw[Ω rfl,ej];fail;rw[H,q];fail;show aC ?_;have same:isSame (.ref b) (.ref b)=pure ζ:=by
      show(if(b == b)=ζ then pure ζ else _)=_;rw[Ω η]
     rw[same];show aO (aC (aO ?_));rw[Ω rfl];fail;rw[υ (by simp[v])];show ZL B k T C l n D F fuel (ψ next) m' k8 (mO hm' G) (by erw[nG];lia)
   cases v8:t.led with
   |true=>
    erw[dD,aR,if_false];show rest
   |false=>
    erw[pI,if_true];show aC (Zp n ?_ ?_)
    ·intro y O;let⟨P,z,rfl⟩:=bK.mp O;have:=(Array.mem_filter.mp (pH.mp z)).1;let⟨R,U,V,W⟩:=l P (pH.mpr this);show#[R,U,by rw[V],W]
    ·erw[aR,if_false];show rest
structure lv(prog:bP)(w:cS)(h:Heap)(S:Addr)(es:Array (Int×aF)):Prop where
 tab:∃ep t,h.get? S=ψ (oX es ep t)/\ji t es.size/\Qs t.mask es.size/\t.led = !oC w/\t.plain=ζ/\True
 els:EsOk prog w h es
 dis:True
def AT{S b:Addr}{t:SetTable}(e:h.get? S=ψ (oX es ep t))(f:∀b o,b≠S->h.get? b=ψ o->h'.get? b=ψ o)(g:IsTupleKey (intKind prog w) h ks b):IsTupleKey (intKind prog w) h' ks b:=by
 let⟨o,a,n,c,i,d,j⟩:=g;show#[o,a,n,f b o ?_ c,i,d,j];rintro rfl;rw[e] at c;cases c;show nomatch d
def Du(h:n<100):TM n=n*4:=by
 unfold TM;rw[υ ν]
def Jp{S a:Addr}(hu:A.units<cLine)(H:lv prog w s.heap S es)(J:IsTupleKey (intKind prog w) s.heap ks a)(hn:es.size<76)
  (q:∀b h' tk vt,lv prog w h' S vt->(∀y∈vt.toList,y∈es.toList\/y.2 = .ref a)->(∀y∈es.toList,y∈vt.toList)->(∃y∈vt.toList,∃b,y.2 = .ref b/\IsTupleKey (intKind prog w) h' ks b)->vt.size<=es.size+1 ->
   (∀b o,b≠S->s.heap.get? b=ψ o->h'.get? b=ψ o)->h'.objs.size=s.z->s.toks<=tk->Q b {s with heap:=h',toks:=tk}):
  Δ prog w A (setAdd S (.ref a)) Q E s:=by
 obtain⟨⟨ep,t,g,T,K,W,V,_⟩,X,_⟩:=H;unfold setAdd;show gI (aC (wpAny_pyHash_tuple hu J ?_));unfold setAddHashed;show gI ?_;unfold setAddHashedIn;show aC (jP (s:={s with toks:=s.toks+(ks.length+1)}) g rfl T.fits ?_);fail;have nb:byScan (.ref a) es=χ:=by unfold byScan;simp[Value.scannable]
 rw[nb];erw[aR,if_false];let⟨m,hi,hm⟩:=Qd T (tupleKeyHash (intKind prog w) ks);have Y:RU (t.probeStart (tupleKeyHash (intKind prog w) ks)) m<100000:=by
  show bF hm ?_;unfold turns;rcases K with⟨e,_⟩ | ⟨e,_⟩ | ⟨e,_⟩ <;> rw[e] <;> decide
 unfold setSearch;show aC (ZL (s:={s with toks:=s.toks+(ks.length+1)}) hu g T K X J ?_ ?_ 100000 ξ m hi hm Y)
 ·rintro⟨e,C,b,e2,B⟩;fail;show aO ?_;show q χ s.heap _ es #[#[ep,t,g,T,K,W,V,#[]],X,#[]] (λy f=>gJ f) (λy f=>f) #[e,C,b,e2,B] ν (λb o _ e=>e) rfl (by show s.toks<=s.toks+_;lia)
 ·intro j hj;fail;show aC (jP (s:={s with toks:=s.toks+(ks.length+1)}) g rfl T.fits ?_);fail;have M:es.size+1<=t.mask:=by rcases K with⟨e,h⟩ | ⟨e,h⟩ | ⟨e,h⟩ <;> lia
  let⟨T1,p1,p2,Z,p4,p5,p6⟩:=O2 T hj M;rw[p5,V];erw[if_true];show aC (Ju (s:={s with toks:=s.toks+(ks.length+1)}) J ?_);erw[if_true];rw[p1];have sz:=ID es (below t.place j) (tupleKeyHash (intKind prog w) ks,eG a) p2;have mem:=Aw es (below t.place j) (tupleKeyHash (intKind prog w) ks,eG a) p2;generalize insertAt es (below t.place j) (tupleKeyHash (intKind prog w) ks,eG a)=d at sz mem;show aC (MY (s:={s with toks:=s.toks+(ks.length+1)}) g rfl ?_ (by rw[sz,fK];lia));have up1:∀b o,b≠S->s.heap.get? b=ψ o->(s.heap.update S (pR d (t.put j).1)).get? b=ψ o:=λb o B e=>(eD _ _ (Ne.symm B)).trans e;obtain⟨D,L⟩:∃D,(s.heap.update S (pR d (t.put j).1)).get? S=ψ (oX d D (t.put j).1):=#[_,gR _ g rfl];have z1:(s.heap.update S (pR d (t.put j).1)).objs.size=s.z:=(kW ..).1;generalize s.heap.update S (pR d (t.put j).1)=k at up1 L z1;have J':EsOk prog w k d:=by
   intro e C;rcases (mem e).mp C with rfl |C
   ·show#[ks,a,rfl,AT g up1 J]
   ·let⟨kg,b,r1,r2⟩:=X e C;show#[kg,b,r1,AT g up1 r2]
  have u:ji (t.put j).1 d.size:=by rw[sz];show T1
  have xc:(t.put j).1.fill=d.size:=by unfold fill;rw[u.size,u.dum];simp
  by_cases tf:(t.put j).1.tooFull=ζ
  ·rw[tf];erw[pI,Bool.and_self,if_true];have F:=tf;unfold tooFull at F;rw[xc,Z,sz] at F;erw[ge_iff_le,decide_eq_true_eq] at F;have se:(t.mask=7/\es.size=4)\/(t.mask=31/\es.size=18):=(by rcases K with⟨e,h⟩ | ⟨e,h⟩ | ⟨e,h⟩ <;> lia);unfold setRelay;show aC (aC (jP (s:={s with heap:=k,toks:=s.toks+(ks.length+1)}) L rfl u.fits ?_));fail;have hw:SetTable.sizeAbove (grown (es.size+1))=(if t.mask=7 then 32 else 128):=by
    rw[Du ν];rcases se with⟨e,h⟩ | ⟨e,h⟩ <;> rw[e,h] <;> decide
   rw[υ (by rw[hw,fK];split <;> decide)];have R:ki ((if t.mask=7 then 31 else 127)+1):=by
    split
    ·show Zi
    ·show Vl
   let⟨l,c,l1,T2,l3,l4,l5,l6⟩:=Xu R (t.put j).1.finger ((t.put j).1.movedTo (if t.mask=7 then 31 else 127)) (t.put j).1.led (t.put j).1.plain (d.map (·.1)) (by rw[SX,sz];rcases se with⟨e,h⟩ | ⟨e,h⟩ <;> rw[e,h] <;> decide);have er:(t.put j).1.relaid (d.map (·.1)) (grown (es.size+1))=ψ (l,c):=by
    unfold relaid;rw[hw];have:(if t.mask=7 then 32 else 128)-1=(if t.mask=7 then 31 else 127):=(by split <;> rfl);rw[this];show l1
   rw[er];rw[SX] at T2 l6;have N:(c.filterMap (d[·]?)).toList.Perm d.toList:=by
    rw[Array.toList_filterMap];show(l6.filterMap _).trans ?_;have:(bT d.size).filterMap (d[·]?)=d.toList:=by
     apply sK;intro i;have key:∀n,n<=d.size->(bT n).filterMap (d[·]?)=d.toList.take n:=by
      intro n
      induction n with
      |zero=>intro _;rfl
      |succ n ih=>
       intro hn;rw[eE,DL,ih ν];have:d[n]?=ψ d[n]:=cD ν;erw[eQ,this,List.filterMap_nil];rw[hX];simp[show n<d.size by lia]
     rw[key _ (aS _),<-bX,kB]
    rw[this]
   have O:(c.filterMap (d[·]?)).size=d.size:=(by rw[<-bX,N.length_eq,bX]);have nI:((c.filterMap (d[·]?)).size != d.size)=χ:=(by rw[O];simp);show aC ?_;show wpAny _ _ (if((c.filterMap (d[·]?)).size != d.size)=ζ then(unsupported "internal:set-table-lost-an-element" >>= λ_=>pure (c.filterMap (d[·]?),l)) else pure (c.filterMap (d[·]?),l)) _ _ _;rw[nI];erw[aR,if_false];show aO ?_;fail;have P:∀y,y∈(c.filterMap (d[·]?)).toList↔y∈d.toList:=λy=>N.mem_iff;generalize c.filterMap (d[·]?)=G at O P;show MY (s:={s with heap:=k,toks:=s.toks+(ks.length+1)}) L rfl ?_ (by rw[O,sz,fK];lia);have oq:∀b o,b≠S->s.heap.get? b=ψ o->(k.update S (pR G l)).get? b=ψ o:=λb o B e=>(eD _ _ (Ne.symm B)).trans (up1 b o B e);have U:∀b o,b≠S->k.get? b=ψ o->(k.update S (pR G l)).get? b=ψ o:=λb o B e=>(eD _ _ (Ne.symm B)).trans e;obtain⟨I,g2⟩:∃I,(k.update S (pR G l)).get? S=ψ (oX G I l):=#[_,gR _ L rfl];have z2:(k.update S (pR G l)).objs.size=s.z:=((kW ..).1).trans z1;show aO (q ζ (k.update S (pR G l)) _ G #[#[I,l,g2,by rw[O];show T2,?_,by rw[l4,p4];show W,by rw[l5,p5];show V,#[]],?_,#[]] (λy f=>?_) (λy f=>(P y).mpr ((mem y).mpr (gX f))) #[_,(P _).mpr ((mem _).mpr (gJ rfl)),a,rfl,AT g oq J] ν oq z2 (by show s.toks<=s.toks+_;lia))
   ·rw[l3,O,sz];unfold Qs;rcases se with⟨e,h⟩ | ⟨e,h⟩ <;> rw[e,h] <;> decide
   ·intro e C;let⟨kg,b,r1,r2⟩:=J' e ((P e).mp C);show#[kg,b,r1,AT L U r2]
   ·rcases (mem y).mp ((P y).mp f) with rfl |h
    ·show gX rfl
    ·show gJ h
  ·have v:(t.put j).1.tooFull=χ:=(~~~tf);rw[v];erw[wP,aR,if_false];show aO (q ζ k _ d #[#[D,_,L,u,?_,by rw[p4];show W,by rw[p5];show V,#[]],J',#[]] (λy f=>?_) (λy f=>(mem y).mpr (gX f)) #[_,(mem _).mpr (gJ rfl),a,rfl,AT g up1 J] ν up1 z1 (by show s.toks<=s.toks+_;lia))
   ·unfold tooFull at v;rw[xc,Z,sz] at v;erw[ge_iff_le,decide_eq_false_iff_not] at v;rw[Z,sz];unfold Qs;rcases K with⟨e,h⟩ | ⟨e,h⟩ | ⟨e,h⟩ <;> lia
   ·rcases (mem y).mp f with rfl |h
    ·show gX rfl
    ·show gJ h
end
end
section
open PySem PySem.SetTable PyProof.Rows
section
variable{prog:bP}{w:cS}{s:aJ}
def lv.other{S:Addr}(H:lv prog w h S es)(d:∀b o,h.get? b=ψ o->(∃e∈es.toList,e.2 = .ref b)\/b=S->h'.get? b=ψ o):lv prog w h' S es:=by
 obtain⟨⟨i,t,j,r⟩,c,_⟩:=H;show#[#[i,t,d _ _ j (gX rfl),r],λe f=>?_,#[]];let⟨k,b,g,o,a,n,l,m,q,u⟩:=c e f;show#[k,b,g,o,a,n,d b o l (gJ #[e,f,by rw[g]]),m,q,u]
structure kw(prog:bP)(w:cS)(items:Array aF)(key:Nat->List Int)(S:Addr)(i:Nat)(h:Heap):Prop where
 ex:∃es,lv prog w h S es/\(∀y∈es.toList,∃j,j<i/\items[j]?=ψ y.2)/\(∀j,j<i->∃y∈es.toList,∃b,y.2 = .ref b/\IsTupleKey (intKind prog w) h (key j) b)/\es.size<=i
def Vt(hh:A.in1.handled=ξ)(nI:l≠I)(hu:A.in1.units<cLine)(S:Addr)(N_:S≠I)(P:S≠l)
  (hi:∀i v,items[i]?=ψ v->∃a,v = .ref a/\IsTupleKey (intKind prog w) h0 (key i) a/\a≠S/\a≠I) (K:items.size<=76):
  ∀(k i:Nat)(s:aJ),items.size-i=k->i<=items.size->s.heap.IsListIter I l i/\s.heap.IsList l items->kw prog w items key S i s.heap ->
   (∀b o,b≠S->b≠I->h0.get? b=ψ o->s.heap.get? b=ψ o) ->
   (∀h' tk,kw prog w items key S items.size h'->(∀b o,b≠S->b≠I->h0.get? b=ψ o->h'.get? b=ψ o)->R (.ok (.ret .none)) {s with heap:=h',toks:=tk}) ->
   codeAny (model prog w) A (.builtin "set.update.loop" #[[.ref S,.ref I],[]]) R s:=by
 have W:=Walks.list (prog:=prog) (w:=w) (A:=A.in1) hh I l nI items;have L:∀{b:Addr},b≠I->b∉[I]:=λh=> ~~~h
 have pi:∀{h:Heap}{i:Nat}{a:Addr},(∀b o,b≠S->b≠I->h0.get? b=ψ o->h.get? b=ψ o)->IsTupleKey (intKind prog w) h0 (key i) a->a≠S->a≠I->IsTupleKey (intKind prog w) h (key i) a:=by
  intro h i a g Q m d;let⟨o,c,n,C,M,u,E⟩:=Q;show#[o,c,n,g a o m d C,M,u,E]
 have move:∀{h h':Heap}{i:Nat},i<=items.size->kw prog w items key S i h->(∀b o,b≠I->h.get? b=ψ o->h'.get? b=ψ o)->kw prog w items key S i h':=by
  intro h h' i T ⟨es,D,B,U,d3⟩ g;show#[es,D.other λb o e hm=>g b o ?_ e,B,λj N=>?_,d3]
  ·rcases hm with⟨y,f,ey⟩ |rfl
   ·let⟨j,N,z⟩:=B y f;let⟨a,q,_,_,G⟩:=hi j y.2 z;rw[ey] at q;cases q;show G
   ·show N_
  ·let⟨y,f,b,H,o,c,n,C,M,u,E⟩:=U j N;show#[y,f,b,H,o,c,n,g b o ?_ C,M,u,E];let⟨V,sg,z⟩:=B y f;let⟨a,q,_,_,G⟩:=hi V y.2 z;rw[H] at q;cases q;show G
 intro k
 induction k with
 |zero=>
  intro i s Q T st D g X;have Y:i=items.size:=ν
  subst Y;show gF F.entry_set_update_loop ?_;rw[fN F.plain_set_update_loop _];show wpAny _ A.in1 (pyNext (.ref I) >>= _) _ _ s;show aC (W.done s _ _ st λh' tk J=>?_);show wpAny _ A.in1 (ret dO) _ _ _;show aO (X h' tk (move (aS _) D λb o K e=>J b o (L K) e) λb o m d e=>J b o (L d) (g b o m d e))
 |succ k ih=>
  intro i s Q T st D g X;have jj:i<items.size:=ν
  show gF F.entry_set_update_loop ?_;rw[fN F.plain_set_update_loop _];show wpAny _ A.in1 (pyNext (.ref I) >>= _) _ _ s;show aC (W.item i s _ _ jj st λv h' tk hv cn J=>?_);let⟨a,rfl,Z,na1,na2⟩:=hi i v hv;let⟨es,D1,B,U,d3⟩:=move T D (λb o K e=>J b o (L K) e);have vg:∀b o,b≠S->b≠I->h0.get? b=ψ o->h'.get? b=ψ o:=λb o m d e=>J b o (L d) (g b o m d e);show wpAny _ A.in1 (holding [eG a] (setAdd S (.ref a)) >>= _) _ _ _;show aC (gI ?_);show Jp (s:={s with heap:=h',toks:=tk}) hu D1 (pi vg Z na1 na2) ν λ_ M tk2 vv D2 m1 m2 m3 m4 O z2 _=>?_;show aO #[kH F.plain_set_update_loop _,ih (i+1) _ ν jj #[cn.1.at λo e=>O _ o (Ne.symm N_) e,cn.2.at λo e=>O _ o (Ne.symm P) e] ?_ (λb o m d e=>O b o m (vg b o m d e)) λu xt D3 rm=>X u xt D3 rm];show#[vv,D2,λy f=>?_,λj N=>?_,ν]
  ·rcases m1 y f with h |h
   ·let⟨j,N,z⟩:=B y h;show#[j,ν,z]
   ·show#[i,ν,by rw[h];show hv]
  ·by_cases hji:j=i
   ·subst hji;show m3
   ·let⟨y,f,b,H,o,c,n,C,h2',u,E⟩:=U j ν;show#[y,m2 y f,b,H,o,c,n,O b o ?_ C,h2',u,E];let⟨V,sg,z⟩:=B y f;let⟨a',q,_,G,_⟩:=hi V y.2 z;rw[H] at q;cases q;show G
def Fv(a:aF)(h:Q₁ (.ref s.z) {s with heap:=s.heap.push (oX (mt []) 0 (.fresh 0 0 (!oC w)))}):
  codeAny (model prog w) A (.call (.builtin "set.__new__") #[[.type "set",a],[]]) (wants Q₁ E) s:=by
 apply qX;show wpAny _ A.in1 (checkBuiltinCall "set.__new__" #[[.type "set",a],[]] >>= λ_=>again (.builtin "set.__new__" #[[.type "set",a],[]])) _ _ s;apply aC;show kL (PySem.F.newCall_set_1 a) (aO #[kH DM _,gF PySem.F.entry_set_new ?_]);rw[fN DM _];unfold Builtin.«set.__new__» Builtin.Frozenset.newClass;have b:=sub_set_self;let⟨c,g,d,e,os⟩:=s;fail;wp_walk;show qG (aO ?_);fail;erw[newObj];apply aC;show wpAny_alloc (aO ?_);show aO h
def Qe(b:Bool):ji (.fresh 0 0 b) 0:=#[rfl,rfl,dL _,P1,mN]
def IE(l:Addr):Obj:={cls:=.type "list_iterator",data:=.fields (mt [.ref l,.int 0 0])}
def XH(Z:A.handled=ξ)(hu:A.units+8<cLine)(hl:s.heap.IsList l items)
  (hi:∀i v,items[i]?=ψ v->∃a,v = .ref a/\IsTupleKey (intKind prog w) s.heap (key i) a) (hb:items.size<=76)
  (q:∀h' tk,kw prog w items key s.z items.size h'->(∀b o,s.heap.get? b=ψ o->h'.get? b=ψ o)->Q (.ref s.z) {s with heap:=h',toks:=tk}):
  Δ prog w A (call (.type "set") [.ref l]) Q E s:=by
 let⟨c,tl,Y'⟩:=PySem.F.called_set.mro;have X_:=PySem.F.called_set.made;have yw:=PySem.F.called_set.sub;apply KG;apply qX;show wpAny _ _ (callAny (.type "set") _) _ _ _;show aO #[IX _ θ,gF AG ?_];rw[IV (DV "set" [.ref l] []) rfl];have h1:=PySem.F.called_set.notType;have f:=PySem.F.called_set.canCreate;have hct:=PySem.F.typeCall_set_1 (.ref l)
 repeat (any_goals (first |assumption |wp_step))
 show oD (Fv (.ref l) (E:=E) (Q₁:=λh N=>h = .ref s.z/\N = {s with heap:=s.heap.push (oX (mt []) 0 (.fresh 0 0 (!oC w)))}) #[rfl,rfl]) λr N k=>?_
 match r,k with
 | .error e,k=>show k
 | .ok (.ret h),k=>
  let⟨rfl,rfl⟩:=k;have B:(s.heap.push (oX (mt []) 0 (.fresh 0 0 (!oC w)))).get? s.z=ψ (oX (mt []) 0 (.fresh 0 0 (!oC w))):=bQ _ rfl;have H:(s.heap.push (oX (mt []) 0 (.fresh 0 0 (!oC w)))).objs.size=s.z+1:=nD ..;have I:∀b o,s.heap.get? b=ψ o->(s.heap.push (oX (mt []) 0 (.fresh 0 0 (!oC w)))).get? b=ψ o:=λb o e=>aN _ e;have O:zG {s with heap:=s.heap.push (oX (mt []) 0 (.fresh 0 0 (!oC w)))} (.ref s.z) "set":=#[_,B,rfl];have hli:=PySem.F.called_set.init.lookup;have hbi:=PySem.F.called_set.init.bind (.ref s.z)
  repeat (any_goals (first |assumption |wp_step))
  generalize s.heap.push (oX (mt []) 0 (.fresh 0 0 (!oC w)))=f at B H I O;show oD (uU (R:=wants (λr P=>r = .none/\∃h' tk,P = {s with heap:=h',toks:=tk}/\kw prog w items key s.z items.size h'/\(∀b o,s.heap.get? b=ψ o->h'.get? b=ψ o)) E) PySem.F.called_set.init.plain PySem.F.entry_set_init (check_set_init_1 O ?_)) λr₂ P d=>?_
  ·let⟨ol,m,T,nl,n⟩:=hl;let⟨U,J,K,C⟩:=ol;simp only at T n;subst T;subst n;have wb:=I _ _ m;have V:=PySem.F.sub_list_set;have W:=PySem.F.sub_list_frozenset;have nI:(iK "list" == iK "dict")=χ:=μ;have u:f.IsList l items:=#[_,wb,rfl,nl,rfl];have lt:l<s.z:=aZ m;unfold Builtin.«set.__init__» noKeywords Builtin.Frozenset.updateFrom;generalize L:pyIter=PI;unfold oX at B
   wp_walk
   subst L;show yX u ?_;apply aC;apply WW;rw[H];have X:(f.push (IE l)).get? (s.z+1)=ψ (IE l):=(by rw[<-H];show bQ _ rfl);have G:∀b o,f.get? b=ψ o->(f.push (IE l)).get? b=ψ o:=λb o e=>aN _ e;show codeAny _ _ _ _ {s with heap:=f.push (IE l)};generalize f.push (IE l)=h3 at X G;have g:∀{b:Addr}{o:Obj},s.heap.get? b=ψ o->b≠s.z/\b≠s.z+1:=λe=>#[bO (aZ e),bO (pE (aZ e))];show Vt (A:=A.in1.in1) (s:={s with heap:=h3}) (key:=key) (h0:=s.heap) (by simp[Z]) (bO (pE lt)) (by show A.units+3<cLine;lia) s.z (bO (AA _)) (lE lt) (λi v e=>?_) hb items.size 0 (BO _) (dL _) #[#[_,X,rfl,rfl],u.at λo e=>G _ o e] ?_ (λb o _ _ e=>G b o (I b o e)) λh' tk D M=>?_
   ·let⟨a,rfl,Y⟩:=hi i v e;show#[a,rfl,Y,?_];let⟨o,_,_,ho,_⟩:=Y;show g ho
   ·show#[(mt []),#[#[0,_,G _ _ B,Qe _,gJ #[rfl,dL _],rfl,rfl,#[]],(λe he=>by simp at he),#[]],λy hy=>by simp at hy,λj hj=>Ψ hj (qV _),dL _]
   ·show wpAny _ _ _ _ _ _;apply aO;show wpAny _ _ (ret dO) _ _ _;show aO #[rfl,h',tk,rfl,D,λb o e=>M b o (g e).1 (g e).2 e]
  ·match r₂,d with
   | .error e,d=>show d
   | .ok (.ret r),d=>
    let⟨rfl,h',tk,rfl,D,M⟩:=d
    repeat (any_goals (first |assumption |wp_step))
    show q _ _ D M
end
theorem Lw{α:Type}(next:Nat->Nat):∀(fuel k:Nat)(left:ι α)(out:Array α),left.length<=fuel->(ML next fuel k left out).toList.Perm (out.toList++left)
 | 0,k,left,out,h=>by
  have:left=[]:=nR ν;subst this;simp[ML]
 |fuel+1,k,left,out,h=>by
  unfold ML;cases e:left[next k % left.length]? with
  |none=>
   fail;have:left=[]:=by
    cases left with
    |nil=>rfl
    |cons x r=>
     have:=List.getElem?_eq_none_iff.mp e;have:=rM (next k) (show 0<(x::r).length by simp);lia
   subst this;simp
  |some x=>
   fail;have b:next k % left.length<left.length:=(cE.mp e).1;show(Lw next fuel (k+1) (left.eraseIdx (next k % left.length)) (out.push x) (by rw[List.length_eraseIdx_of_lt b];lia)).trans ?_;rw[KH,cL];show gB _ ?_;have c:left[next k % left.length]=x:=(cE.mp e).2;have d:left=left.take (next k % left.length)++x::left.drop (next k % left.length+1):=by
    rw[<-c,<-jT b,iR]
   rw[List.eraseIdx_eq_take_drop_succ]
   conv=>rhs;rw[d]
   rw[oV];show(zY (a:=x)).symm
def Oz{α:Type}(next:Nat->Nat)(xs:Array α):(pickOrder next xs).toList.Perm xs.toList:=by
 have:=Lw next xs.size 0 xs.toList (mt []) η;simpa [pickOrder] using this
def Uc:Manifest.owners.lookup (String.ofList ['r','o','t','a','r','e','t','i','_','t','e','s'].reverse)=ψ Manifest.sig_set_iterator:=by kernel_rfl
def sZ:Slot "set_iterator" "__next__" "set_iterator.__next__" :=
 .of (owner:="set_iterator") (n:="__next__") (by rw[rF,mB];kernel_rfl) θ θ θ (by first |show .inl θ |show .inr θ) (by rw[xE];kernel_rfl)
def IA:entryFor table "set_iterator.__next__" = ψ Builtin.«set_iterator.__next__»:=AO (by kernel_rfl)
def LG(a:aF):argsOk "set_iterator.__next__" ⟨[a],[]⟩:=by
 unfold argsOk;rw[signature?_of (id:="set_iterator.__next__") (n:=['_','_','t','x','e','n','_','_']) (o:=['r','o','t','a','r','e','t','i','_','t','e','s']) (by kernel_rfl) Uc];kernel_rfl
def Aq:entryFor table "set.__iter__" = ψ Builtin.«frozenset.__iter__»:=entryFor_alias (id':="frozenset.__iter__") (by kernel_rfl) rfl θ (by kernel_rfl)
section
variable{w:cS}{s:aJ}
def kU(w:cS)(S:Addr)(ep:Nat)(es:Array (Int×aF)):Array (Int×aF):=if oC w=ζ then pickOrder (w.params.setOrder S ep) es else es
def OX(S:Addr)(ep:Nat)(es:Array (Int×aF)):(kU w S ep es).toList.Perm es.toList:=by
 unfold kU;split
 ·show Oz _ _
 ·show EF _
def slotAt(w:cS)(t:SetTable)(k:Nat):Nat:=if oC w=ζ then 0 else wG t k
def zP(w:cS)(S:Addr)(n ep:Nat)(t:SetTable)(k:Nat):Obj:={cls:=.type "set_iterator",data:=.fields (mt [rawInt (slotAt w t k),rawInt k,.ref S,rawInt n,rawInt ep])}
def Fw{S:Addr}{t:SetTable}(d:s.heap.get? S=ψ (oX es ep t))(T:ji t es.size)(g:t.led = !oC w)(h:t.plain=ζ)(i:k<=es.size)
  (q:Q ((kU w S ep es)[k]?.map λe=>(e.2,slotAt w t (k+1))) s):Δ prog w A (setNext S (slotAt w t k) k ep) Q E s:=by
 unfold setNext;apply aC;show jP d rfl T.fits ?_;unfold setsByText;apply aC;apply aC;show qG (aO ?_);show wpAny _ _ (if oC w=ζ then _ else _) _ _ _;by_cases a:oC w=ζ
 ·rw[Ω a,υ η];apply aC;unfold setWalk;apply aC;show jP d rfl T.fits ?_;unfold setsByText;apply aC;apply aC;show qG (aO ?_);show wpAny _ _ (if oC w=ζ then _ else _) _ _ _;rw[Ω a];apply aC;show qG (aO (aO ?_));unfold kU slotAt at q;erw[Ω a] at q;unfold slotAt;erw[Ω a];show q
 ·have c:oC w=χ:= ~~~a
  rw[υ a];show wpAny _ _ (if(!t.plain && decide (es.size > 1))=ζ then _ else _) _ _ _;rw[h];erw[dD,wQ,aR,if_false];show wpAny _ _ ((if(!t.led && !es.isEmpty)=ζ then unsupported "set:maker-not-led" else pure ()) >>= _) _ _ _;rw[g,c];erw[pI,dD,wQ,aR,if_false];apply aC;apply aO;apply aO;have j:=Ir T i;unfold kU slotAt at q;erw[υ a] at q;unfold slotAt;erw[υ a];rw[j];by_cases f:k<es.size
  ·have b:es[k]?=ψ es[k]:=cD f;have l:t.place[k]?=ψ (t.place.getD k 0):=by
    have:k<t.place.size:=(by rw[T.size];show f);rw[cD this];simp[fR,this]
   rw[b] at q;rw[b,l];have m:wG t (k+1)=t.place.getD k 0+1:=(by unfold wG;rw[υ ν];simp);rw[m] at q;show q
  ·have b:es[k]?=ξ:=sD ν;rw[b] at q;rw[b];show q
def GH{c:aF}(a:s.heap.get? I=ψ {cls:=c,dict:=d,data:=.fields vs,slots:=sl})(hi:i<vs.size)
  (q:∀h',h'.get? I=ψ {cls:=c,dict:=d,data:=.fields (vs.setIfInBounds i x),slots:=sl}->qA I s.heap h'->Q () {s with heap:=h'}):Δ prog w A (setField (.ref I) i x) Q E s:=by
 show GM a rfl hi (q _ ?_ (kW ..));have:=gR (HY λvs=>vs.setIfInBounds i x) a rfl;rw[this];rfl
structure pd(w:cS)(S I:Addr)(es:Array (Int×aF))(ep:Nat)(t:SetTable)(k:Nat)(h:Heap):Prop where
 set:h.get? S=ψ (oX es ep t)
 it:h.get? I=ψ (zP w S es.size ep t k)
def Om{S I:Addr}{t:SetTable}(D:pd w S I es ep t k s.heap)(ne:S≠I)(T:ji t es.size)(f:t.led = !oC w)(g:t.plain=ζ)(h:k<es.size)(i:(kU w S ep es)[k]?=ψ x)
  (q:∀h',pd w S I es ep t (k+1) h'->qA I s.heap h'->Q (ψ x.2) {s with heap:=h'}):Δ prog w A (pyNext (.ref I)) Q E s:=by
 have b:s.TypeIs (.ref I) "set_iterator":=#[_,D.it,rfl];unfold pyNext;apply aC;apply qS;show kQ (name:=gW "__next__") b sZ (iG sZ b IA ?_ (LG _));unfold Builtin.«set_iterator.__next__»;apply aC;show kL (a:=(eG I,[])) rfl ?_;apply aC;show xU D.it rfl ?_;dsimp only[rawInt];apply aC;show vV D.set rfl T.fits ?_;rw[υ η];apply aC;show wpAny _ _ (setNext S ((slotAt w t k:Nat):Int).toNat ((k:Nat):Int).toNat ((ep:Nat):Int).toNat) _ _ _;erw[gU];show Fw D.set T f g (kF h) ?_;rw[i];dsimp only[TJ];have c:=D.it;unfold zP at c;apply aC;show GH c η λj l d=>?_;apply aC;show GH (s:={s with heap:=j}) l η λm n e=>?_;show aO #[x.2,rfl,aO (q m #[?_,?_] (d.trans e))]
 ·rw[e.2 S ne,d.2 S ne];show D.set
 ·rw[n];rfl
def Tw{S I:Addr}{t:SetTable}(c:A.handled=ξ)(D:pd w S I es ep t es.size s.heap)(ne:S≠I)(T:ji t es.size)(f:t.led = !oC w)(g:t.plain=ζ)
  (q:∀h',Heap.ExtBut I s.heap h'->Q ξ {s with heap:=h'}):Δ prog w A (pyNext (.ref I)) Q E s:=by
 have d:s.TypeIs (.ref I) "set_iterator":=#[_,D.it,rfl];have h:(kU w S ep es)[es.size]?=ξ:=by
  apply sD;rw[<-bX,(OX S ep es).length_eq,bX];show aS _
 unfold pyNext;apply aC;apply qS;show kQ (name:=gW "__next__") d sZ (iG sZ d IA ?_ (LG _));unfold Builtin.«set_iterator.__next__»;apply aC;show kL (a:=(eG I,[])) rfl ?_;apply aC;show xU D.it rfl ?_;dsimp only[rawInt];apply aC;show vV D.set rfl T.fits ?_;rw[υ η];apply aC;show wpAny _ _ (setNext S ((slotAt w t es.size:Nat):Int).toNat ((es.size:Nat):Int).toNat ((ep:Nat):Int).toNat) _ _ _;erw[gU];show Fw D.set T f g (aS _) ?_;rw[h];dsimp only[TJ];have e:=D.it;unfold zP at e;apply aC;show GH e η λj k i=>?_;show wpAny _ _ (newExc (.type "StopIteration") [] >>= _) _ _ _;apply aC;erw[newExc,newTuple];apply aC;show fQ ?_ (by size_fits);show aC (m:=firstArgMember _ _) ?_;show kL (a:=dO) (by first |rfl | (erw[firstArgMember];rfl)) ?_;show fQ ?_ (by size_fits);erw[raiseNew];apply aC;apply XV
 first |rw[show A.in1.handled=ξ from c] |rw[c]
 show aC (aO (wpAny_throw ?_));apply aC;show uG (T:="StopIteration") (b:=ζ) #[_,bQ _ rfl,rfl] UU ?_;show aO (q _ ((i.extBut.push _).push _))
def Tf{S:Addr}{t:SetTable}(b:s.heap.get? S=ψ (oX es ep t))(T:ji t es.size)(d:t.plain=ζ)
  (q:Q (.ref s.z) {s with heap:=s.heap.push (zP w S es.size ep t 0)}):Δ prog w A (pyIter (.ref S)) Q E s:=by
 have c:s.TypeIs (.ref S) "set":=#[_,b,rfl];show MX c F.slot_set_iter (iG F.slot_set_iter c Aq ?_ (F.args_set_iter_1 _));unfold Builtin.«frozenset.__iter__» Builtin.Frozenset.slot0 Builtin.Frozenset.sizeOf;apply aC;show kL (a:=S) rfl ?_;apply aC;apply aC;show vV b rfl T.fits (aO ?_);apply aC;unfold setDrawn;apply aC;show jP b rfl T.fits ?_;unfold setsByText;apply aC;apply aC;show qG (aO (aO ?_));have e:(!(model prog w).w.params.followText "set-order" && (!t.plain && decide (es.size > 1)))=χ:=by rw[d];simp
 show wpAny _ _ (if(!(model prog w).w.params.followText "set-order" && (!t.plain && decide (es.size > 1)))=ζ then _ else _) _ _ _;rw[e];erw[aR,if_false];apply aC;apply aO;apply aC;show wpAny_setEpoch_of b rfl T.fits ?_;apply aC;unfold newFields;show fQ ?_;have f:slotAt w t 0=0:=by unfold slotAt wG;split <;> rfl
 show aO #[_,rfl,"set_iterator",_,#[_,bQ _ rfl,rfl],sZ.lookup,?_];unfold zP at q;rw[f] at q;show q
end
section
variable{s:aJ}
def Vs{S:Addr}(a:s.TypeIs (.ref S) "set")(q:Q χ s):Δ prog w A (lA (.ref S)) Q E s:=by
 unfold lA;apply aC;show oQ a F.slot_set_len.lookup ?_;fail;have e:splitId "set.__len__" = ψ ("set","__len__"):=θ
 rw[e];fail;apply aC;show uG (b:=ζ) a sub_set_self ?_;erw[dD,aR,if_false];have d:∀(c:Bool)(X Y:Sem Bool),c=ζ->Δ prog w A X Q E s->Δ prog w A (if c=ζ then X else Y) Q E s:=λc X Y f h=>by rw[Ω f];show h
 show d _ _ _ θ ?_;apply aC;show wH a ?_;show aO q
def Ft{S I:Addr}{t:SetTable}(D:pd w S I es ep t k h)(a:∀b o,b=S\/b=I->h.get? b=ψ o->h'.get? b=ψ o):pd w S I es ep t k h':=
 #[a _ _ (gJ rfl) D.set,a _ _ (gX rfl) D.it]
def Cr{S:Addr}{t:SetTable}(hh:A.handled=ξ)(L:s.heap.get? S=ψ (oX es ep t))(T:ji t es.size)(hl:t.led = !oC w)(W:t.plain=ζ)(hz:es.size<=100)
  (q:∀h',(∀b o,s.heap.get? b=ψ o->h'.get? b=ψ o)->s.z<=h'.objs.size->Q ((kU w S ep es).toList.map (·.2)) {s with heap:=h'}):Δ prog w A (collect (.ref S)) Q E s:=by
 have m:S<s.z:=aZ L;have wl:(kU w S ep es).size=es.size:=by rw[<-bX,(OX S ep es).length_eq,bX]
 unfold collect;apply aC;apply WW;show gF F.entry_proto_collect ?_;rw[fN F.plain_proto_collect _];show wpAny _ A.in1 (newList [] >>= λl=>again (.builtin "list.__iadd__" #[[l,.ref S],[]])) _ _ s;apply aC;show fQ ?_;show aO #[kH F.plain_list_iadd _,gF F.entry_list_iadd ?_];rw[fN F.plain_list_iadd _];show wpAny _ A.in1 (jC (.ref s.z) (.ref S) (.ref s.z)) _ _ {s with heap:=s.heap.push {cls:=.type "list",data:=.seq ([]:ι aF).toArray}};have Z:(s.heap.push {cls:=.type "list",data:=.seq ([]:ι aF).toArray}).objs.size=s.z+1:=nD ..;have hL:(s.heap.push {cls:=.type "list",data:=.seq ([]:ι aF).toArray}).get? s.z=ψ {cls:=.type "list",data:=.seq ([]:ι aF).toArray}:=bQ _ rfl;have u:∀b o,s.heap.get? b=ψ o->(s.heap.push {cls:=.type "list",data:=.seq ([]:ι aF).toArray}).get? b=ψ o:=λb o e=>aN _ e;generalize s.heap.push {cls:=.type "list",data:=.seq ([]:ι aF).toArray} = h1 at Z hL u;have ty:∀{h:Heap}{g d t os},(∀b o,s.heap.get? b=ψ o->h.get? b=ψ o)->zG ⟨h,g,d,t,os⟩ (.ref S) "set":=λM=>#[_,M _ _ L,rfl];unfold jC;apply aC;show wH (T:="set") (ty u) ?_;have g1:mS (.ref s.z) (.ref S)=χ:=by simp[mS,lE m]
 have g2:(iK "set" == iK "list")=χ:=μ
 have g3:(iK "set" == iK "tuple")=χ:=μ
 erw[g1,g2,g3,HV,aR,if_false];apply aC;show Tf (s:={s with heap:=h1}) (u _ _ L) T W ?_;show wpAny _ _ _ _ _ {s with heap:=h1.push (zP w S es.size ep t 0)};have hI:(h1.push (zP w S es.size ep t 0)).get? (s.z+1)=ψ (zP w S es.size ep t 0):=by rw[<-Z];show bQ _ rfl
 have B:∀b o,h1.get? b=ψ o->(h1.push (zP w S es.size ep t 0)).get? b=ψ o:=λb o e=>aN _ e;rw[show Shared.z {s with heap:=h1}=_ from Z];generalize h1.push (zP w S es.size ep t 0)=h2 at hI B;apply aC;apply gI;show Vs (ty λb o e=>B b o (u b o e)) ?_;have key:∀(c:Bool)(X Y:Sem Fin){N:Fin->aJ->Prop}{O:aF->aJ->Prop}{P:aJ},c=ζ->Δ prog w A.in1 X N O P->Δ prog w A.in1 (if c=ζ then X else Y) N O P:=λc X Y _ _ _ hc h=>by rw[Ω hc];show h
 show key _ _ _ θ ?_;have C:=B _ _ hL;apply aC;apply rS;apply aC;show wpAny _ _ (updateSeq s.z (·.push .none) >>= λ_=>updateSeq s.z (·.pop)) _ _ _;apply aC;show rG C rfl ?_;have D:=gR (fA (·.push dO)) C rfl;show rG (hz:=by seq_fits) D rfl ?_;have G:=gR (fA (·.pop)) D rfl;have f:∀b o,b≠s.z->h2.get? b=ψ o->((h2.update s.z (fA (·.push dO))).update s.z (fA (·.pop))).get? b=ψ o:=
  λb o R e=>(eD _ _ (Ne.symm R)).trans ((eD _ _ (Ne.symm R)).trans e)
 generalize (h2.update s.z (fA (·.push dO))).update s.z (fA (·.pop))=h4 at G f;apply aO;show#[kH jU _,?_];have j:S≠s.z+1:=bO (pE m);have H:S≠s.z:=bO m;have U:s.z+1≠s.z:=NR _;have i:∀{b:Addr}{o:Obj},s.heap.get? b=ψ o->b≠s.z/\b≠s.z+1:=λe=>#[bO (aZ e),bO (pE (aZ e))];show Dp (A:=A) (s0:=s) (n:=es.size) (J:=λa h=>pd w S (s.z+1) es ep t a.length h/\a=((kU w S ep es).toList.map (·.2)).take a.length/\∀b o,s.heap.get? b=ψ o->h.get? b=ψ o)
  (F:=λa h=>a=(kU w S ep es).toList.map (·.2)/\∀b o,s.heap.get? b=ψ o->h.get? b=ψ o) (.ref s.z) (by rw[fK];lia) ?_ ?_ ?_ (λh' a c hsz hF u_=>?_) es.size (mt []) h4 _ rfl (dL _) ?_ G
 ·rintro a h h' ⟨v,y,I⟩ V hz M;show#[Ft v λb o R e=>M b o ?_ e,y,λb o e=>M b o (i e).1 (I b o e)];rcases R with rfl |rfl
  ·show H
  ·show U
 ·rintro a P o N O jj ⟨v,y,I⟩ V k;have hw:a.length<(kU w S ep es).size:=ν
  show Om v j T hl W jj (cD hw) λh' D' sb=>k _ h' #[~~~D',?_,λb o e=>?_] ?_
  ·rw[aU,jW,hX,<-y];simp[hw]
  ·rw[sb.2 b (i e).2];show I b o e
  ·rw[sb.2 _ (Ne.symm U)];show V
 ·rintro a P o N O K ⟨v,y,I⟩ V k;rw[K] at v y;show Tw (A:=A.in1) (by simp[hh]) v j T hl W λh' eb=>k h' #[?_,λb o e=>eb b o (i e).2 (I b o e)] (eb _ _ (Ne.symm U) V);rw[y,eF];simp[wl]
 ·show wpAny _ A (load s.z >>= _) _ _ _;apply aC;show wpAny_load u_ ?_;show aO ?_;rw[hF.1];show q h' hF.2 (kF (aZ u_))
 ·show#[#[f _ _ H (B _ _ (u _ _ L)),f _ _ U hI],rfl,λb o e=>f b o (i e).1 (B b o (u b o e))]
end
end
section
open PySem PySem.W PyProof.Rows
def jB{α:Type}(lt:Nat->Nat->Bool):KasT α->α
 | .ret a=>a
 | .ask i j k=>jB lt (k (lt i j))
theorem wI{α β:Type}{lt:Nat->Nat->Bool}{f:α->KasT β}:∀t:KasT α,jB lt (t.bind f)=jB lt (f (jB lt t))
 | .ret _=>rfl
 | .ask i j k=>wI (k (lt i j))
def kIn{α:Type}(lt:Nat->Nat->Bool)(n:Nat):KasT α->Prop
 | .ret _=>True
 | .ask i j k=>i<n/\j<n/\kIn lt n (k (lt i j))
theorem pW{α β:Type}{lt:Nat->Nat->Bool}{f:α->KasT β}:∀t:KasT α,kIn lt n t->kIn lt n (f (jB lt t))->kIn lt n (t.bind f)
 | .ret _,_,h=>h
 | .ask i j k,⟨a,b,c⟩,h=>#[a,b,pW (k (lt i j)) c h]
theorem UY{α:Type}{lt:Nat->Nat->Bool}{s:aJ}{Q:α->aJ->Prop}(a:∀i j (C:Bool->aJ->Prop),i<n->j<n->C (lt i j) s->cmp i j C s):
  ∀t:KasT α,kIn lt n t->Q (jB lt t) s->t.kasWp cmp Q s
 | .ret _,_,h=>h
 | .ask i j k,⟨b,c,d⟩,h=>a i j _ b c (UY a (k (lt i j)) d h)
section
variable{O:KeyOrd}{key:Nat->O.α}{N:Nat}
def iw(O:KeyOrd)(key:Nat->O.α)(i j:Nat):Bool:=O.blt (key i) (key j)
def kk(O:KeyOrd)(key:Nat->O.α)(p:Array Nat)(i:Nat):O.α:=key (p.getD i 0)
def Up(O:KeyOrd)(key:Nat->O.α)(p:Array Nat)(n:Nat):Prop:=∀i j,i<=j->j<n->O.kle (kk O key p i) (kk O key p j)
def Dn(O:KeyOrd)(key:Nat->O.α)(p:Array Nat)(n:Nat):Prop:=∀i j,i<=j->j<n->O.kle (kk O key p j) (kk O key p i)
def Lo(p:Array Nat)(N:Nat):Prop:=∀i,p.getD i 0<N
def BZ(h:p.Perm q)(b:Lo q N):Lo p N:=by
 intro i;by_cases a:i<p.size
 ·have m:p[i]∈p:=Array.getElem_mem a;have d:p[i]∈q:=h.mem_iff.mp m;let⟨j,f,e⟩:=Array.getElem_of_mem d;have:=b j;simp[fR,f] at this;simp[fR,a];rw[<-e];show this
 ·have c:=b q.size;simp[fR] at c;simp[fR,a];show c
def FB(h:p[i]?=q[j]?):kk O key p i=kk O key q j:=by
 unfold kk;rw[eK,eK,h]
def Ij(b:j<=p.size)(k:Nat):kk O key (GX p i j) k=if i<=k/\k<j then kk O key p (i+j-1-k) else kk O key p k:=by
 have e:=HQ (i:=i) b k;unfold GX;by_cases a:i<=k/\k<j
 ·rw[Ω a] at e⊢;show FB e
 ·rw[υ a] at e⊢;show FB e
def OC(a:j<=p.size)(h:∀k,i<=k->k<j->kk O key p k=kk O key p (j-1))(k:Nat):kk O key (GX p i j) k=kk O key p k:=by
 rw[Ij a];split
 ·rw[h _ ν ν,h k ν ν]
 ·rfl
def Of(c:src<p.size)(f:d<=src)(k:Nat):
  kk O key (bubble p src d) k=if k=src-d then kk O key p src else if src-d<k/\k<=src then kk O key p (k-1) else kk O key p k:=by
 have e:=RB c d f k;by_cases a:k=src-d
 ·rw[Ω a] at e⊢;show FB e
 ·rw[υ a] at e⊢;by_cases b:src-d<k/\k<=src
  ·rw[Ω b] at e⊢;show FB e
  ·rw[υ b] at e⊢;show FB e
def GF(p:Array Nat)(i j:Nat):(GX p i j).Perm p:=yH _ _ _ _
def Zv(f:1<=n)(h:Up O key p n)(b:O.kle (kk O key p (n-1)) (kk O key p n)):Up O key p (n+1):=by
 intro i j c g;by_cases a:j<n
 ·show h i j c a
 ·have d:j=n:=ν
  subst d;by_cases e:i=j
  ·subst e;show fI _
  ·show cU (h i (j-1) ν ν) b
def Ap(f:1<=n)(h:Dn O key p n)(b:O.kle (kk O key p n) (kk O key p (n-1))):Dn O key p (n+1):=by
 intro i j c g;by_cases a:j<n
 ·show h i j c a
 ·have d:j=n:=ν
  subst d;by_cases e:i=j
  ·subst e;show fI _
  ·show cU b (h i (j-1) ν ν)
theorem Hm(lo:Lo p N):∀(f n:Nat),1<=n->Up O key p n->kIn (iw O key) N (yG p f n)/\n<=jB (iw O key) (yG p f n)/\jB (iw O key) (yG p f n)<=n+f/\Up O key p (jB (iw O key) (yG p f n)) /\
  (jB (iw O key) (yG p f n)=n+f\/O.klt (kk O key p (jB (iw O key) (yG p f n))) (kk O key p (jB (iw O key) (yG p f n)-1)))
 | 0,n,_,h=>#[trivial,aS _,aS _,h,gJ rfl]
 |f+1,n,a,h=>by
  erw[yG,jB,kIn];cases hb:iw O key (p.getD n 0) (p.getD (n-1) 0) with
  |true=>
   erw[if_true];show#[#[lo _,lo _,trivial],aS _,by erw[jB];lia,h,gX hb]
  |false=>
   erw[aR,if_false];let⟨b,g,i,c,d⟩:=Hm lo f (n+1) ν (Zv a h hb);show#[#[lo _,lo _,b],ν,ν,c,?_];rcases d with e |e
   ·show gJ ν
   ·show gX e
def Ga(lo:Lo p N)(a:1<=n)(e:n<=nrem)(hz:nrem<=p.size)(h:Dn O key p n):
  kIn (iw O key) N (wJ n nrem p)/\1<=(jB (iw O key) (wJ n nrem p)).1/\(jB (iw O key) (wJ n nrem p)).1<=nrem/\(jB (iw O key) (wJ n nrem p)).2.Perm p/\Up O key (jB (iw O key) (wJ n nrem p)).2 (jB (iw O key) (wJ n nrem p)).1:=by
 unfold wJ;have b:Up O key (GX p 0 n) n:=by
  intro i j f g;rw[Ij ν,Ij ν,Ω ν,Ω ν];show h _ _ ν ν
 let⟨c,k,l,d,_⟩:=Hm (BZ (GF p 0 n) lo) (nrem-n) n a b;rw[wI];show#[pW _ c trivial,?_,?_,GF p 0 n,d]
 ·show 1<=_;erw[jB];lia
 ·erw[jB];lia
theorem SH:∀(f:Nat)(p:Array Nat)(n q:Nat),Lo p N->1<=n->n+f<=p.size->Dn O key p n->q+1<=n->(∀i,n-(q+1)<=i->i<n->kk O key p i=kk O key p (n-1)) ->
  kIn (iw O key) N (lT f p n q)/\(jB (iw O key) (lT f p n q)).1.Perm p/\n<=(jB (iw O key) (lT f p n q)).2.1/\(jB (iw O key) (lT f p n q)).2.1<=n+f /\
  Dn O key (jB (iw O key) (lT f p n q)).1 (jB (iw O key) (lT f p n q)).2.1/\(jB (iw O key) (lT f p n q)).2.2+1<=(jB (iw O key) (lT f p n q)).2.1 /\
  (∀i,(jB (iw O key) (lT f p n q)).2.1-((jB (iw O key) (lT f p n q)).2.2+1)<=i->i<(jB (iw O key) (lT f p n q)).2.1->kk O key (jB (iw O key) (lT f p n q)).1 i=kk O key (jB (iw O key) (lT f p n q)).1 ((jB (iw O key) (lT f p n q)).2.1-1))
 | 0,p,n,q,lo,o,A,h,s,c=>#[trivial,oG _,aS _,aS _,h,s,c]
 |f+1,p,n,q,lo,o,A,h,s,c=>by
  erw[lT,jB,kIn];cases hb:iw O key (p.getD n 0) (p.getD (n-1) 0) with
  |true=>
   erw[if_true];by_cases v:q > 0
   ·erw[Ω v];have w:=OC (O:=O) (key:=key) (p:=p) (i:=n-(q+1)) (j:=n) ν c;have u:=GF p (n-(q+1)) n;have B:Dn O key (GX p (n-(q+1)) n) (n+1):=by
     have C:=Ap o h (dX hb);intro i j D E;rw[w,w];show C i j D E
    let⟨d,g,y,z,k,l,m⟩:=SH f (GX p (n-(q+1)) n) (n+1) 0 (BZ u lo) ν (by rw[u.size_eq];lia) B ν (λi a b=>by congr 1;lia);show#[#[lo _,lo _,d],g.trans u,ν,ν,k,l,m]
   ·erw[υ v];let⟨d,g,y,z,k,l,m⟩:=SH f p (n+1) 0 lo ν ν (Ap o h (dX hb)) ν (λi a b=>by congr 1;lia);show#[#[lo _,lo _,d],g,ν,ν,k,l,m]
  |false=>
   erw[aR,if_false,jB,kIn];cases hc:iw O key (p.getD (n-1) 0) (p.getD n 0) with
   |true=>
    erw[if_true];show#[#[lo _,lo _,lo _,lo _,trivial],oG _,aS _,by erw[jB];lia,h,s,c]
   |false=>
    erw[aR,if_false];have e:kk O key p n=kk O key p (n-1):=vR hc hb;let⟨d,g,y,z,k,l,m⟩:=SH f p (n+1) (q+1) lo ν ν (Ap o h (by rw[e];show fI _)) ν (λi a b=>by
     rw[show n+1-1=n by lia];by_cases F:i=n
     ·subst F;rfl
     ·rw[e];show c i ν ν)
    show#[#[lo _,lo _,lo _,lo _,d],g,ν,ν,k,l,m]
def PN(lo:Lo p N)(s:n+1<=nrem)(hz:nrem<=p.size)(h:Dn O key p (n+1)):
  kIn (iw O key) N (qD n nrem p)/\1<=(jB (iw O key) (qD n nrem p)).1/\(jB (iw O key) (qD n nrem p)).1<=nrem/\(jB (iw O key) (qD n nrem p)).2.Perm p/\Up O key (jB (iw O key) (qD n nrem p)).2 (jB (iw O key) (qD n nrem p)).1:=by
 unfold qD;let⟨f,c,u,v,g,w,m⟩:=SH (N:=N) (nrem-(n+1)) p (n+1) 0 lo ν ν h ν (λi a b=>by congr 1;lia);rw[wI];generalize k:jB (iw O key) (lT (nrem-(n+1)) p (n+1) 0)=r at *;by_cases d:r.2.2 > 0
 ·have sz:r.1.size=p.size:=c.size_eq;have l:=OC (O:=O) (key:=key) (p:=r.1) (i:=r.2.1-(r.2.2+1)) (j:=r.2.1) ν m;have e:=(GF r.1 (r.2.1-(r.2.2+1)) r.2.1).trans c;have t:=Ga (O:=O) (key:=key) (N:=N) (BZ e lo) (n:=r.2.1) (nrem:=nrem) ν ν (by rw[e.size_eq];lia) (λi j o q=>by rw[l,l];show g i j o q);rw[Ω d];show#[pW _ f ?_,t.2.1,t.2.2.1,t.2.2.2.1.trans e,t.2.2.2.2];rw[k,Ω d];show t.1
 ·have t:=Ga (O:=O) (key:=key) (N:=N) (BZ c lo) (n:=r.2.1) (nrem:=nrem) ν ν (by rw[c.size_eq];lia) g;rw[υ d];show#[pW _ f ?_,t.2.1,t.2.2.1,t.2.2.2.1.trans c,t.2.2.2.2];rw[k,υ d];show t.1
def Ro(lo:Lo p N)(C:1<=nrem)(hz:nrem<=p.size):
  kIn (iw O key) N (uC nrem p)/\1<=(jB (iw O key) (uC nrem p)).1/\(jB (iw O key) (uC nrem p)).1<=nrem/\(jB (iw O key) (uC nrem p)).2.Perm p/\Up O key (jB (iw O key) (uC nrem p)).2 (jB (iw O key) (uC nrem p)).1:=by
 unfold uC;let⟨c,u,D,d,v⟩:=Hm (O:=O) (key:=key) lo (nrem-1) 1 (aS _) (λi j o q=>by have:i=j:=ν;subst this;show fI _);rw[wI];generalize e:jB (iw O key) (yG p (nrem-1) 1)=n at *;by_cases a:n=nrem
 ·rw[Ω (~~~a)];show#[pW _ c (by rw[e,Ω (~~~a)];trivial),u,by show n<=nrem;lia,oG _,d]
 ·rw[υ (~~~a)];have s:O.klt (kk O key p n) (kk O key p (n-1)):=v.resolve_left ν;by_cases b:n > 1
  ·rw[Ω b];erw[jB];cases hb:iw O key (p.getD 0 0) (p.getD (n-1) 0) with
   |true=>
    erw[if_true];show#[pW _ c (by rw[e,υ (~~~a),Ω b];show#[lo _,lo _,by rw[hb];trivial]),by show 1<=n;lia,by show n<=nrem;lia,oG _,d]
   |false=>
    erw[aR,if_false];have f:∀k,0<=k->k<n->kk O key p k=kk O key p (n-1):=by
     intro k _ g;have w:=d 0 k ν g;have y:=d k (n-1) ν ν;show vR y (cU hb w)
    have g:=OC (O:=O) (key:=key) (p:=p) (i:=0) (j:=n) ν f;have h:=GF p 0 n;have t:=PN (O:=O) (key:=key) (N:=N) (BZ h lo) (n:=n) (nrem:=nrem) ν (by rw[h.size_eq];lia) (λi j o q=>by
     rw[g,g];by_cases l:j<n
     ·rw[f i ν ν,f j ν l];show fI _
     ·have z:j=n:=ν;subst z;by_cases m:i=j
      ·subst m;show fI _
      ·rw[f i ν ν];show dX s)
    show#[pW _ c (by rw[e,υ (~~~a),Ω b];show#[lo _,lo _,by rw[hb];show t.1]),t.2.1,t.2.2.1,t.2.2.2.1.trans h,t.2.2.2.2]
  ·rw[υ b];have E:n=1:=ν;have t:=PN (O:=O) (key:=key) (N:=N) lo (n:=n) (nrem:=nrem) ν hz (λi j o q=>by
    by_cases m:i=j
    ·subst m;show fI _
    ·have A:i=n-1:=ν;have B:j=n:=ν;rw[A,B];show dX s)
   show#[pW _ c (by rw[e,υ (~~~a),υ b];show t.1),t.2]
theorem VY(lo:Lo p N)(d:Up O key p k):∀(f l r:Nat),l<=r->r<=k->r-l<=f->(∀i,i<l->O.kle (kk O key p i) (kk O key p k))->(∀i,r<=i->i<k->O.klt (kk O key p k) (kk O key p i)) ->
  kIn (iw O key) N (AS p k f l r)/\jB (iw O key) (AS p k f l r)<=k/\(∀i,i<jB (iw O key) (AS p k f l r)->O.kle (kk O key p i) (kk O key p k))/\(∀i,jB (iw O key) (AS p k f l r)<=i->i<k->O.klt (kk O key p k) (kk O key p i))
 | 0,l,r,e,c,j,a,b=>by
  have:l=r:=ν
  subst this;show#[trivial,c,a,b]
 |f+1,l,r,e,c,j,a,b=>by
  erw[AS];by_cases g:l ≥ r
  ·have:l=r:=ν;subst this;rw[Ω g];show#[trivial,c,a,b]
  ·rw[υ g];erw[jB,kIn];cases hb:iw O key (p.getD k 0) (p.getD ((l+r) / 2) 0) with
   |true=>
    erw[if_true];have t:=VY lo d f l ((l+r) / 2) ν ν ν a (λi h m=>KeyOrd.klt_of_klt_of_kle hb (d _ _ h m));show#[#[lo _,lo _,t.1],t.2]
   |false=>
    erw[aR,if_false];have t:=VY lo d f ((l+r) / 2+1) r ν c ν (λi h=>cU (d i ((l+r) / 2) ν ν) hb) b;show#[#[lo _,lo _,t.1],t.2]
theorem Rh:∀(f:Nat)(p:Array Nat)(k:Nat),Lo p N->k+f<=p.size->Up O key p k->kIn (iw O key) N (Ax f p k)/\(jB (iw O key) (Ax f p k)).Perm p/\Up O key (jB (iw O key) (Ax f p k)) (k+f)
 | 0,p,k,lo,n,h=>#[trivial,oG _,h]
 |f+1,p,k,lo,n,h=>by
  erw[Ax];let⟨o,C,q,s⟩:=VY lo h k 0 k ν ν ν (λi u=>Ψ u ν) (λi D v=>Ψ v ν);rw[wI];generalize w:jB (iw O key) (AS p k k 0 k)=l at *;have b:=bubble_perm p k (k-l);have c:=λi=>Of (O:=O) (key:=key) (p:=p) (src:=k) (d:=k-l) ν ν i;have y:Up O key (bubble p k (k-l)) (k+1):=by
   intro i j E F;rw[c,c,show k-(k-l)=l by lia];by_cases e:i=l
   ·rw[Ω e];by_cases a:j=l
    ·rw[Ω a];show fI _
    ·rw[υ a,Ω ν];show dX (s _ ν ν)
   ·rw[υ e];by_cases a:j=l
    ·rw[Ω a,υ ν];show q _ ν
    ·rw[υ a];by_cases g:l<i/\i<=k
     ·rw[Ω g,Ω ν];show h _ _ ν ν
     ·rw[υ g];by_cases m:l<j/\j<=k
      ·rw[Ω m];show h _ _ ν ν
      ·rw[υ m];show h _ _ ν ν
  let⟨z,A,B⟩:=Rh f (bubble p k (k-l)) (k+1) (BZ b lo) (by rw[b.size_eq];lia) y;show#[pW _ o (by rw[w];show z),A.trans b,?_];rw[show k+(f+1)=k+1+f by lia];show B
def Zo(f:1<=n):kIn (iw O key) n (EZ n)/\(jB (iw O key) (EZ n)).Perm (jK (bT n))/\Up O key (jB (iw O key) (EZ n)) n:=by
 have lo:Lo (jK (bT n)) n:=by
  intro i;by_cases b:i<n
  ·simp[fR,b]
  ·simp[fR,b];lia
 unfold EZ;let⟨c,g,j,a,d⟩:=Ro (O:=O) (key:=key) lo (nrem:=n) f η;rw[wI];generalize e:jB (iw O key) (uC n (jK (bT n)))=r at *;have sz:r.2.size=n:=by rw[a.size_eq];simp
 by_cases h:r.1<n
 ·have t:=Rh (O:=O) (key:=key) (N:=n) (n-max r.1 1) r.2 (max r.1 1) (BZ a lo) ν (by rw[show max r.1 1=r.1 by lia];show d);rw[Ω h];show#[pW _ c (by rw[e,Ω h];show t.1),t.2.1.trans a,?_];have:=t.2.2
  rwa [show max r.1 1+(n-max r.1 1)=n by lia] at this
 ·rw[υ h];show#[pW _ c (by rw[e,υ h];trivial),a,?_];rw[show n=r.1 by lia];show d
end
end
section
open PySem PySem.W PySem.SetTable PyProof.Rows
def jF:ι Int->ι Int->Bool
 | [],[]=>χ
 | [],_::_=>ζ
 |_::_,[]=>χ
 |a::c,b::bs=>if a=b then jF c bs else decide (a<b)
theorem Ea:∀a,jF a a=χ
 | []=>rfl
 |a::b=>by erw[jF,if_true];show Ea b
theorem JT:∀a b c,jF a b=ζ->jF b c=ζ->jF a c=ζ
 | [],[],c,h,_=>by simp[jF] at h
 | [],_::_,[],_,h=>by simp[jF] at h
 | [],_::_,_::_,_,_=>rfl
 |_::_,[],_,h,_=>by simp[jF] at h
 |_::_,_::_,[],_,h=>by simp[jF] at h
 |a::f,b::bs,c::g,h,k=>by
  erw[jF] at h k⊢;by_cases e:a=b
  ·subst e;rw[Ω rfl] at h;by_cases d:a=c
   ·subst d;rw[Ω rfl] at k⊢;show JT f bs g h k
   ·rw[υ d] at k⊢;show k
  ·rw[υ e] at h;by_cases d:b=c
   ·subst d;rw[υ e];show h
   ·rw[υ d] at k;erw[decide_eq_true_eq] at h k;rw[υ ν];erw[decide_eq_true_eq];lia
theorem BY:∀a b,jF a b=χ->jF b a=χ->a=b
 | [],[],_,_=>rfl
 | [],_::_,h,_=>by simp[jF] at h
 |_::_,[],_,h=>by simp[jF] at h
 |a::c,b::bs,h,k=>by
  erw[jF] at h k;by_cases e:a=b
  ·subst e;rw[Ω rfl] at h k;rw[BY c bs h k]
  ·rw[υ e] at h;rw[υ (Ne.symm e)] at k;erw[decide_eq_false_iff_not] at h k;lia
def Tn(a b c:ι Int)(h:jF a c=ζ):jF a b=ζ\/jF b c=ζ:=by
 cases h1:jF a b with
 |true=>show gJ rfl
 |false=>
  right;cases h2:jF b a with
  |true=>show JT b a c h2 h
  |false=>rw[<-BY a b h1 h2];show h
def Oh:KeyOrd:=#[ι Int,jF,Ea,JT,Tn,BY]
section
variable{prog:bP}{w:cS}{A:cV}{E:aF->aJ->Prop}{s:aJ}
def int_inv(h:(intKind prog w).is k v=ζ):∃t,v = .int k t:=by
 cases v <;> simp[intKind,EN] at h;show#[_,by rw[h]]
def Xz{d:Bool}:∀(ns ms:ι Int)(vs us:ι aF)(i:Nat),ItemsAre (intKind prog w) ns vs->ItemsAre (intKind prog w) ms us->d=decide (vs.length<us.length)->Q (jF ns ms) s->KatLex prog w A ζ d Q (vs.zip us) i s:=by
 intro ns
 induction ns with
 |nil=>
  intro ms vs us i b c a q;cases b;cases c with
  |nil=>simp at a;subst a;show Ay q
  |cons _ _=>simp at a;subst a;show Ay q
 |cons n ns g=>
  intro ms vs us i b c a q;cases b with
  |cons b h=>
   cases c with
   |nil=>simp at a;subst a;show Ay q
   | @cons m u ms us c j=>
    rw[hZ];show Dx ((intKind prog w).eqBool b c ?_);by_cases e:n=m
    ·subst e;rw[decide_eq_true rfl];show kat_yes (g ms _ us (i+1) h j (~~~a) (by simpa [jF] using q))
    ·rw[decide_eq_false e];let⟨k,rfl⟩:=int_inv b;let⟨l,rfl⟩:=int_inv c;have f:Q (decide (n<m)) s:=(by simpa [jF,e] using q);show kat_no ?_;cases hi:(i == 0) with
     |true=>show oneLt_int f
     |false=>show kat_one _ _ (PySem.wpAny_lt_int (by show f))
def j8(prog:bP)(w:cS)(h:Heap)(vs:ι aF)(nss:ι (ι Int)):Prop:=vs.length=nss.length/\∀i v,vs[i]?=ψ v->∃a,v = .ref a/\IsTupleKey (intKind prog w) h (nss.getD i []) a
theorem UZ:∀(vs:ι aF)(nss:ι (ι Int)),j8 prog w h vs nss->(∀ns∈nss,ns≠[])->∃fs:ι aF,KatTups h vs fs/\fs.length=vs.length/\∀f∈fs,∃k t,f = .int k t
 | [],nss,_,_=>#[[],trivial,rfl,λf c=>by cases c]
 |v::vs,nss,H,g=>by
  match nss,H with
  | [],H=>show Ψ H.1 η
  |ns::nss,H=>
   let⟨a,rfl,o,b,n,j,l,m,d⟩:=H.2 0 v rfl;let⟨fs,q,u,y⟩:=UZ vs nss #[by have:=H.1;simpa using this,λi v e=>H.2 (i+1) v e] λz B=>g z (bH _ B);erw[List.getD_cons_zero] at d
   match ns,d,g ns (cT ..) with
   | [],_,h=>show Ψ rfl h
   |k::F,d,_=>
    generalize e:b.toList=C at d;cases d with
    |cons D G=>
     let⟨t,rfl⟩:=int_inv D;show#[.int k t::fs,#[#[a,o,b,n,rfl,j,l,m,?_],q],by simp[u],λf c=>?_]
     ·rw[<-tK,e];rfl
     ·rcases aP.mp c with rfl |c
      ·show#[k,t,rfl]
      ·show y f c
def j8.other(K:j8 prog w h vs nss)(g:h.get? a=ψ (seqObj "list" xs n))(j:∀b o,b≠a->h.get? b=ψ o->h'.get? b=ψ o):j8 prog w h' vs nss:=by
 show#[K.1,λi v e=>?_];let⟨b,rfl,o,c,m,d,f,k,l⟩:=K.2 i v e;show#[b,rfl,o,c,m,j b o ?_ d,f,k,l];rintro rfl;rw[g] at d;cases d;show Ψ f (by simp[seqObj])
def range_getD{α:Type}(d:α)(xs:ι α):(bT xs.length).map (λi=>xs.getD i d)=xs:=by
 apply NJ η;intro i b a;simp[a]
def Fx{a:Addr}{vs:ι aF}{nss:ι (ι Int)}{n:Nat}{P:XZ->aJ->Prop}(M:s.heap.get? a=ψ (seqObj "list" vs.toArray n))(N:vs.length=nss.length)(t4:vs.length<64)
  (tups:∀h',(∀b o,b≠a->s.heap.get? b=ψ o->h'.get? b=ψ o)->∃fs:ι aF,KatTups h' vs fs/\fs.length=vs.length/\∀f∈fs,∃k t,f = .int k t)
  (ask:∀h',(∀b o,b≠a->s.heap.get? b=ψ o->h'.get? b=ψ o)->∀(i j:Nat)(C:Bool->aJ->Prop),i<vs.length->j<vs.length->C (jF (nss.getD i []) (nss.getD j [])) {s with heap:=h'} ->
   ∃x ox xs nx y oy ys ny,(vs.getD i dO = .ref x/\h'.get? x=ψ ox/\ox.data = .seq xs nx)/\(vs.getD j dO = .ref y/\h'.get? y=ψ oy/\oy.data = .seq ys ny)/\KatLex prog w A ζ (decide (xs.size<ys.size)) C (xs.toList.zip ys.toList) 0 {s with heap:=h'})
  (q:∀h' (p:ι Nat) c,p.Perm (bT vs.length)->h'.get? a=ψ (seqObj "list" (jK (p.map λi=>vs.getD i dO)) c)->(p.map λi=>nss.getD i []).Pairwise (λx y=>jF y x=χ)->(∀b o,b≠a->s.heap.get? b=ψ o->h'.get? b=ψ o)->P (.done (.ret .none)) {s with heap:=h'}):
  Δ prog w A (Builtin.«list.sort» #[[.ref a],[]]) P E s:=by
 have lt:a<s.z:=aZ M;rw[RH];apply aC;show listItems_at M rfl ?_;apply aC;show zM M rfl ?_ (by rw[aY,fK];lia) (dL _);obtain⟨B,X⟩:∃B,(s.heap.update a (fA λ_=>((mt []):Array aF))).get? a=ψ (seqObj "list" (mt []) B):=#[_,vL M λ_=>(mt [])];have up1:∀b o,b≠a->s.heap.get? b=ψ o->(s.heap.update a (fA λ_=>((mt []):Array aF))).get? b=ψ o:=λb o m e=>(eD _ _ (Ne.symm m)).trans e;generalize s.heap.update a (fA λ_=>((mt []):Array aF))=u at X up1;apply aC;show GG X rfl ?_;apply aC;show WV ?_ (by show vs.length<=_;rw[fK];lia);apply aC;show uO ?_ (dL _);apply gI;show Δ prog w A _ P E {s with heap:=(u.push (seqObj "tuple" vs.toArray 0)).push (seqObj "list" (mt []) 0)};have R:∀b o,b≠a->s.heap.get? b=ψ o->((u.push (seqObj "tuple" vs.toArray 0)).push (seqObj "list" (mt []) 0)).get? b=ψ o:=λb o m e=>aN _ (aN _ (up1 b o m e));have U:((u.push (seqObj "tuple" vs.toArray 0)).push (seqObj "list" (mt []) 0)).get? a=ψ (seqObj "list" (mt []) B):=aN _ (aN _ X);generalize (u.push (seqObj "tuple" vs.toArray 0)).push (seqObj "list" (mt []) 0)=d at R U;have D:∀(p:ι Nat)(h:SortSt),(arrOf h).map (·.2)=jK (p.map λi=>vs.getD i dO)->failedOf h=ξ->p.Perm (bT vs.length)->(p.map λi=>nss.getD i []).Pairwise (λx y=>jF y x=χ) ->
   Δ prog w A (do
    let sorted:=(arrOf h).map (·.2)
    let l:=(<-seqEpoch a) != B
    rT (.ref a) λ_=>sorted
    if let some e:=failedOf h then rule "list.sort.comparison-raised";throw e
    if l then rule "list.sort.modified";raiseError "ValueError" "list modified during sort"
    ret .none) P E {s with heap:=d}:=by
  intro p h u Y V hs;have F:(p.map λi=>vs.getD i dO).length<=64:=by rw[aG,V.length_eq,eI];lia
  generalize Z:(p.map λi=>vs.getD i dO)=g at u F;fail;apply aC;show GG (s:={s with heap:=d}) U rfl ?_;rw[u];apply aC;show zM (s:={s with heap:=d}) U rfl ?_ (dL _) (by show g.toArray.size<=_;rw[aY,fK];lia);obtain⟨c,hc⟩:∃c,(d.update a (fA λ_=>g.toArray)).get? a=ψ (seqObj "list" g.toArray c):=#[_,vL U λ_=>g.toArray];have rm:∀b o,b≠a->d.get? b=ψ o->(d.update a (fA λ_=>g.toArray)).get? b=ψ o:=λb o m e=>(eD _ _ (Ne.symm m)).trans e;generalize d.update a (fA λ_=>g.toArray)=h3 at hc rm;rw[Y];erw[bne_self_eq_false,aR,if_false];show aO (q h3 p c V (by rw[Z];show hc) hs λb o m e=>rm b o m (R b o m e))
 fail;by_cases H:vs.length<2
 ·have I:vs.toArray.size<2:=by rw[aY];show H
  rw[Ω I,Ω I];apply aC;apply aO;apply aC;show wpAny _ _ (pure ((),TN general' (vs.toArray.zip vs.toArray) (mt []) 7 ξ)) _ _ _;apply aO;show D (bT vs.length) _ ?_ rfl (EF _) ?_
  ·show(vs.toArray.zip vs.toArray).map (·.2)=_;rw[range_getD];apply NA.mp;simp[NM]
  ·rw[N,range_getD]
   match nss,N with
   | [],_=>show mN
   | [x],_=>show kP _ _
   |_::_::_,N=>simp at N;lia
 ·have I:¬vs.toArray.size<2:=by rw[aY];show H
  rw[υ I,υ I];let⟨fs,f1,f2,f3⟩:=tups d R;apply aC;show kat_kind (s:={s with heap:=d}) (T:=.type "int") f1 ν (λv hv=>?_) μ ?_
  ·let⟨k,t,rfl⟩:=f3 v hv;show Looks.now
  have hT:(iK "int" != iK "tuple")=ζ:=μ
  rw[hT];let⟨i1,i2,i3⟩:=Zo (O:=Oh) (key:=λi=>nss.getD i []) (n:=vs.length) ν;have psz:(jB (iw Oh λi=>nss.getD i []) (EZ vs.length)).size=vs.length:=by rw[i2.size_eq];simp
  generalize V:jB (iw Oh λi=>nss.getD i []) (EZ vs.length)=p at i2 i3 psz;apply aC;show gM (kat_run (ks:=vs) (vs:=vs) (Q:=λh J=>J = {s with heap:=d}/\arrOf h=p.map (kas_item (vs.toArray.zip vs.toArray))/\failedOf h=ξ) (G:=λp' J=>p'=p/\J = {s with heap:=d}) rfl ν t4 (λp' h J a1 a2 a3 a4=>#[a4.2,by rw[a2,a4.1],a3]) ?_) ?_ λ_ _ e=>e
  ·show UY (lt:=iw Oh λi=>nss.getD i []) (n:=vs.length) (s:={s with heap:=d}) (λi j C W K c=>?_) _ i1 #[V,rfl];unfold kas_ask;obtain⟨x,ox,xs,nx,y,oy,ys,ny,⟨ex,hx1,hx3⟩,⟨ey,hy1,hy3⟩,kx⟩:=ask d R i j _ W K c;rw[ex,ey];show kat_lt (s:={s with heap:=d}) hx1 hx3 hy1 hy3 kx
  ·rintro⟨⟨⟩,h⟩ J ⟨rfl,har,Y⟩;have L:=kat_snds (ks:=vs) (vs:=vs) rfl har;have pl:p.toList.Perm (bT vs.length):=(~~~i2.toList);show D p.toList h L Y pl ?_;show fP.mpr (dJ.mpr λi j W K jw=>?_);have:=i3 i j ν (by simp at K;lia);unfold kk at this;erw[bX] at W K;have B:p.getD i 0=p[i]:=(by simp[fR,W]);have e2:p.getD j 0=p[j]:=(by simp[fR,K]);rw[B,e2] at this;show this
def ZK(d:s.heap.get? a=ψ (seqObj "list" vs.toArray n))(K:j8 prog w s.heap vs nss)(L:∀ns∈nss,ns≠[])(M:vs.length<64)
  (q:∀h' out mss c,h'.get? a=ψ (seqObj "list" (jK out) c)->j8 prog w h' out mss->(∀v∈out,v∈vs)->mss.Perm nss->mss.Pairwise (λx y=>jF y x=χ)->(∀b o,b≠a->s.heap.get? b=ψ o->h'.get? b=ψ o)->P (.done (.ret .none)) {s with heap:=h'}):
  Δ prog w A (Builtin.«list.sort» #[[.ref a],[]]) P E s:=by
 show Fx d K.1 M (λh' g=>UZ vs nss (K.other d g) L) (λh' g i j C N h c=>?_) λh' p c H O Q I=>?_
 ·have f:=K.other d g;let⟨x,R,T,U,V,k,W,l,u⟩:=f.2 i (vs.getD i dO) (by simp[N]);let⟨y,X,Y,Z,ny,z,hy2,B,D⟩:=f.2 j (vs.getD j dO) (by simp[h]);show#[x,T,U,V,y,Y,Z,ny,#[R,k,l],#[X,z,B],Xz _ _ _ _ 0 u D η c]
 ·have f:=K.other d I;have lt:∀j∈p,j<vs.length:=λj h=>cM.mp (H.mem_iff.mp h);show q h' _ _ c O #[η,λi v e=>?_] (λv hv=>?_) ((H.map _).trans (by rw[K.1,range_getD])) Q I
  ·rw[bJ] at e;let⟨j,J,rfl⟩:=fY.mp e;let⟨b,F,G⟩:=f.2 j (vs.getD j dO) (by simp[lt j (bA J)]);show#[b,F,?_];rw[show(p.map λi=>nss.getD i []).getD i []=nss.getD j [] by rw[dF,bJ,J];rfl];show G
  ·let⟨j,m,rfl⟩:=bK.mp hv;simp[lt j m]
def QZ{S:Addr}{es:Array (Int×aF)}{Q:aF->aJ->Prop}(hh:A.handled=ξ)(H:lv prog w s.heap S es)(t4:es.size<64){nss:ι (ι Int)}(hn:∀ns∈nss,ns≠[])
  (W:∀e∈es.toList,∃ns∈nss,∃a,e.2 = .ref a/\IsTupleKey (intKind prog w) s.heap ns a)
  (q:∀h' D out mss c,s.z<=D->h'.get? D=ψ (seqObj "list" (jK out) c)->j8 prog w h' out mss->(∀v∈out,∃e∈es.toList,e.2=v)->(∀ns,ns∈mss↔∃e∈es.toList,∃a,e.2 = .ref a/\IsTupleKey (intKind prog w) s.heap ns a)->mss.Pairwise (λx y=>jF y x=χ) ->
   mss.length=es.size->(∀b o,s.heap.get? b=ψ o->h'.get? b=ψ o)->Q (.ref D) {s with heap:=h'}):
  Δ prog w A (call (.builtin "sorted") [.ref S]) Q E s:=by
 obtain⟨⟨f,t,ho,T,hf,hl,hp,_⟩,els,_⟩:=H;have B:=OX (w:=w) S f es;have M:(kU w S f es).toList.length=es.size:=by rw[B.length_eq,bX]
 show qI PX MM LV (LH _) ?_;unfold Builtin.«sorted»;show aC (m:=checkCount "sorted" 1 1 _) (aO ?_);apply aC;show Cr (A:=A.in1) (by simp[hh]) ho T hl hp ν λd N O=>?_;apply aC;show uO ?_ (by rw[aG,M,fK];lia);show wpAny _ _ _ _ _ {s with heap:=d.push (seqObj "list" (jK ((kU w S f es).toList.map (·.2))) 0)};have K:(d.push (seqObj "list" (jK ((kU w S f es).toList.map (·.2))) 0)).get? d.objs.size=ψ (seqObj "list" (jK ((kU w S f es).toList.map (·.2))) 0):=bQ _ rfl;have C:∀b o,s.heap.get? b=ψ o->(d.push (seqObj "list" (jK ((kU w S f es).toList.map (·.2))) 0)).get? b=ψ o:=λb o e=>aN _ (N b o e);generalize d.push (seqObj "list" (jK ((kU w S f es).toList.map (·.2))) 0)=j at K C;have P:∀(i:Nat)(v:aF),((kU w S f es).toList.map (·.2))[i]?=ψ v->∃ns∈nss,∃a,v = .ref a/\IsTupleKey (intKind prog w) s.heap ns a:=by
  intro i v e;rw[bJ] at e;cases F:(kU w S f es).toList[i]? with
  |none=>rw[F] at e;simp at e
  |some x=>
   rw[F] at e;erw[CK,KZ] at e;have m:x∈es.toList:=B.mem_iff.mp (bA F);let⟨ns,d,a,j,G⟩:=W x m;show#[ns,d,a,by rw[<-e];show j,G]
 obtain⟨k,R,kk⟩:∃k:ι (ι Int),k.length=((kU w S f es).toList.map (·.2)).length/\∀(i:Nat)(v:aF),((kU w S f es).toList.map (·.2))[i]?=ψ v->k.getD i []∈nss/\∃a,v = .ref a/\IsTupleKey (intKind prog w) s.heap (k.getD i []) a:=by
  generalize ((kU w S f es).toList.map (·.2))=X at P;clear K
  induction X with
  |nil=>show#[[],rfl,λi v e=>by simp at e]
  |cons v X ih=>
   let⟨k,N,C⟩:=ih λi v e=>P (i+1) v (~~~e);let⟨ns,d,a,j,G⟩:=P 0 v rfl;show#[ns::k,by simp[N],λi u e=>?_];cases i with
   |zero=>simp at e;subst e;show#[d,a,j,G]
   |succ i=>show C i u (~~~e)
 have KA:j8 prog w j ((kU w S f es).toList.map (·.2)) k:=by
  show#[R.symm,λi v e=>?_];let⟨_,a,d,o,U,m,n,I⟩:=kk i v e;show#[a,d,o,U,m,C _ _ n,I]
 have l:∀ns,ns∈k↔∃e∈es.toList,∃a,e.2 = .ref a/\IsTupleKey (intKind prog w) s.heap ns a:=by
  intro ns;constructor
  ·intro h;let⟨i,L,e⟩:=gE h;have V:i<((kU w S f es).toList.map (·.2)).length:=ν;let⟨_,a,d,j⟩:=kk i _ (aL V);have g:k.getD i []=ns:=(by simp[L,e]);rw[g] at j;erw[NL] at d;show#[_,B.mem_iff.mp (qB _),a,d,j]
  ·rintro⟨e,J,a,d,j⟩;let⟨i,L,e'⟩:=gE (B.mem_iff.mpr J);let⟨_,b,n,I⟩:=kk i e.2 (by rw[bJ,aL L,e'];rfl);rw[d] at n;cases n;have:=I.inj j;rw[<-this];have V:i<k.length:=(by rw[R];simpa using L);simp[V]
 show aC (gI (iG slot_list_sort #[_,K,rfl] entry_list_sort ?body (EO _)))
 case body=>
  show ZK (s:={s with heap:=j}) K KA (λns h=>?_) (by rw[aG,M];show t4) λG out mss c n I g3 Y g5 g6=>?_
  ·let⟨e,J,a,e1,F⟩:=(l ns).mp h;let⟨ms,m1,b,Z,e4⟩:=W e J;rw[e1] at Z;cases Z;rw[F.inj e4];show hn ms m1
  ·show#[_,rfl,aO #[_,rfl,q G d.objs.size out mss c O n I (λv hv=>?_) (λns=>(Y.mem_iff).trans (l ns)) g5 ?_ λb o e=>?_]]
   ·let⟨e,J,rfl⟩:=bK.mp (g3 v hv);show#[e,B.mem_iff.mp J,rfl]
   ·rw[Y.length_eq,R,aG,M]
   ·have:=aZ e;show g6 b o (by intro z;erw[Addr] at *;lia) (C b o e)
end
end
section
open PySem PySem.W PyProof.Rows
def Im:typeLookup (.type "list_reverseiterator") "__len__" = pure ξ:=by rw[rF,mB];kernel_rfl
def Tt:typeLookup (.type "list_reverseiterator") "__length_hint__" = pure (ψ (.builtin "list_reverseiterator.__length_hint__")):=by rw[rF,mB];kernel_rfl
def Ca:isSubtype (.type "list_reverseiterator") (.type "list_reverseiterator")=pure ζ:=by rw[xE];kernel_rfl
section
variable{s:aJ}
def Vh(a:s.TypeIs (.ref I) "list_reverseiterator")(q:Q χ s):Δ prog w A (lA (.ref I)) Q E s:=by
 unfold lA;apply aC;show oQ a Im ?_;show wpAny _ _ (specialOf (eG I) (gW "__length_hint__") >>= _) _ _ _;apply aC;show oQ a Tt ?_;fail;have e:splitId "list_reverseiterator.__length_hint__" = ψ ("list_reverseiterator","__length_hint__"):=θ
 rw[e];fail;apply aC;show uG (b:=ζ) a Ca ?_;erw[dD,aR,if_false];have d:∀(c:Bool)(X Y:Sem Bool),c=ζ->Δ prog w A X Q E s->Δ prog w A (if c=ζ then X else Y) Q E s:=λc X Y f h=>by rw[Ω f];show h
 show d _ _ _ θ ?_;rw[υ θ];show aO q
def XF(hh:A.handled=ξ)(ne:l≠I)(hz:items.size<=sizeLine)(hi:s.heap.IsRevIter I l ((items.size:Int)-1))(hl:s.heap.IsList l items)
  (q:∀h' c,h'.get? s.z=ψ (seqObj "list" items.toList.reverse.toArray c)->(∀b o,b≠I->s.heap.get? b=ψ o->h'.get? b=ψ o)->Q (.ref s.z) {s with heap:=h'}):
  Δ prog w A (call (.type "list") [.ref I]) Q E s:=by
 have j:I<s.z:=by let⟨o,e,_⟩:=hi;show aZ e
 have R:l<s.z:=by let⟨o,e,_⟩:=hl;show aZ e
 show callType_codes (Q₁:=λm s₁=>m = .ref s.z/\s₁ = {s with heap:=s.heap.push {cls:=.type "list",data:=.seq (mt [])}}) F.called_list (F.typeCall_list_1 _) F.entry_list_init (code_list_new _ #[rfl,rfl]) λm s₁ h₁=>?_;let⟨rfl,rfl⟩:=h₁;have G:(s.heap.push {cls:=.type "list",data:=.seq (mt [])}).get? s.z=ψ {cls:=.type "list",data:=.seq (mt [])}:=bQ _ rfl;show#[#[_,G,rfl],F.args_list_init_2 _ _,?_];show wpAny _ _ (do let U <-BH (.ref s.z);rT (.ref s.z) (λ_=>(mt []));letGo U.toList.reverse;jC (.ref s.z) (.ref I) .none) _ _ _;apply aC;unfold BH;apply aC;apply GL G rfl;apply aO;show wpAny _ _ (updateSeq s.z (λ_=>(mt [])) >>= λ_=>letGo ((mt []):Array aF).toList.reverse >>= λ_=>jC (.ref s.z) (.ref I) .none) _ _ _;apply aC;show rG G rfl ?_;have u:=gR (fA (λ_=>((mt []):Array aF))) G rfl;have H:∀b o,b≠s.z->s.heap.get? b=ψ o->((s.heap.push {cls:=.type "list",data:=.seq (mt [])}).update s.z (fA (λ_=>((mt []):Array aF)))).get? b=ψ o:=
  λb o hb e=>(eD _ _ (Ne.symm hb)).trans (aN _ e)
 generalize (s.heap.push {cls:=.type "list",data:=.seq (mt [])}).update s.z (fA (λ_=>((mt []):Array aF)))=V at u H;apply aC;apply wpAny_letGo;have K:I≠s.z:=bO j;have v:l≠s.z:=bO R;have L:V.IsRevIter I l ((items.size:Int)-1):=hi.at λo e=>H _ o K e;have ym:V.IsList l items:=hl.at λo e=>H _ o v e;unfold jC;apply aC;show wH (T:="list_reverseiterator") L.typeIs ?_;have g1:mS (.ref s.z) (.ref I)=χ:=by simp[mS,lE j]
 have g2:(iK "list_reverseiterator" == iK "list")=χ:=μ
 have g3:(iK "list_reverseiterator" == iK "tuple")=χ:=μ
 erw[g1,g2,g3,HV,aR,if_false];apply aC;show vD L ?_;apply aC;apply gI;show Vh L.typeIs ?_;have W:∀(c:Bool)(X Y:Sem Fin){M:Fin->aJ->Prop}{N:aF->aJ->Prop}{O:aJ}{A':cV},c=χ->Δ prog w A' Y M N O->Δ prog w A' (if c=ζ then X else Y) M N O:=λc X Y _ _ _ _ hc h=>by rw[hc,υ bR];show h
 show W _ _ _ θ ?_;apply aO;show#[kH jU _,?_];show Dp (s0:=s) (n:=items.size) (J:=λa h=>h.IsRevIter I l ((items.size:Int)-1-(a.length:Int))/\h.IsList l items/\a=items.toList.reverse.take a.length/\∀b o,b≠I->b≠s.z->s.heap.get? b=ψ o->h.get? b=ψ o)
  (F:=λa h=>a=items.toList.reverse/\∀b o,b≠I->b≠s.z->s.heap.get? b=ψ o->h.get? b=ψ o) .none hz ?_ ?_ ?_ (λh' a c hsz hF u_=>#[rfl,?_]) items.size (mt []) V _ rfl (dL _) ?_ u
 ·rintro a h h' ⟨y,B,g,C⟩ P hz Z;show#[y.at λo e=>Z _ o K e,B.at λo e=>Z _ o v e,g,λb o d f e=>Z b o f (C b o d f e)]
 ·rintro a O o M N jj ⟨y,B,g,C⟩ P k;have e:items[items.size-1-a.length]?=ψ (items[items.size-1-a.length]'ν):=cD _;show DZ (i:=items.size-1-a.length) (by rw[show((items.size-1-a.length:Nat):Int)=(items.size:Int)-1-(a.length:Int) by lia];show y) B e λh' yy sb=>k _ h' #[?_,B.at λo e=>?_,?_,λb o d f e=>?_] ?_
  ·rw[show((items.size-1-a.length:Nat):Int)-1=(items.size:Int)-1-((a++[items[items.size-1-a.length]'ν]).length:Int) by simp;lia] at yy;show yy
  ·rw[sb.2 _ ne];show e
  ·rw[aU,jW,hX,<-g];congr 1;rw[aL ε,List.getElem_reverse];simp
  ·rw[sb.2 b d];show C b o d f e
  ·rw[sb.2 _ (Ne.symm K)];show P
 ·rintro a O o M N D ⟨y,B,g,C⟩ P k;rw[D] at g;show GK (l:=l) (by simp[hh]) (by rw[show(-1:Int)=(items.size:Int)-1-(a.length:Int) by lia];show y) λh' eb=>k h' #[?_,λb o d f e=>eb b o d (C b o d f e)] (eb _ _ (Ne.symm K) P);rw[g,eF];simp
 ·show#[~~~L,ym,rfl,λb o _ f e=>H b o f e]
 ·show q h' c ?_ λb o d e=>hF.2 b o d (bO (aZ e)) e;rw[u_,<-hF.1]
end
end
section
open PySem PySem.Spec PyProof.Rows L2
def boot_sorted:bootBuiltins "sorted" = ψ (.builtin "sorted"):=θ
def boot_set:bootBuiltins "set" = ψ (.type "set"):=θ
theorem UW:∀{ns:ι Int}{us:ι aF},c6 (ns.map V.int) us->ItemsAre (intKind prog w) ns us
 | [],_,h=>by cases h;show .nil
 |n::ns,_,h=>by
  cases h with
  |cons a t=>
   let⟨b,rfl⟩:=a;show .cons (intKind_is _ _ _ _) (UW t)
def WD(e:RE):RA:=λa Q=>e a λx=>∃b:ι (ι Int),x = .lst (b.map uE)/\b.length<64/\(∀d∈b,d≠[])/\∀c:ι (ι Int),c.Pairwise (λx y=>jF y x=χ)->(∀d,d∈c↔d∈b)->c.length<=b.length->Q (c.map uE)
def WB(c:RE):RA:=λa Q=>c a λx=>∃b:ι D,x = .lst b/\Q b.reverse
theorem WH{K:aH}{H:Hp}:∀(out:ι aF)(mss:ι (ι Int)),out.length=mss.length->(∀(i:Nat)(v:aF),out[i]?=ψ v->∃a,v = .ref a/\H a=ψ (.tup ((mss.getD i []).map V.int)))->∃ws:ι V,c6 ws out/\a_ K H (mss.map uE) ws
 | [],[],_,_=>#[[],.nil,.nil]
 | [],_::_,h,_=>by simp at h
 |_::_,[],h,_=>by simp at h
 |v::out,f::mss,h,k=>by
  let⟨ws,b,c⟩:=WH (K:=K) (H:=H) out mss (~~~h) λi v e=>k (i+1) v (~~~e);let⟨a,rfl,d⟩:=k 0 v rfl;show#[.ref a::ws,.cons rfl b,.cons (.tup d a_.ints) c]
section
variable{p pz pos o7:Pos}
def Ib(hr:h9 k X.A)(wa:X.mg "sorted" = ξ)(hmz:X.mg "set" = ξ)(hc:X.calm=ζ)(h:DB X e te)(v4:Gl X "sorted":=by rfl)(hgz:Gl X "set":=by rfl)
  (hs:starEach [.Call (.Name "set" pz) [e] [] o7] X.env=[(χ,eval (.Call (.Name "set" pz) [e] [] o7) X.env)]:=by rfl) (hn:starEach [] X.env=[]:=by rfl) (h1:starEach [e] X.env=[(χ,eval e X.env)]:=by rfl):
  DO X (.Call (.Name "sorted" p) [.Call (.Name "set" pz) [e] [] o7] [] pos) (WD te):=by
 intro Γ s Z H Q I d_;let⟨m,P,st,q,kq⟩:=d_;show eP (lU I v4 wa boot_sorted ?_);show iE ?_ (by rw[hs,hn]) (by rw[hn];rfl);rw[hs];show wpAny _ _ (spliced ((χ,eval (.Call (.Name "set" pz) [e] [] o7) X.env)::backTo pos [])) _ _ s;show lK (eP (lU I hgz hmz boot_set ?_));show cN (h8 (pX h h1 hn o7 Γ s Z H (λW F=>∃(nss:ι (ι Int))(v:V),W=[v]/\cc H F/\jh X.K F (.lst (nss.map uE)) v/\nss.length<64/\(∀f∈nss,f≠[])/\∀g:ι (ι Int),g.Pairwise (λx y=>jF y x=χ)->(∀f,f∈g↔f∈nss)->g.length<=nss.length->P (g.map uE)) I
  #[m,_,st,q,λx v F hx G r1=>?_]) λus G ⟨W,F,N,r1,q1⟩=>?_) (by rw[h1,hn]) (by rw[hn];rfl)
 ·let⟨nss,rfl,a1,a2,a3⟩:=hx;show#[nss,v,rfl,G,r1,a1,a2,a3]
 let⟨nss,v,rfl,k9,rb,t4,nI,hP⟩:=q1;let⟨l,W,rfl,hq,rr⟩:=rb.lst;let⟨u,rfl,rx⟩:=vals1 r1;cases rx;let⟨B,rv,pl,hz⟩:=N.list hq;have l1:=rr.length;have l2:=rv.length;rw[aG] at l1;have M:∀(i:Nat)(u:aF),B[i]?=ψ u->∃f a,nss[i]?=ψ f/\W[i]?=ψ (.ref a)/\u = .ref a/\IsTupleKey (intKind X.prog X.w) G.heap f a:=λi u e=>by
  have hi:i<nss.length:=by have:=(cE.mp e).1;lia
  let⟨v,Y,e2⟩:=rr.get (i:=i) (d:=uE nss[i]) (by rw[bJ,aL hi];rfl);let⟨a,rfl,ha⟩:=a_.tupI_inv e2;let⟨u',f1,f2⟩:=rv.get Y;rw[e] at f1;cases f1;cases f2;let⟨ts,g1,O,_⟩:=N.tuple (ju.of (K:=X.K) ha);let⟨o,go,gc,n,gd⟩:=O;show#[_,a,aL hi,Y,rfl,o,ts.toArray,n,go,gc,gd,~~~UW g1]
 have hu:=hr.un;show XH (key:=λi=>nss.getD i []) (N.ok.hd hc) ν pl.isList (λi u e=>?_) ε λh2 tk D up=>?_
 ·let⟨f,a,C,_,rfl,J⟩:=M i u (~~~e);show#[a,rfl,?_];have:nss.getD i []=f:=by rw[dF,C];rfl
  rw[this];show J
 show oY ?_;let⟨es,ST,d1,d2,d3⟩:=D;have pi:∀{f:ι Int}{a:Addr},IsTupleKey (intKind X.prog X.w) G.heap f a->IsTupleKey (intKind X.prog X.w) h2 f a:=λ⟨o,B,n,g1,O⟩=>#[o,B,n,up _ _ g1,O];have E:∀e∈es.toList,∃(i:Nat)(f:ι Int)(a:Addr),nss[i]?=ψ f/\W[i]?=ψ (.ref a)/\e.2 = .ref a/\IsTupleKey (intKind X.prog X.w) h2 f a:=λe he=>by
  let⟨j,hj,ej⟩:=d1 e he;let⟨f,a,C,R,L,J⟩:=M j e.2 (~~~ej);show#[j,f,a,C,R,L,pi J]
 show QZ (s:={G with heap:=h2,toks:=tk}) (A:=X.A) (N.ok.hd hc) ST (by simp at d3;lia) (nss:=nss) nI (λe he=>?_) λh3 Dd T g c big g1 O g3 g4 g5 g6 rm=>?_
 ·let⟨i,f,a,C,R,L,J⟩:=E e he;show#[f,bA C,a,L,J]
 have kp:∀b o,G.heap.get? b=ψ o->h3.get? b=ψ o:=λb o e=>rm b o (up b o e);have I3:Inv X Γ Z F {G with heap:=h3,toks:=tk}:=N.kept kp;have szS:G.z<h2.objs.size:=by obtain⟨⟨ep,t,ho,_⟩,_⟩:=ST;show aZ ho
 have E_:G.z<=Dd:=by have:h2.objs.size<=Dd:=big;lia
 have xf:F Dd=ξ:=N.hok.fresh E_;have U:∀{i:Nat}{f:ι Int}{a:Addr},nss[i]?=ψ f->W[i]?=ψ (.ref a)->F a=ψ (.tup (f.map V.int)):=λ{i f a} C R=>by
  let⟨w,f1,f2⟩:=rr.get (i:=i) (d:=uE f) (by rw[bJ,C];rfl);rw[R] at f1;cases f1;let⟨b,e,hb⟩:=a_.tupI_inv f2;cases e;show hb
 let⟨ws,VV,RR⟩:=WH (K:=X.K) (H:=F) T g O.1 λi v e=>by
  let⟨x,hx,ex⟩:=g3 v (bA e);let⟨j,f,a,C,R,L,J⟩:=E x hx;let⟨b,eb,hb⟩:=O.2 i v e;rw[<-ex,L] at eb;cases eb;show#[a,by rw[<-ex,L],?_];have hk3:IsTupleKey (intKind X.prog X.w) h3 f a:=by let⟨o,B,n,q1,q2⟩:=J;show#[o,B,n,rm _ _ q1,q2]
  rw[hb.inj hk3];show U C R
 have lo:T.length<=64:=by rw[O.1,g6];simp at d3;lia
 have lw:=VV.length;have I4:=N.trackO (a:=Dd) (w:=.lst ws) I3 E_ xf #[by rw[fK];lia,T,c,VV,g1];show#[.ref Dd,_,I4,rfl,kq _ _ _ F (hP g g5 (λf=>?_) (by rw[g6];simp at d3;lia)) k9 xf RR];rw[g4 f];constructor
 ·rintro⟨x,hx,a,Y,e2⟩;let⟨j,ms,b,C,R,L,J⟩:=E x hx;rw[Y] at L;cases L;rw[e2.inj J];show bA C
 ·intro h;let⟨j,hj,rfl⟩:=gE h;let⟨y,hy,b,Y,e2⟩:=d2 j ε;show#[y,hy,b,Y,?_];have:nss.getD j []=nss[j]:=by simp[hj]
  rw[this] at e2;show e2
def Ia(Y:X.mg "list" = ξ)(B:X.mg "reversed" = ξ)(hc:X.calm=ζ)(h:DB X e te)(U':Gl X "list":=by rfl)(C:Gl X "reversed":=by rfl)
  (N:starEach [.Call (.Name "reversed" pz) [e] [] o7] X.env=[(χ,eval (.Call (.Name "reversed" pz) [e] [] o7) X.env)]:=by rfl) (j:starEach [] X.env=[]:=by rfl) (O:starEach [e] X.env=[(χ,eval e X.env)]:=by rfl):
  DO X (.Call (.Name "list" p) [.Call (.Name "reversed" pz) [e] [] o7] [] pos) (WB te):=by
 intro Γ s Z H Q I d_;let⟨f,P,st,q,kq⟩:=d_;show eP (lU I U' Y boot_list ?_);show cN ?_ (by rw[N,j]) (by rw[j];rfl);rw[N];show wpAny _ _ (spliced ((χ,eval (.Call (.Name "reversed" pz) [e] [] o7) X.env)::backTo pos [])) _ _ s;show lK (eP (lU I C B boot_reversed ?_));show cN (h8 (pX h O j o7 Γ s Z H (λk i=>∃(m:ι D)(v:V),k=[v]/\cc H i/\jh X.K i (.lst m) v/\P m.reverse) I
  #[f,_,st,q,λx v i hx d r1=>?_]) λus d ⟨k,i,n,r1,q1⟩=>?_) (by rw[O,j]) (by rw[j];rfl)
 ·let⟨m,rfl,a1⟩:=hx;show#[m,v,rfl,d,r1,a1]
 let⟨m,v,rfl,k9,rb,hP⟩:=q1;let⟨l,k,rfl,R,E⟩:=rb.lst;let⟨u,rfl,rx⟩:=vals1 r1;cases rx;let⟨g,T,y,hz⟩:=n.list R;have l1:=E.length;have l2:=T.length;have lt:l<d.z:=by let⟨o,e,_⟩:=y.isList;show aZ e
 show JN y.isList ?_;show oY ?_;have F:(d.heap.push (revObj l ((g.toArray.size:Int)-1))).get? d.z=ψ (revObj l ((g.toArray.size:Int)-1)):=bQ _ rfl;have G:∀b o,d.heap.get? b=ψ o->(d.heap.push (revObj l ((g.toArray.size:Int)-1))).get? b=ψ o:=λb o e=>aN _ e;have J:(d.heap.push (revObj l ((g.toArray.size:Int)-1))).objs.size=d.z+1:=nD ..;generalize d.heap.push (revObj l ((g.toArray.size:Int)-1))=L at F G J;show XF (s:={d with heap:=L}) (A:=X.A) (l:=l) (n.ok.hd hc) (bO lt) ε #[_,F,rfl,rfl] (y.isList.at λo e=>G _ o e) λU c M up=>?_;show EP X Γ Z Q (.ref L.objs.size) _;rw[show Shared.z {d with heap:=L}=d.z+1 from J] at M;rw[J];have kp:∀b o,d.heap.get? b=ψ o->U.get? b=ψ o:=λb o e=>up b o (bO (aZ e)) (G b o e);have I3:Inv X Γ Z i {d with heap:=U}:=n.kept (t':=d.toks) kp;have W:i (d.z+1)=ξ:=n.hok.fresh (pQ _);have VV:c6 k.reverse g.reverse:=by
  clear R y hz l1 l2 E M F
  induction T with
  |nil=>show .nil
  |cons r t ih=>
   erw[pB];show c6.append ih (.cons r .nil)
 have I4:=n.trackO (a:=d.z+1) (w:=.lst k.reverse) I3 (pQ _) W #[ε,g.reverse,c,VV,~~~M];show#[.ref (d.z+1),_,I4,rfl,kq _ _ _ i hP k9 W E.reverse]
end
def Wn(lo:Int)(n:Nat):It:=#[λi _=>i<n,λi H x a=>a=H/\x = .int (lo+i*2),λi _=>n<=i]
def Gc{P:bP}{w:cS}{K:aH}{G:Expr}(a:Addr)(lo:Int)(n:Nat):oh P w K G (Wn lo n) [a] a (λi h=>IsRangeIter h a (lo+(i:Nat)*2) ((n:Int)-(i:Nat)) 2) where
 mem:=η
 obj:=λi h st b c=>by
  have e:b=a:= ~~~c
  subst e;show#[_,st,λv z=>by have J:xY _=NC v:=z;cases J]
 keep:=λi h d st k=>k a η _ st
 item:=by
  intro X g j l m i Γ s Z H E I f st q;subst g j l;let⟨u,y,L,A,B,C⟩:=f a η;have W:=PH (prog:=X.prog) (w:=X.w) (I.ok.hd m) a lo 2 n;show W.item i s _ _ q st λv d D M F kk=>?_;let⟨t,rfl⟩:=M;have N:Inv X Γ Z H {s with heap:=d,toks:=D}:=I.turned (λb o c e=>kk b o (~~~c) e) u y A B C;show#[_,rfl,UQ (s:={s with heap:=d,toks:=D}) (n:="range_iterator") F rfl rfl μ #[.int (lo+i*2),H,N,#[t,rfl],#[rfl,rfl],F,λb c=>(f b c).1]]
 done:=by
  intro X g j l m i Γ s Z H E I f st q;subst g j l;let⟨u,y,L,A,B,C⟩:=f a η;show tG (I.ok.hd m) st (by have:n<=i:=q;lia) λd O=>#[rfl,I.turned (t':=s.toks) (λb o c e=>O b o c e) u y A B C]
 self:=λ_ _ _ _ _ st h=>oE st h
def Vn(a b:Int):dS a b 2=if a<b then(b-a-1) / 2+1 else 0:=by
 unfold dS;erw[show(2:Int) > 0 by decide,if_true]
def Q2(c:-(2 ^ 60)<=a)(d:a<2 ^ 60)(e:-(2 ^ 60)<=b)(f:b<2 ^ 60):vQ a b 2=ζ:=by
 unfold vQ;rw[Vn];erw[bY,jY,vE,decide_eq_true_eq,beq_iff_eq,show(2:Int) > 0 by decide,if_true];split <;> lia
section
variable{X:Cx}{tg:Expr}
def Pu{Z:St}{s:aJ}{lo hi:Int}{t u v:Tok}(I:Inv X Γ Z H s)(a:-(2 ^ 60)<=lo)(d:lo<2 ^ 60)(f:-(2 ^ 60)<=hi)(g:hi<2 ^ 60)
  (q:R (Wn lo ((hi-lo+1) / 2).toNat) H):Θ X (pyIter (.ref s.z)) (PIE X Γ Z tg R) E {s with heap:=s.heap.push {cls:=.type "range",data:=.fields (mt [.int lo t,.int hi u,.int 2 v])},toks:=tk}:=by
 show xV (ED ..) (Q2 a d f g) ?_;have c:Inv X Γ Z H {s with heap:=s.heap.push {cls:=.type "range",data:=.fields (mt [.int lo t,.int hi u,.int 2 v])},toks:=tk}:=I.kept λb o e=>aN _ e;have h:lo+((0:Nat):Int)*2=lo:=η
 have i:((((hi-lo+1) / 2).toNat:Nat):Int)-((0:Nat):Int)=dS lo hi 2:=by rw[Vn];split <;> lia
 generalize k:s.heap.push {cls:=.type "range",data:=.fields (mt [.int lo t,.int hi u,.int 2 v])} = a at c;show#[a.objs.size,[a.objs.size],_,_,H,rfl,c.kept (t':=tk) λb o e=>aN _ e,Gc _ lo ((hi-lo+1) / 2).toNat,?_,λb j=>?_,q]
 ·show IsRangeIter _ _ (lo+((0:Nat):Int)*2) (((((hi-lo+1) / 2).toNat:Nat):Int)-((0:Nat):Int)) 2;rw[h,i];show bQ _ rfl
 ·have e:b=a.objs.size:= ~~~j
  subst e;show c.fpOk (aS _) (c.hok.fresh (aS _))
def ZM(lo:Int)(n:Nat):ι D:=(bT n).map λk:Nat=>D.int (lo+(k:Int)*2)
def Xo(lo:Int)(n:Nat):r8 X (Wn lo n) (ZM lo n) H0:=λi H c=>by
 show#[λd e=>?_,λb=>by show n<=i;simpa [ZM] using b];unfold ZM at e;rw[bJ] at e;by_cases a:i<n
 ·rw[kX a] at e;cases e;show#[a,λx f y=>by let⟨rfl,rfl⟩:=y;show#[cc.refl _,.int _]]
 ·rw[gC (~~~a)] at e;cases e
structure ww(j:Int):Prop where
 lo:-(2 ^ 60)<=j
 hi:j<2 ^ 60
def Bu(t:RA):RA:=λa Q=>t a λb=>match b with
 | [.int i,.int j,.int c]=>(ww i/\ww j/\c=2)/\Q (ZM i ((j-i+1) / 2).toNat)
 |_=>False
def V3(a:TA):TI:=λZ H R=>a Z H λb c=>∃i j:Int,b=[.int i,.int j,.int 2]/\(-(2 ^ 60)<=i/\i<2 ^ 60/\-(2 ^ 60)<=j/\j<2 ^ 60)/\R (Wn i ((j-i+1) / 2).toNat) c
def Yw{a b c:Expr}{p pos:Pos}(k:Gl X "range")(l:X.mg "range" = ξ)(m:PA X [a,b,c] ta)(n:starEach [a,b,c] X.env=(χ,eval a X.env)::starEach [b,c] X.env)(o:(backTo pos (starEach [b,c] X.env)).any (·.1)=χ):
  PI X tg (.Call (.Name "range" p) [a,b,c] [] pos) (V3 ta):=by
 intro Γ s Z H R I h;show Call_ (lU I k l BU (cN (h8 (m pos Γ s Z H _ I h) λB C ⟨D,E,u,r1,f⟩=>?_) n o));obtain⟨i,j,e,⟨f,v,w,y⟩,q⟩:=f;subst e;cases r1 with
 |cons r d=>
  cases d with
  |cons z d=>
   cases d with
   |cons g d=>
    cases d;let⟨t,rfl⟩:=r;let⟨F,rfl⟩:=z;let⟨A,rfl⟩:=g;show call_range_3 μ (Pu u f v w y q) (gJ (BL.noPy (show BL 9000 2 from(by show bF (show 2<2 ^ 2 by decide) (uT μ μ)))))
def Xb{a b c:Expr}{t:RA}{p pos:Pos}(f:X.mg "range" = ξ)(g:DA X [a,b,c] t)(h:Gl X "range":=by rfl)
  (l:starEach [a,b,c] X.env=(χ,eval a X.env)::starEach [b,c] X.env:=by rfl) (m:(backTo pos (starEach [b,c] X.env)).any (·.1)=χ:=by rfl):DI X tg (.Call (.Name "range" p) [a,b,c] [] pos) (Bu t):=by
 show PI.mono (Yw h f g l m) λZ H R n=>lF n λd P st q k=>#[d,_,st,q,λu v o e s r=>?_];split at e
 ·rename_i i j c;rw[a_.ints_inv (ns:=[i,j,c]) r,e.1.2.2];show#[i,j,rfl,#[e.1.1.lo,e.1.1.hi,e.1.2.1.lo,e.1.2.1.hi],k _ _ o e.2 s (Xo i _)]
 ·show e.elim
end
end
end L2.R2
namespace L2
open PySem PySem.Spec PyProof.Rows
section
variable{κ:Type}[DecidableEq κ]
def qN(kvs:ι (κ×V))(k:κ):Option V:=(kvs.find? λa=>decide (a.1=k)).map (·.2)
def JY(kvs:ι (κ×V))(k:κ)(v:V):ι (κ×V):=
 if(kvs.any λa=>decide (a.1=k))=ζ then kvs.map (λa=>if a.1=k then(a.1,v) else a) else kvs++[(k,v)]
def tE{p:κ×V}{r:ι (κ×V)}{k:κ}(e:p.1=k):qN (p::r) k=ψ p.2:=by simp[qN,oM,e]
def pZ{p:κ×V}{r:ι (κ×V)}{k:κ}(e:¬p.1=k):qN (p::r) k=qN r k:=by simp[qN,oM,e]
theorem WT(k:κ):∀kvs:ι (κ×V),(kvs.any λkv=>decide (kv.1=k))=(qN kvs k).isSome
 | []=>rfl
 |p::r=>by
  rw[zB];by_cases e:p.1=k
  ·erw[tE e,decide_eq_true e,Bool.true_or,Option.isSome_some]
  ·rw[pZ e,decide_eq_false e,WX];show WT k r
def PY(kvs:ι (κ×V))(k:κ)(v:V):(JY kvs k v).length<=kvs.length+1:=by
 unfold JY;split
 ·rw[aG];lia
 ·rw[aU,aQ,cY];lia
def Uy{kvs:ι (κ×V)}{k:κ}(v:V)(h:qN kvs k=ξ):JY kvs k v=kvs++[(k,v)]:=by
 unfold JY;rw[WT,h];show υ μ
def m6.isSome_eq(r:m6 o u):o.isSome=u.isSome:=by
 cases o with
 |none=>cases u with
  |none=>rfl
  |some _=>show(show False from r).elim
 |some _=>cases u with
  |none=>show(show False from r).elim
  |some _=>rfl
def m6.getD(r:m6 o u)(a:RelV d d'):RelV (o.getD d) (u.getD d'):=by
 cases o with
 |none=>cases u with
  |none=>show a
  |some _=>show(show False from r).elim
 |some _=>cases u with
  |none=>show(show False from r).elim
  |some _=>show r
def KV.val(r:KV kvs vs)(k:κ):m6 (qN kvs k) (valueAt vs k):=by
 unfold KV at r
 induction r with
 |nil=>show oB
 | @cons p q i a h t f=>
  let⟨d,g⟩:=h;by_cases e:p.1=k
  ·have c:q.1=k:=d.symm.trans e;have b:valueAt (q::a) k=ψ q.2:=(by simp[valueAt,oM,c]);rw[tE e,b];show g
  ·have c:¬q.1=k:=λz=>e (d.trans z);have b:valueAt (q::a) k=valueAt a k:=(by simp[valueAt,oM,c]);rw[pZ e,b];show f
def KV.any(r:KV kvs vs)(k:κ):(kvs.any λkv=>decide (kv.1=k))=vs.any λkv=>decide (kv.1=k):=by
 unfold KV at r
 induction r with
 |nil=>rfl
 |cons h t a=>rw[zB,zB,a,h.1]
def KV.repl(r:KV kvs vs)(k:κ)(b:RelV y u):
  KV (kvs.map λkv=>if kv.1=k then(kv.1,y) else kv) (vs.map λkv=>if kv.1=k then(kv.1,u) else kv):=by
 unfold KV at r⊢
 induction r with
 |nil=>show .nil
 | @cons p q f g h t c=>
  rw[aM,aM];show .cons ?_ c;let⟨a,d⟩:=h;by_cases e:p.1=k
  ·rw[Ω e,Ω (a.symm.trans e)];show#[a,b]
  ·rw[υ e,υ (λz=>e (a.trans z))];show#[a,d]
def KV.put(r:KV kvs vs)(k:κ)(a:RelV y u):KV (JY kvs k y) (stored vs k u):=by
 unfold JY stored;rw[r.any k];by_cases e:(vs.any λb=>decide (b.1=k))=ζ
 ·rw[Ω e,Ω e];show r.repl k a
 ·rw[υ e,υ e];show Paired.snoc r #[rfl,a]
def KV.length{kvs:ι (κ×V)}{vs:ι (κ×aF)}(r:KV kvs vs):kvs.length=vs.length:=zC r
end
def Dw(r:RelV (kV k) u):(gA P w).is k u=ζ:=by
 cases k with
 |inl i=>let⟨t,e⟩:=(show ∃t,u=AI i t from r);subst e;show Ed P w i t
 |inr x=>let⟨t,e⟩:=(show ∃t,u=NW x t from r);subst e;show Ee P w x t
theorem YU:∀{ks:ι ij}{us:ι aF},c6 (ks.map kV) us->ItemsAre (gA P w) ks us
 | [],_,r=>by rw[cF] at r;cases r;show .nil
 |k::ks,_,r=>by
  rw[aM] at r;cases r with
  |cons h t=>show .cons (Dw h) (YU t)
abbrev KT(H:Hp):ι (ι ij×V)->ι (ι ij×Addr×aF)->Prop:=Paired λp q=>p.1=q.1/\H q.2.1=ψ (.tup (p.1.map kV))/\RelV p.2 q.2.2
def KT.val(r:KT H kvs xs)(k:ι ij):m6 (qN kvs k) ((atKey xs k).map (·.2)):=by
 induction r with
 |nil=>show oB
 | @cons p q i a h t f=>
  let⟨d,_,g⟩:=h;by_cases e:p.1=k
  ·have c:q.1=k:=d.symm.trans e;have b:atKey (q::a) k=ψ q.2:=(by simp[atKey,oM,c]);rw[tE e,b];show g
  ·have c:¬q.1=k:=λz=>e (d.trans z);have b:atKey (q::a) k=atKey a k:=(by simp[atKey,oM,c]);rw[pZ e,b];show f
def KT.repl(r:KT H kvs xs)(k:ι ij)(c:RelV y u):
  KT H (kvs.map λkv=>if kv.1=k then(kv.1,y) else kv) (xs.map (putAt k u)):=by
 induction r with
 |nil=>show .nil
 | @cons p q g i h t d=>
  rw[aM,aM];show .cons ?_ d;let⟨a,b,f⟩:=h;unfold putAt;by_cases e:p.1=k
  ·rw[Ω e,Ω (a.symm.trans e)];show#[a,b,c]
  ·rw[υ e,υ (λz=>e (a.trans z))];show#[a,b,f]
def KT.put(r:KT H kvs xs)(k:ι ij)(c:H b=ψ (.tup (k.map kV)))(a:RelV y u):
  KT H (JY kvs k y) (storedH xs k b u):=by
 have e:(kvs.any λd=>decide (d.1=k))=(atKey xs k).isSome:=by
  rw[WT,(r.val k).isSome_eq,Option.isSome_map]
 unfold JY storedH;rw[e];by_cases q:(atKey xs k).isSome=ζ
 ·rw[Ω q,Ω q];show r.repl k a
 ·rw[υ q,υ q];show Paired.snoc r #[rfl,c,a]
def KT.keeps(r:KT H kvs xs)(a:∀b ys,H b=ψ (.tup ys)->H' b=ψ (.tup ys)):KT H' kvs xs:=
 Paired.mapP r λ_ _ z=>#[z.1,a _ _ z.2.1,z.2.2]
def C6(ok:ls P w H h)(e:Rd H a u):gw P w H h a u:=e.ok ok
def YM(ok:ls P w H h)(e:Rd H a (.dK kvs)):kvs.length<=sizeLine/\(a == sysModules)=χ/\∃vs,KV kvs vs/\h.DictOf (gA P w) a vs:=
 show gw P w H h a (.dK kvs) from C6 ok e
def A3(ok:ls P w H h)(e:H a=ψ (.dK kvs)):kvs.length<=sizeLine/\(a == sysModules)=χ/\∃vs,KV kvs vs/\h.DictOf (gA P w) a vs:=YM ok (.inl e)
def VB(ok:ls P w H h)(e:H a=ψ (.tup (ks.map kV))):(tupleKind (gA P w)).is h ks a:=by
 let⟨_,b,r,o,c,d,n,f⟩:=(show gw P w H h a (.tup (ks.map kV)) from ok a _ e);show#[o,b.toArray,n,c,d,f,~~~YU r]
def YN(ok:ls P w H h)(e:Rd H a (.dT kvs)):kvs.length<=sizeLine/\(a == sysModules)=χ /\
  ∃xs,KT H kvs xs/\h.DictOfH (tupleKind (gA P w)) a xs:=by
 let⟨z,y,xs,r,o,d,f,g,i,j,k,n⟩:=(show gw P w H h a (.dT kvs) from C6 ok e);show#[z,y,xs,r,o,d,f,g,i,j,k,λx b=>?_,n];have all:∀{l:ι (ι ij×V)}{m:ι (ι ij×Addr×aF)},KT H l m->∀x∈m,(tupleKind (gA P w)).is h x.1 x.2.1:=by
  intro l m q
  induction q with
  |nil=>intro x b;show nomatch b
  | @cons p q u v c t s=>
   intro x b;rcases aP.mp b with e |b
   ·subst e;show VB ok (by rw[<-c.1];show c.2.1)
   ·show s x b
 show all r x b
def U4(ok:ls P w H h)(e:H a=ψ (.dT kvs)):kvs.length<=sizeLine/\(a == sysModules)=χ /\
  ∃xs,KT H kvs xs/\h.DictOfH (tupleKind (gA P w)) a xs:=YN ok (.inl e)
def Qo(H:Hp)(a:Addr)(y:V)(r:Option V):Prop:=
 (∃c k,Rd H a (.dK c)/\y=kV k/\r=qN c k)\/∃c k b,Rd H a (.dT c)/\y = .ref b/\H b=ψ (.tup (k.map kV))/\r=qN c k
def ue(H:Hp)(a:Addr)(y v:V)(H':Hp):Prop:=
 (∃c k,H a=ψ (.dK c)/\y=kV k/\c.length<sizeLine/\H'=f6 H a (.dK (JY c k v))) \/
 ∃c k b,H a=ψ (.dT c)/\y = .ref b/\H b=ψ (.tup (k.map kV))/\c.length<sizeLine/\H'=f6 H a (.dT (JY c k v))
def ue.t(e:H a=ψ (.dT kvs))(c:H b=ψ (.tup (k.map kV)))(d:kvs.length<sizeLine):
  ue H a (.ref b) v (f6 H a (.dT (JY kvs k v))):=.inr #[kvs,k,b,e,rfl,c,d,rfl]
section
variable{σ:St}{s:aJ}
def Inv.big(I:Inv X Γ σ H s):sysModules<s.z:=by
 have h:mainGlobals<s.z:=(I.mod.glob.keeps I.bk).lt;show mO μ h
def Np(B:A.units+1<cLine)(I:Inv X Γ σ H s)(g:Qo H a y (ψ v))(q:RelV y u)(h:∀w' s',Inv X Γ σ H s'->RelV v w'->Q w' s'):
  wpAny (model X.prog X.w) A (getItem (.ref a) u) Q E s:=by
 rcases g with⟨d,k,e,f,l⟩ | ⟨d,k,b,e,f,C,l⟩
 ·subst f;let⟨z,D,F,c,i⟩:=YM I.hok e;let⟨w',j,m⟩:=m6.some_of (v:=v) (o:=valueAt F k) (by rw[l];show c.val k);show wpAny_getItem_of (Dw q) i.mapOf j (h w' _ (I.tok _) m)
 ·subst f;cases (show u=eG b from q);let⟨z,D,G,c,i⟩:=YN I.hok e;let⟨w',j,m⟩:=m6.some_of (v:=v) (o:=(atKey G k).map (·.2)) (by rw[l];show c.val k);let⟨p,J,n⟩:=fY.mp j;show wpAny_getItem_heap (xT B) (VB I.hok C) i J ?_;rw[n];show h w' _ (I.tok _) m
def An(I:Inv X Γ σ H s)(d:A_ (H a))(f:qA a s.heap h')(g:∃q,h'.get? a=ψ q)(c:gw X.prog X.w (f6 H a ob) h' a ob):
  Inv X Γ σ (f6 H a ob) {s with heap:=h',toks:=t'}:=
 I.write (x:=a) (e:=a) d (.inl rfl) (λb q h z=>(f.2 b h).trans z) g c
def Sk(z:kvs.length<=sizeLine)(c:(a == sysModules)=χ)(b:KV kvs vs)(d:h'.DictOf (gA P w) a vs):
  gw P w H' h' a (.dK kvs):=#[z,c,vs,b,d]
def Nq(N:A.units+1<cLine)(I:Inv X Γ σ H s)(g:ue H a y v H')(G:RelV y u)(J:RelV v r)(h:∀s',Inv X Γ σ H' s'->Q () s'):
  wpAny (model X.prog X.w) A (setItem (.ref a) u r) Q E s:=by
 rcases g with⟨d,k,e,m,l,n⟩ | ⟨d,k,b,e,m,K,l,n⟩
 ·subst m n;let⟨z,o,O,f,B⟩:=A3 I.hok e;have C:O.length<=sizeLine:=by rw[<-f.length];show z
  have D:(JY d k v).length<=sizeLine:=by have:=PY d k v;lia
  show wpAny_setItem_pairs (hsz:=C) (Dw G) B λL i F=>h _ ?_;have P:∃q,L.get? a=ψ q:=let ⟨q,_,_,j,_⟩:=i;#[q,j];show An I (by rw[e];show oB) F P (Sk D o (f.put k J) i)
 ·subst m n;cases (show u=eG b from G);let⟨z,o,R,f,B⟩:=U4 I.hok e;have C:R.length<=sizeLine:=by rw[<-zC f];show z
  have D:(JY d k v).length<=sizeLine:=by have:=PY d k v;lia
  show wpAny_setItem_heap (hsz:=C) (xT N) (VB I.hok K) B λL i F=>h _ ?_;let⟨q,T,U,j,V,W,Y,_,Z⟩:=i;show An I (by rw[e];show oB) F #[q,j] #[D,o,_,(f.put k K J).keeps λc ys M=>?_,q,T,U,j,V,W,Y,Z];rw[cQ (W2 M e (λz=>nomatch z))];show M
end
def Wo(i:Expr):Prop:=∀a b,subscripted i χ a b=operate [a,b] (getItem a b)
def Zr{s:aJ}{pos:Pos}{T id:String}
  (e:typeLookup (.type T) "__getitem__" = pure (ψ (.builtin id))) (f:Wo slice)
  (h:Δ prog w A (eval value env) (λo s₁=>Δ prog w A (eval slice env) (λi s₂=>s₂.TypeIs o T/\Δ prog w A (getItem o i) Q E s₂) E s₁) E s):
  Δ prog w A (eval (.Subscript value slice pos) env) Q E s:=by
 show Subscript_ (gM h (λo s₁ g=>gM g (λi s₂ b=>?_) λ_ _ x=>x) λ_ _ x=>x);let⟨c,b⟩:=b;unfold subscriptTail;show aC ?_;rw[getitemInPython_of_ne c.not_modules];show aC (oQ c e ?_);have a:Δ prog w A (subscripted slice χ o i) (λr d=>Δ prog w A (letTemporaryGo value o r >>= λ_=>pure r) Q E d) E s₂:=by
  rw[f o i];show wpAny_operating (gM b (λr d j=>aC (wpAny_letTemporaryGo (aO j))) λ_ _ x=>x)
 first
  |show aO (aC a)
  |show aC (aO (aC a))
  |show aC a
def Dg{Z:St}{s:aJ}(I:Inv X Γ Z H s)(g:Qo H a y o):s.TypeIs (.ref a) "dict":=by
 rcases g with⟨c,k,e,_,_⟩ | ⟨c,k,b,e,_,_,_⟩
 ·let⟨_,_,f,_,d⟩:=YM I.hok e;show d.typeIs
 ·let⟨_,_,h,_,d⟩:=YN I.hok e;show d.typeIs
def Z8(c d:TE):TE:=λY H Q=>c Y H λx e=>d Y e λy b=>∃a v,x = .ref a/\Qo b a y (ψ v)/\Q v b
def Z1(c d e:TE):TS:=λD Y H=>e Y H λv f=>c Y f λx g=>d Y g λy H3=>∃a b,x = .ref a/\ue H3 a y v b/\D.nx Y b
section
variable{pos pos' tpos:Pos}
def Lv(c:X.A.units+1<cLine)(d:PE X o td)(hi:PE X i ty)(e:Wo i):PE X (.Subscript o i pos) (Z8 td ty):=by
 intro Γ s Y H Q I h;show Zr PySem.F.slot_dict_getitem.lookup e (h8 (d Γ s Y H _ I h) λu f ⟨x,j,k,l,m⟩=>h8 (hi Γ f Y j _ k m) λD E ⟨y,n,b,q,a,v,w,g,z⟩=>?_);subst w;obtain rfl:u=eG a:=l;show#[Dg b g,Np c b g q λG J B C=>#[v,n,B,C,z]]
def Yy(b:X.A.units+1<cLine)(c:PE X o td)(hi:PE X i ty)(d:PE X value tv)(e:swapsWith value (ψ (.Subscript o i pos')) pos.line X.env=pure χ):
  PS X (.Assign [.Subscript o i pos'] value pos) (Z1 td ty tv):=by
 intro Γ s Y H D I h;show wpAny_Assign_Subscript (h8 (d Γ s Y H _ I h) λr f ⟨v,j,k,l,m⟩=>h8 (c Γ f Y j _ k m) λu n ⟨x,q,w,z,B⟩=>h8 (hi Γ n Y q _ w B) λL M ⟨y,H3,C,E,a,F,G,g,J⟩=>?_) e;subst G;obtain rfl:u=eG a:=z;show Nq b C g E l λN K=>#[Y,F,K,J]
end
def Sj(h:Heap)(a:sysModules<h.objs.size):gw P w H (h.push {cls:=.type "dict",data:=.dict (mt [])}) h.objs.size (.dK []):=
 #[dL _,beq_eq_false_iff_ne.mpr (Ne.symm (bO a)),[],.nil,Heap.DictOf.new h]
def Su(h:Heap)(a:sysModules<h.objs.size):gw P w H (h.push {cls:=.type "dict",data:=.dict (mt [])}) h.objs.size (.dT []):=
 #[dL _,beq_eq_false_iff_ne.mpr (Ne.symm (bO a)),[],.nil,_,(mt []),0,bQ _ rfl,#[rfl,rfl,rfl],rfl,rfl,EJ]
def Q5:TE:=λ_ H Q=>∀p,H p=ξ->Q (.ref p) (f6 H p (.dK []))
def Q6:TE:=λ_ H Q=>∀p,H p=ξ->Q (.ref p) (f6 H p (.dT []))
section
variable{pos:Pos}
def Uf:PE X (.Dict [] [] pos) Q5:=λΓ s Z H Q I h=>
 OY #[.ref s.z,_,I.laid (a:=s.z) (o:=.dK []) (t':=s.toks) (λ_ _ q=>aN _ q) (aS _) (Sj s.heap I.big),rfl,h _ (I.hok.fresh (aS _))]
def Ug:PE X (.Dict [] [] pos) Q6:=λΓ s Z H Q I h=>
 OY #[.ref s.z,_,I.laid (a:=s.z) (o:=.dT []) (t':=s.toks) (λ_ _ q=>aN _ q) (aS _) (Su s.heap I.big),rfl,h _ (I.hok.fresh (aS _))]
end
abbrev VV:ι (V×V)->ι (aF×aF)->Prop:=Paired λp q=>RelV p.1 q.1/\RelV p.2 q.2
structure M1(X:Cx)(o:Expr)(m:Str)(apos:Pos)(e:Expr)(cpos:Pos):Prop where
 base:attributeBase o m X.env (eval o X.env)=eval o X.env
 few:((backTo cpos (starEach [e] X.env)).all (λx=>!x.1) && (backToKw cpos (keywordEach [] X.env)).all (λx=>x.1.isSome)
  && decide (([e]:ι Expr).length+([]:ι pA).length+(if([]:ι pA).isEmpty then 0 else 1)<30))=ζ
 line:(apos.endLine == cpos.line)=ζ
 trees:backTo cpos (starEach [e] X.env)=[(χ,eval e X.env)]
structure M2(X:Cx)(o:Expr)(m:Str)(apos:Pos)(e f:Expr)(cpos:Pos):Prop where
 base:attributeBase o m X.env (eval o X.env)=eval o X.env
 few:((backTo cpos (starEach [e,f] X.env)).all (λx=>!x.1) && (backToKw cpos (keywordEach [] X.env)).all (λx=>x.1.isSome)
  && decide (([e,f]:ι Expr).length+([]:ι pA).length+(if([]:ι pA).isEmpty then 0 else 1)<30))=ζ
 line:(apos.endLine == cpos.line)=ζ
 trees:backTo cpos (starEach [e,f] X.env)=[(χ,eval e X.env),(χ,eval f X.env)]
def IsD(H:Hp)(a:Addr):Prop:=(∃b,Rd H a (.dK b))\/∃b,Rd H a (.dT b)
def H8{Z:St}{s:aJ}(I:Inv X Γ Z H s)(d:IsD H a):
  s.TypeIs (.ref a) "dict"/\(∀b,eG a = .ref b->∃ob,s.heap.get? b=ψ ob/\ob.dict=ξ)/\(a == sysModules)=χ:=by
 rcases d with⟨f,e⟩ | ⟨f,e⟩
 ·let⟨_,g,j,_,c⟩:=YM I.hok e;show#[c.typeIs,λb q=>?_,g];cases q;let⟨ob,_,_,h,i,_⟩:=c;show#[ob,h,i.2.1]
 ·let⟨_,g,k,_,c⟩:=YN I.hok e;show#[c.typeIs,λb q=>?_,g];cases q;let⟨ob,_,_,h,i,_⟩:=c;show#[ob,h,i.2.1]
section
variable{σ:St}{s:aJ}
def E8(v:A.units+1<cLine)(I:Inv X Γ σ H s)(g:Qo H a y o)(n:RelV y u)(q:RelV d r)(h:∀w' s',Inv X Γ σ H s'->RelV (o.getD d) w'->Q w' s'):
  wpAny (model X.prog X.w) A (call (.builtin "dict.get") [.ref a,u,r]) Q E s:=by
 rcases g with⟨i,k,e,j,l⟩ | ⟨i,k,b,e,j,B,l⟩
 ·subst j;let⟨z,m,D,c,f⟩:=YM I.hok e;show LJ tO f.typeIs BQ (AE _ _ _) (meets_dict_get_default (gA X.prog X.w) a (Dw n) m r) #[_,f.mapOf,h _ _ (I.tok _) ?_];rw[l];show(c.val k).getD q
 ·subst j;cases (show u=eG b from n);let⟨z,m,C,c,f⟩:=YN I.hok e;show LJ tO f.typeIs BQ (AE _ _ _) (meetsH_dict_get_default (tupleKind (gA X.prog X.w)) a b m r) #[xT v,k,C,VB I.hok B,f,h _ _ (I.tok _) ?_];rw[l];show(c.val k).getD q
end
def Q4(c d e:TE):TE:=λZ H Q=>c Z H λx b=>∃a,x = .ref a/\IsD b a/\d Z b λy f=>e Z f λz H3=>∃o,Qo H3 a y o/\Q (o.getD z) H3
def Ue(c:X.A.units+1<cLine)(i:PE X o td)(j:PE X e ty)(k:PE X f tx)(m:M2 X o "get" apos e f cpos):PE X (.Call (.Attribute o "get" apos) [e,f] [] cpos) (Q4 td ty tx):=by
 intro Γ s Z H Q I h;show wpAny_Call_method m.base m.few m.line AH tO PySem.F.type_dict_get (h8 (i Γ s Z H _ I h) λu l ⟨x,n,b,q,a,v,d,w⟩=>?_);subst v;obtain rfl:u=eG a:=q;let⟨B,C,_⟩:=H8 b d;show#[B,C,?_];rw[m.trees];show sE rfl (EB (lK (h8 (j Γ l Z n _ b w) λR D ⟨y,E,G,J,K⟩=>
  lK (h8 (k Γ D Z E _ G K) λT U ⟨z,H3,L,M,V,g,N⟩=>oY ?_))))
 show E8 c L g J M λW Y O P=>#[_,H3,O,P,N]
end L2
namespace L2.R2
section
open PySem PySem.Spec PyProof.Rows L2
def Ze:V->ι V->Hp->VK->Prop:=λx c H Q=>∃a b k y,x = .ref a/\c=[kV k,y]/\H a=ψ (.dK b)/\b.length<sizeLine /\
 (∀v,qN b k=ψ v->Q v H)/\(qN b k=ξ->Q y (f6 H a (.dK (b++[(k,y)]))))
def Ol:MtR X "dict.setdefault" Ze:=by
 intro Γ s Z H x M v N Q I m n h;let⟨a,c,k,y,rfl,rfl,d,o,A,B⟩:=h;cases m;let⟨u,w,rfl,C,f⟩:=n.two;let⟨z,g,D,b,i⟩:=A3 I.hok d;have val:=b.val k;show LJ vG i.typeIs PySem.F.entry_dict_setdefault (PySem.F.args_dict_setdefault_3 _ _ _) (kt_meets_setdefault (gA X.prog X.w) a (Dw C) g w)
  #[D,i,by rw[<-b.length];show z,λv E=>?_,λG J j K=>?_]
 ·rw[E] at val;cases e:qN c k with
  |none=>rw[e] at val;show(show False from val).elim
  |some l=>rw[e] at val;show#[l,H,I.tok _,val,A l e]
 ·rw[G] at val;cases e:qN c k with
  |some _=>rw[e] at val;show(show False from val).elim
  |none=>
   have L:∃q,J.get? a=ψ q:=let ⟨q,_,_,hq,_⟩:=j;#[q,hq];have r2:=b.put k f;rw[Uy y e] at r2;show#[y,_,An I (by rw[d];show oB) K L (Sk (by rw[aU];show o) g r2 j),f,B e]
def DR:ι (Int×ι D)->Int->ι (Int×ι D)
 | [],k=>[(k,[])]
 | (a,b)::r,k=>if a=k then(a,b)::r else(a,b)::DR r k
def putL:ι (Int×ι D)->Int->D->ι (Int×ι D)
 | [],k,d=>[(k,[d])]
 | (a,b)::r,k,d=>if a=k then(a,b++[d])::r else(a,b)::putL r k d
section
variable{K:aH}{H₀ H H':Hp}{kvs:ι (Int×ι D)}{gV:ι (ij×V)}{as:ι Addr}{k:Int}
def Jj{v:V}(t:k_ K H₀ H kvs gV as)(e:qN gV (dR k)=ψ v):DR kvs k=kvs:=by
 induction t with
 |nil=>cases e
 | @cons c b f g kvs gV as h i r n t d=>
  unfold DR;by_cases a:c=k
  ·rw[Ω a]
  ·rw[υ a,d (by rw[pZ (λz=>a (by cases z;rfl))] at e;show e)]
def k_.there{v:V}(t:k_ K H₀ H kvs gV as)(e:qN gV (dR k)=ψ v):∃b vs ds,v = .ref b/\b∈as/\H b=ψ (.lst vs)/\a_ K H ds vs/\(∃p∈kvs,p.2=ds) /\
  ∀(H':Hp)(d:D)(w:V),c5 H H'->H' b=ψ (.lst (vs++[w]))->(∀a o,a∈as->a≠b->H a=ψ o->H' a=ψ o)->ig K H' d w->k_ K H₀ H' (putL kvs k d) gV as:=by
 induction t with
 |nil=>cases e
 | @cons u b vs ds kvs gV as h s r n t y=>
  by_cases i:u=k
  ·subst i;rw[tE rfl] at e;cases e;show#[b,vs,ds,rfl,.head _,h,r,#[_,.head _,rfl],λH' d w f j g l=>?_];unfold putL;rw[Ω rfl];show .cons j s ((r.keep f).append (.cons l .nil)) n (t.keep f λa m o e=>g a o (.tail _ m) (by rintro rfl;show n m) e)
  ·rw[pZ (λz=>i (by cases z;rfl))] at e;obtain⟨c,A,B,C,m,E,F,⟨p,G,I⟩,J⟩:=y e;show#[c,A,B,C,.tail _ m,E,F,#[p,.tail _ G,I],λH' d w f j g l=>?_];unfold putL;rw[υ i];show .cons (g b _ (.head _) (by rintro rfl;show n m) h) s (r.keep f) n (J H' d w f j (λa o q=>g a o (.tail _ q)) l)
def k_.fresh{p:Addr}(t:k_ K H₀ H kvs gV as)(e:qN gV (dR k)=ξ)(g:c5 H H')(d:∀a o,a∈as->H a=ψ o->H' a=ψ o)(i:H' p=ψ (.lst []))(h0:H₀ p=ξ)(c:p∉as):
  k_ K H₀ H' (DR kvs k) (gV++[(dR k,.ref p)]) (as++[p]):=by
 induction t with
 |nil=>show .cons i h0 .nil η .nil
 | @cons j b s u kvs gV as h l r n t m=>
  have f:¬j=k:=λz=>by rw[tE (by rw[z])] at e;cases e
  rw[pZ (λz=>f (by cases z;rfl))] at e;unfold DR;rw[υ f];rw[aP,not_or] at c;show .cons (d b _ (.head _) h) l (r.keep g) (λz=>(bV.mp (show b∈as++[p] from z)).elim n λz=>c.1 (bE.mp z).symm) (m e (λa o q=>d a o (.tail _ q)) c.2)
def Ql{p:V}(t:k_ K H₀ H kvs gV as)(e:qN gV (dR k)=ξ):qN (gV++[(dR k,p)]) (dR k)=ψ p:=by
 induction t with
 |nil=>show tE rfl
 | @cons c b f g kvs gV as h i r n t d=>
  have a:¬(dR c:ij)=dR k:=λz=>by rw[tE z] at e;cases e
  rw[pZ a] at e;rw[bZ,pZ a];show d e
theorem Uz:∀(kvs:ι (Int×ι D))(k:Int)(d:D),putL (DR kvs k) k d=putL kvs k d
 | [],k,d=>by simp[DR,putL]
 | (b,c)::r,k,d=>by
  unfold DR;by_cases a:b=k
  ·rw[Ω a]
  ·rw[υ a];erw[putL,υ a];rw[Uz r k d]
theorem Fe:∀(kvs:ι (Int×ι D))(k:Int){p:Int×ι D},p∈DR kvs k->p∈kvs\/p.2=[]
 | [],k,p,h=>by rw[DR,bE] at h;subst h;show .inr rfl
 | (b,c)::r,k,p,h=>by
  unfold DR at h;by_cases a:b=k
  ·rw[Ω a] at h;show .inl h
  ·rw[υ a] at h;rcases aP.mp h with h |h
   ·show .inl (h▸.head _)
   ·show(Fe r k h).imp (.tail _) id
def k_.len(t:k_ K H₀ H kvs gV as):kvs.length=gV.length:=by
 induction t with
 |nil=>rfl
 |cons _ _ _ _ _ a=>simp[a]
end
section
variable{X:Cx}{e k:Expr}{pos pos' p apos cpos im l_ o5 f8:Pos}{te tk:RE}{x:Str}
def Ma(i:Nat):RS:=λE a=>E.nx (a.set i (ψ (.dcl [])))
def Ld{i:Nat}(l:X.N.Nodup)(hi:X.N[i]?=ψ x:=by rfl)(m:Loc X.env.scope x:=by walk_at "vis")(s:swapsWith (.Dict [] [] p) (ψ (.Name x pos')) pos.line X.env=pure χ:=by rfl)
  (u:X.fn x=ζ\/X.env.scope.names.lookup x=ψ .local:=by walk_at "loc"):DS X (.Assign [.Name x pos'] (.Dict [] [] p) pos) (Ma i):=
 PS.mono (Bm l hi m Uf s u) λA Z H v=>pV v λd E st q n r b c=>λa f=>by
  have g:cc H (f6 H a (.dK [])):=cc.fn λb o h=>by rw[cQ (cX h f)];show h
  show n _ _ _ q (.of g) (st.put g #[a,[],[],rfl,eV,st.same.free f,.nil] λc o=>?_);let⟨p,B,w,j,y⟩:=o;cases w;rw[eV] at j;cases j;rcases y with rfl | ⟨_,z⟩
  ·show f
  ·cases z
def ZE(i:Nat)(tk te:RE):RS:=λE a=>match a[i]? with
 |some (ψ (.dcl b))=>tk a λc=>match c with
  | .int k=>Sz (b.length+1)/\te (a.set i (ψ (.dcl (DR b k)))) λd=>(∀p∈b,Sz (p.2.length+1))/\E.nx (a.set i (ψ (.dcl (putL b k d))))
  |_=>False
 |_=>False
def Lc(i:Nat)(hk:DE X k tk)(he:DE X e te)(hN:X.N[i]?=ψ x:=by rfl)(z:sx X.env.scope x:=by walk_at "vis")(hd:(x == ("__debug__":Str))=χ:=by decide)(jv:(x == ("__classdict__":Str))=χ:=by decide)
  (kr:attributeBase (.Name x im) "setdefault" X.env (eval (.Name x im) X.env)=eval (.Name x im) X.env:=by rfl)
  (sf:((backTo o5 (starEach [k,.List [] f8] X.env)).all (λx=>!x.1) && (backToKw o5 (keywordEach [] X.env)).all (λx=>x.1.isSome) && decide (([k,.List [] f8]:ι Expr).length+([]:ι pA).length+(if([]:ι pA).isEmpty then 0 else 1)<30))=ζ:=by rfl)
  (ku:(l_.endLine == o5.line)=ζ:=by rfl) (T:starEach [k,.List [] f8] X.env=(χ,eval k X.env)::starEach [.List [] f8] X.env:=by rfl) (oj:starEach [.List [] f8] X.env=(χ,eval (.List [] f8) X.env)::starEach [] X.env:=by rfl)
  (oi:(backTo o5 (starEach [.List [] f8] X.env)).any (·.1)=χ:=by rfl)
  (ye:attributeBase (.Call (.Attribute (.Name x im) "setdefault" l_) [k,.List [] f8] [] o5) "append" X.env (eval (.Call (.Attribute (.Name x im) "setdefault" l_) [k,.List [] f8] [] o5) X.env)=eval (.Call (.Attribute (.Name x im) "setdefault" l_) [k,.List [] f8] [] o5) X.env:=by rfl)
  (T':((backTo cpos (starEach [e] X.env)).all (λx=>!x.1) && (backToKw cpos (keywordEach [] X.env)).all (λx=>x.1.isSome) && decide (([e]:ι Expr).length+([]:ι pA).length+(if([]:ι pA).isEmpty then 0 else 1)<30))=ζ:=by rfl)
  (yn:(apos.endLine == cpos.line)=ζ:=by rfl) (hs:starEach [e] X.env=[(χ,eval e X.env)]:=by rfl) (hn:starEach [] X.env=[]:=by rfl)
  (uw:swapsWith (.Call (.Attribute (.Call (.Attribute (.Name x im) "setdefault" l_) [k,.List [] f8] [] o5) "append" apos) [e] [] cpos) ξ pos.line X.env=pure χ:=by rfl):
  DS X (.Expr (.Call (.Attribute (.Call (.Attribute (.Name x im) "setdefault" l_) [k,.List [] f8] [] o5) "append" apos) [e] [] cpos) pos) (ZE i tk te):=by
 have C:=Lu (apos:=l_) (cpos:=o5) AH vG PySem.F.type_dict_setdefault Ol (pv (pos:=im) i hN z hd jv) (yJ hk (yJ (Uh (pos:=f8) OO) OO oj) T) kr sf ku T oi;show PS.mono (SU (Lu nH zE zF YY C (pX he hs hn) ye T' yn (by rw[hs,hn]) (by rw[hn];rfl)) uw) λDe Z H hh=>pV hh λu E so q n r bk ct=>?_;unfold ZE at q;split at q
 ·rename_i f ex;let⟨v,L,a,l,as,ev,ha,h0,t⟩:=so.rel i _ ex;subst ev;show#[.ref a,L,.inr (.inr (.inl #[rfl,.inl #[l,ha]])),u,_,so,q,λkd kv s yk U rk=>?_];cases kd with
  |int k=>
   let⟨z1,q1⟩:=yk;have z1:f.length+1<=sizeLine:=z1.ok;rw[rk.int_inv];have y6:=so.ext U;have A:=U.get _ _ ha trivial;have D:k_ X.K X.H₀ s f l as:=t.same U;show#[dL _,λp M=>?_];have O:cc s (f6 s p (.lst [])):=cc.fn λb o h=>(by rw[cQ (cX h M)];show h);have kl:=D.len;have go:∀(b:Addr)(P:Hp)(B:ι (ij×V)),c_ X (u.set i (ψ (.dcl (DR f k)))) Z P->P a=ψ (.dK B)->qN B (dR k)=ψ (.ref b)->c5 H P ->
     tyV X.K "list" (.ref b) P/\Tq X te Z P λw H3=>Lz (.ref b) [w] H3 λ_ H4=>De.nx Z H4:=λb P B Q O_ W kp2=>by
    have g:(u.set i (ψ (.dcl (DR f k))))[i]?=ψ (ψ (.dcl (DR f k))):=gK (cE.mp ex).1;let⟨v2,g1,a',kws',Y,ev2,OK,g0,t2⟩:=Q.rel i _ g;rw[L] at g1;cases g1;cases ev2;rw[O_] at OK;cases OK;let⟨b',us,ds',eb,_,hb,_,_,_⟩:=t2.there W;cases eb;show#[.inl #[rfl,us,j9.of hb],_,_,Q,q1,λd w H3 ⟨z2,hd⟩ s3 rd=>?_];have t3:k_ X.K X.H₀ H3 (DR f k) B Y:=t2.same s3;obtain⟨b',j,ds3,eb,mb,Pi,rb3,⟨pp,pm,pe⟩,fin⟩:=t3.there W;cases eb;have y:=s3.get _ _ O_ trivial;have ne:a≠b:=(by rintro rfl;rw[y] at Pi;cases Pi);have sz:j.length<sizeLine:=by
     rw[<-rb3.length,<-pe];rcases Fe f k pm with h |h
     ·show(z2 pp h).ok
     ·rw[h];show bF (KY _) z1
    show#[b,j,w,rfl,rfl,Pi,sz,?_];have zq:c5 H3 (f6 H3 b (.lst (j++[w]))):=c5.chg1 Pi (.inl #[_,rfl]);have R:∀c,Ow H3 (.dcl (DR f k)) (.ref a) c↔(c=a\/∃k,(k,V.ref c)∈B):=λc=>#[λ⟨p',G,I,g,J⟩=>by cases I;rw[y] at g;cases g;show J,λh=>#[a,B,rfl,y,h]];have haU:f6 H3 b (.lst (j++[w])) a=ψ (.dK B):=(by rw[cQ ne];show y);let⟨so4,k4⟩:=(Q.ext s3).updW (x':=.dcl (putL f k d)) (v':=.ref a) g L (H':=f6 H3 b (.lst (j++[w])))
     (λc o h w'=>by rw[cQ (by rintro rfl;show w' ((R _).mpr (.inr (t3.mem.mp mb))))];show h)
     #[a,B,Y,rfl,haU,h0,by
      rw[<-Uz];show fin _ d w zq eV (λc o _ nc h=>by rw[cQ nc];show h) (rd.keep zq)]
     (λc o=>.inl ((R c).mpr (by
      let⟨p',G,I,g,J⟩:=o;cases I;rw[haU] at g;cases g;show J)))
    rw[mR L,List.set_set] at so4;show n _ _ _ hd ((kp2.trans (.of s3)).trans k4) so4
   show#[a,l,dR k,.ref p,rfl,rfl,O.get _ _ A trivial,ν,λv z=>?_,λz=>?_]
   ·let⟨b,_,_,eb,_⟩:=D.there z;subst eb;show go b _ l ?_ (O.get _ _ A trivial) z (.of (U.trans O));rw[Jj D z,mR ex];show y6.ext O
   ·have pa:p≠a:=(by rintro rfl;rw[M] at A;cases A);have np:p∉as:=λm=>(by let⟨_,us,q'⟩:=D.at m;rw[M] at q';cases q');have R:∀c,Ow s (.dcl f) (.ref a) c↔(c=a\/∃k,(k,V.ref c)∈l):=λc=>#[λ⟨p',G,I,g,J⟩=>by cases I;rw[A] at g;cases g;show J,λh=>#[a,l,rfl,A,h]];have qi:∀c o,c≠a->s c=ψ o->f6 (f6 s p (.lst [])) a (.dK (l++[(dR k,.ref p)])) c=ψ o:=λc o nc h=>(by rw[cQ nc,cQ (cX h M)];show h);have zq:c5 s (f6 (f6 s p (.lst [])) a (.dK (l++[(dR k,.ref p)]))):=(c5.of O).trans (c5.chg1 (O.get _ _ A trivial) (.inr (.inl #[_,rfl])));let⟨Q,k2⟩:=y6.updW (x':=.dcl (DR f k)) (v':=.ref a) ex L (H':=f6 (f6 s p (.lst [])) a (.dK (l++[(dR k,.ref p)])))
     (λc o h w'=>qi c o (by rintro rfl;show w' ((R _).mpr (.inl rfl))) h)
     #[a,_,_,rfl,eV,h0,D.fresh z zq (λc o m h=>qi c o (by rintro rfl;let⟨_,us,q'⟩:=D.at m;rw[A] at q';cases q') h) (by rw[cQ pa];show eV) (y6.same.free M) np]
     (λc o=>by
      let⟨p',G,I,g,J⟩:=o;cases I;rw[eV] at g;cases g;rcases J with rfl | ⟨k',m⟩
      ·show .inl ((R _).mpr (.inl rfl))
      ·rcases bV.mp m with m |m
       ·show .inl ((R _).mpr (.inr #[k',m]))
       ·rw[bE] at m;cases m;show .inr M)
    rw[mR L] at Q;show go p _ _ Q eV (Ql D z) ((c5.of U).trans k2)
  |_=>show yk.elim
 ·show q.elim
def tP:ι Int->ι D->Int->Option D
 |k'::a,d::b,k=>if k'=k then ψ d else tP a b k
 |_,_,_=>ξ
def Db:R22:=λx y Q=>match x,y with
 | .dct a b,.int k=>∃d,tP a b k=ψ d/\Q d
 |_,_=>False
theorem Hw{K:aH}{H:Hp}{k:Int}:∀{ks:ι Int}{ds:ι D}{vs:ι V}{d:D},a_ K H ds vs->tP ks ds k=ψ d->∃v,qN (xF ks vs) (dR k)=ψ v/\ig K H d v
 | [],_,_,_,_,e=>by simp[tP] at e
 |k'::ks,_,_,_,.nil,e=>by simp[tP] at e
 |k'::ks,_,_,d,.cons (v:=v) (vs:=vs) h t,e=>by
  unfold tP at e;by_cases a:k'=k
  ·rw[Ω a] at e;cases e;show#[v,tE (by rw[a]),h]
  ·rw[υ a] at e;let⟨u,b,c⟩:=Hw t e;show#[u,by show qN ((dR k',v)::xF ks vs) _=_;rw[pZ (λz=>a (by cases z;rfl))];show b,c]
def Hx{kk:Nat}(j:h9 kk X.A)(l:DE X a ta)(m:DE X b tb)(n:Wo b:=by intro _ _;rfl):DE X (.Subscript a b pos) (r2 Db ta tb):=by
 show PE.mono (Lv (by have:=j.un;lia) l m n) λZ H Q h=>?_;let⟨c,P,st,q,s⟩:=h;show#[c,_,st,q,λx v I z g r1=>#[c,_,st.ext g,z,λy u B f i r2=>?_]];unfold Db at f;split at f
 ·rename_i J K k;let⟨d,e,f⟩:=f;rw[r2.int_inv];have C:=ig.keep (.of i) r1;cases C with
  | @dct a L _ _ o D M E=>
   let⟨w,F,G⟩:=Hw E e;show#[a,w,rfl,.inl #[_,dR k,.inr #[o,D],rfl,F.symm],s d w B f (g.trans i) G]
 ·show f.elim
end
end
section
open PySem PySem.Spec PyProof.Rows L2 PySem.W
def HA{ns:ι Int}(h:IntsAre us ns):c6 (ns.map V.int) us:=by
 induction h with
 |nil=>show .nil
 |cons _ t h a=>show .cons #[_,rfl] a
def Oe(ks:ι Int)(vs:ι V):(xF ks vs).length=min ks.length vs.length:=List.length_zipWith
theorem ZQ:∀(ks:ι Int)(vs:ι V)(ws:ι (ij×aF)),ks.length=vs.length->KV (xF ks vs) ws->∀us:ι aF,us.length=ks.length ->
  (∀(j:Nat)(v:aF),us[j]?=ψ v->∃k x,ws[j]?=ψ (k,x)/\(gA P w).is k v=ζ)->c6 (ks.map V.int) us
 | [],_,_,_,_,us,h,_=>by rw[rY.mp h];show .nil
 |k::ks,[],_,h,_,_,_,_=>by cases h
 |k::ks,v::vs,ws,f,r,us,h,q=>by
  cases us with
  |nil=>cases h
  |cons u us=>
   cases r with
   | @cons _ b _ bs g t=>
    show .cons ?_ (ZQ ks vs bs (~~~f) t us (~~~h) λj v e=>q (j+1) v (~~~e));let⟨l,x,e,i⟩:=q 0 u rfl;cases e;rw[<-show(dR k:ij)=l from g.1] at i;rcases lG (show VA (dR k) u=ζ from i) with⟨m,c,a,d⟩ | ⟨y,c,a,d⟩
    ·cases a;show#[c,d]
    ·cases a
def KB(d:RE):RA:=λa Q=>d a λx=>∃b:ι Int,x = .lst (b.map .int)/\b.length<64/\∀c:ι Int,c.Perm b->c.Pairwise (·<=·)->Q (c.map .int)
def Jl(d:RE):RA:=λa Q=>d a λx=>∃b:ι (ι Int),x = .lst (b.map uE)/\b.length<64/\(∀e∈b,e≠[])/\∀c:ι (ι Int),c.Perm b->c.Pairwise (λx y=>jF y x=χ)->Q (c.map uE)
def JZ(d:RE):RA:=λa Q=>d a λx=>∃(b:ι Int)(c:ι D),x = .dct b c/\b.length=c.length/\Q (b.map .int)
section
variable{p pos:Pos}
def UG(F:X.mg "sorted" = ξ)(h:DB X e te)(G:Gl X "sorted":=by rfl)(D:starEach [e] X.env=[(χ,eval e X.env)]:=by rfl)(w:starEach [] X.env=[]:=by rfl):
  DO X (.Call (.Name "sorted" p) [e] [] pos) (KB te):=by
 intro Γ s Z H Q I J;let⟨f,P,st,q,L⟩:=J;show eP (lU I G F boot_sorted ?_);show iE (h8 (pX h D w pos Γ s Z H (λy k=>∃(d:ι Int)(v:V),y=[v]/\cc H k/\jh X.K k (.lst (d.map .int)) v/\d.length<64/\∀g:ι Int,g.Perm d->g.Pairwise (·<=·)->P (g.map .int)) I
  #[f,_,st,q,λx v k M i r1=>?_]) λus i ⟨y,k,A,r1,N⟩=>?_) (by rw[D,w]) (by rw[w];rfl)
 ·let⟨d,rfl,B,n⟩:=M;show#[d,v,rfl,i,r1,B,n]
 let⟨d,v,rfl,O,R,t4,T⟩:=N;let⟨l,y,rfl,U,W⟩:=R.lst;let⟨u,rfl,Y⟩:=vals1 r1;cases Y;let⟨m,C,pl,hz⟩:=A.list U;have E:=C.length;rw[W.ints_inv] at C E;rw[aG] at E;show sorted_ints pl.isList (intsAre_of C) ν λj g B n a3=>?_;let⟨c,he⟩:=sortedAll_at i.heap m j;have VV:=HA B;have lw:g.length=d.length:=n.length_eq;have I4:=A.laid (a:=i.z+1) (o:=.lst (g.map V.int)) (h':=sortedAll i.heap m j) (t':=i.toks) (λb o=>sortedAll_old) (pQ _) #[by rw[aG,fK];lia,j.toList,c,VV,~~~he];show#[.ref (i.z+1),_,I4,rfl,L _ _ _ k (T g n a3) O (A.hok.fresh (pQ _)) a_.ints]
def So(wa:X.mg "sorted" = ξ)(h:DB X e te)(v4:Gl X "sorted":=by rfl)(hs:starEach [e] X.env=[(χ,eval e X.env)]:=by rfl)(R:starEach [] X.env=[]:=by rfl):
  DO X (.Call (.Name "sorted" p) [e] [] pos) (Jl te):=by
 intro Γ s Z H Q I d_;let⟨z,P,st,q,kq⟩:=d_;show eP (lU I v4 wa boot_sorted ?_);show iE (h8 (pX h hs R pos Γ s Z H (λL E=>∃(f:ι (ι Int))(v:V),L=[v]/\cc H E/\jh X.K E (.lst (f.map uE)) v/\f.length<64/\(∀B∈f,B≠[])/\∀k:ι (ι Int),k.Perm f->k.Pairwise (λx y=>jF y x=χ)->P (k.map uE)) I
  #[z,_,st,q,λx v E hx A r1=>?_]) λus A ⟨L,E,M,r1,T⟩=>?_) (by rw[hs,R]) (by rw[R];rfl)
 ·let⟨f,rfl,a1,a2,a3⟩:=hx;show#[f,v,rfl,A,r1,a1,a2,a3]
 let⟨f,v,rfl,k9,rb,t4,nI,hP⟩:=T;let⟨l,L,rfl,hq,rr⟩:=rb.lst;let⟨u,rfl,rx⟩:=vals1 r1;cases rx;let⟨g,rv,pl,hz⟩:=M.list hq;have l1:=rr.length;have l2:=rv.length;rw[aG] at l1;have D:∀(i:Nat)(u:aF),g[i]?=ψ u->∃B a,f[i]?=ψ B/\L[i]?=ψ (.ref a)/\u = .ref a/\E a=ψ (.tup (B.map V.int))/\IsTupleKey (intKind X.prog X.w) A.heap B a:=λi u e=>by
  have hi:i<f.length:=by have:=(cE.mp e).1;lia
  let⟨v,e1,e2⟩:=rr.get (i:=i) (d:=uE f[i]) (by rw[bJ,aL hi];rfl);let⟨a,rfl,N⟩:=a_.tupI_inv e2;let⟨u',f1,f2⟩:=rv.get e1;rw[e] at f1;cases f1;cases f2;let⟨ts,J,F,_⟩:=M.tuple (ju.of (K:=X.K) N);let⟨o,go,gc,n,gd⟩:=F;show#[_,a,aL hi,e1,rfl,N,o,ts.toArray,n,go,gc,gd,~~~UW J]
 show qI PX MM LV (LH _) ?_;unfold Builtin.«sorted»;show aC (m:=checkCount "sorted" 1 1 _) (aO ?_);apply aC;show collect_list pl.isList ?_ (by rw[fK];lia);apply aC;show uO ?_ (by rw[fK];lia);generalize V_:(A.heap.push (seqObj "list" (mt []) 0)).update A.z (fA (· ++ g.toArray))=C;have k1:∀b o,A.heap.get? b=ψ o->C.get? b=ψ o:=λb o e=>by rw[<-V_,HF _ _ _ _ (bO (aZ e))];show aN _ e
 have big:A.z<=C.objs.size:=by rw[<-V_,NF,size_push'];show pQ _
 show wpAny _ _ _ _ _ {A with heap:=C.push (seqObj "list" g.toArray 0)};have U:(C.push (seqObj "list" g.toArray 0)).get? C.objs.size=ψ (seqObj "list" g.toArray 0):=bQ _ rfl;have W:∀b o,A.heap.get? b=ψ o->(C.push (seqObj "list" g.toArray 0)).get? b=ψ o:=λb o e=>aN _ (k1 b o e);generalize C.push (seqObj "list" g.toArray 0)=h2 at U W;have KA:j8 X.prog X.w h2 g f:=by
  show#[ν,λi v e=>?_];let⟨B,a,n1,n2,O,_,o,Y,m,J,F⟩:=D i v e;have:f.getD i []=B:=by rw[dF,n1];rfl
  rw[this];show#[a,O,o,Y,m,W _ _ J,F]
 show aC (gI (iG slot_list_sort #[_,U,rfl] entry_list_sort ?body (EO _)))
 case body=>
  show ZK (s:={A with heap:=h2}) U KA nI ν λh3 G k c J F g3 g4 g5 g6=>?_;have kp:∀b o,A.heap.get? b=ψ o->h3.get? b=ψ o:=λb o e=>g6 b o (bO (bF (aZ e) big)) (W b o e);let⟨ws,VV,RR⟩:=WH (K:=X.K) (H:=E) G k F.1 λi v e=>by
   let⟨j,hj,ej⟩:=gE (g3 v (bA e));let⟨B,a,n1,n2,O,N,hk⟩:=D j v (by rw[aL hj,ej]);let⟨b,eb,hb⟩:=F.2 i v e;rw[O] at eb;cases eb;show#[a,O,?_];have hk3:IsTupleKey (intKind X.prog X.w) h3 B a:=(by let⟨o,Y,n,T,q2⟩:=hk;show#[o,Y,n,kp _ _ T,q2]);rw[hb.inj hk3];show N
  have lw:=VV.length;have lo:G.length<64:=by rw[F.1,g4.length_eq];show t4
  have I4:=M.laid (a:=C.objs.size) (o:=.lst ws) (h':=h3) (t':=A.toks) kp big #[by rw[fK];lia,G,c,VV,J];show#[_,rfl,aO #[_,rfl,.ref C.objs.size,_,I4,rfl,kq _ _ _ E (hP k g4 g5) k9 (M.hok.fresh big) RR]]
def UF(G:X.mg "list" = ξ)(J:X.calm=ζ)(h:DE X e te)(L:Gl X "list":=by rfl)(B:starEach [e] X.env=[(χ,eval e X.env)]:=by rfl)(y:starEach [] X.env=[]:=by rfl):
  DO X (.Call (.Name "list" p) [e] [] pos) (JZ te):=by
 intro Γ s Z H Q I M;let⟨b,P,st,q,N⟩:=M;show eP (lU I L G boot_list ?_);show cN (h8 (pX h B y pos Γ s Z H (λk g=>∃(d:ι Int)(l:ι D)(v:V),k=[v]/\cc H g/\ig X.K g (.dct d l) v/\P (d.map .int)) I
  #[b,_,st,q,λx v g O m r1=>?_]) λus m ⟨k,g,n,r1,R⟩=>?_) (by rw[B,y]) (by rw[y];rfl)
 ·let⟨d,l,rfl,a1,T⟩:=O;show#[d,l,v,rfl,m,r1,T]
 let⟨d,l,v,rfl,U,W,Y⟩:=R;let⟨u,rfl,rx⟩:=vals1 r1;cases W with
 | @dct a k _ _ o ha C rr=>
  cases rx;let⟨z,hd,A,i,dd⟩:=YM n.hok (.inr #[o,ha]);have le:=i.length;let⟨ep,da⟩:=dd.dictAt;show kdl_call (kdl_dict (knd:=gA X.prog X.w) (kvs:=A) (ep:=ep) hd) (n.ok.hd J) da (by rw[<-le];show z) λh' tk f c kp g1 E=>?_;have F:d.length=A.length:=by rw[<-le,Oe,<-C,vZ]
  have VV:c6 (d.map V.int) f.toList:=ZQ d k A C i f.toList (by rw[bX,E.1];show F.symm) λj v e=>E.2 j v (~~~e);have I4:=n.laid (a:=m.z) (o:=.lst (d.map V.int)) (h':=h') (t':=tk) kp (aS _) #[by rw[aG,F,<-le];show z,f.toList,c,VV,~~~g1];show#[.ref m.z,_,I4,rfl,N _ _ _ g Y U (n.hok.fresh (aS _)) a_.ints]
end
end
section
open PySem PySem.Spec PyProof.Rows L2
def RF(l:Addr)(items:Array aF)(n:Nat)(b:Addr)(a:Array aF)(j:Nat)(k:Array (Option aF))(m:¬(!items.isEmpty && mT (items.size+a.size))=ζ)(c:items.size<=sizeLine)(o:items.size+a.size<=sizeLine+1):
  Meets (Builtin.«list.extend» #[[.ref l,.ref b],[]]) (λ_ R s=>s.heap.get? l=ψ {cls:=.type "list",dict:=ξ,data:=.seq items n,slots:=(mt [])}/\s.heap.get? b=ψ {cls:=.type "list",dict:=ξ,data:=.seq a j,slots:=k}/\R (.ok (.ret dO)) {s with heap:=s.heap.update l (fA λx=>x++a),toks:=s.toks}):=
 .of_wp λf w A R s h=>by
  let⟨u,g,d,v,os⟩:=s;let⟨i,q,h⟩:=h;have e:(items++a).size<=sizeLine+1:=by rw[Array.size_append];show o
  wp_walk using(rG i rfl (hz:=c) (_hz':=e)),vP i,vP q;show#[_,rfl,h]
def Vd(K:aH):V->ι V->Hp->VK->Prop:=λx d H Q=>∃l b a c,x = .ref l/\d=[.ref b]/\H l=ψ (.lst a)/\j9 K H b c/\a.length+c.length<=sizeLine/\Q .non (f6 H l (.lst (a++c)))
section
variable{pos apos cpos im p2 p3 p4:Pos}{te:RE}{x:Str}
def Iq:MtM X "list.extend" (Vd X.K):=by
 intro Γ s Z H x G v J Q I k m h;let⟨l,b,L,M,rfl,rfl,f,hB,N,q⟩:=h;cases k;let⟨u,rfl,w⟩:=m.one;cases w;let⟨z,a,n,r,O,e⟩:=I.lstM f;let⟨c,r2,y,P⟩:=I.list hB;have R:=r2.length;let⟨o,A,B,g,i,j⟩:=y;let⟨T,U,C,D⟩:=o;dsimp only at g i j;subst g i j;have d:a.toArray.size+c.toArray.size<=sizeLine:=by rw[aY,aY];lia
 have E:¬(!a.toArray.isEmpty && mT (a.toArray.size+c.toArray.size))=ζ:=by
  rw[Ty d,wP];show bR
 show BV F.slot_list_extend #[_,e,rfl] F.entry_list_extend (F.args_list_extend_2 _ _)
  (RF l a.toArray n b c.toArray A D E (by rw[aY];lia) ν) #[e,B,?_]
 show#[.non,_,I.lset (its':=a++c) f e η (r.append r2) ?_,rfl,q];rw[aU];lia
def AY(i:Nat)(te:RE):RS:=λE a=>match a[i]? with
 |some (ψ (.own b))=>te a λd=>match d with
  | .lst c=>Sz (b.length+c.length)/\E.nx (a.set i (ψ (.own (b++c))))
  |_=>False
 |_=>False
def AN(i:Nat)(z:DE X e te)(A:X.N[i]?=ψ x:=by rfl)(B:sx X.env.scope x:=by walk_at "vis")(c:(x == ("__debug__":Str))=χ:=by decide)(C:(x == ("__classdict__":Str))=χ:=by decide)
  (D:attributeBase (.Name x im) "extend" X.env (eval (.Name x im) X.env)=eval (.Name x im) X.env:=by rfl)
  (G:((backTo cpos (starEach [e] X.env)).all (λx=>!x.1) && (backToKw cpos (keywordEach [] X.env)).all (λx=>x.1.isSome) && decide (([e]:ι Expr).length+([]:ι pA).length+(if([]:ι pA).isEmpty then 0 else 1)<30))=ζ:=by rfl)
  (I:(apos.endLine == cpos.line)=ζ:=by rfl) (l:starEach [e] X.env=[(χ,eval e X.env)]:=by rfl) (h:starEach [] X.env=[]:=by rfl) (J:swapsWith (.Call (.Attribute (.Name x im) "extend" apos) [e] [] cpos) ξ pos.line X.env=pure χ:=by rfl):
  DS X (.Expr (.Call (.Attribute (.Name x im) "extend" apos) [e] [] cpos) pos) (AY i te):=by
 show PS.mono (SU (Lu nH PySem.F.slot_list_extend PySem.F.type_list_extend Iq (pv i A B c C) (pX z l h) D G I (by rw[l,h]) (by rw[h];rfl)) J) λV Z H K=>pV K λa E j q n r bk W=>?_;unfold AY at q;split at q
 ·rename_i L m;let⟨v,o,p,s,M,u,O,w⟩:=j.rel i _ m;subst M;show#[.ref p,o,.inl #[rfl,s,j9.of u],a,_,j,q,λd v Y c f g=>?_];have y:=f.get _ _ u trivial;cases d with
  |lst P=>
   cases g with
   | @lst b Q _ R g=>
    let⟨T,U⟩:=(j.ext f).upd_own m o y O ((w.keep (.of f)).append g);have k:L.length+P.length<=sizeLine:=c.1.ok;show#[p,b,s,Q,rfl,rfl,y,R.sq,by rw[<-w.length,<-g.length];show k,n _ _ _ c.2 ((c5.of f).trans U) T]
  |_=>show c.elim
 ·show q.elim
def alt{α:Type}:ι α->ι α
 | []=>[]
 | [x]=>[x]
 |x::_::r=>x::alt r
theorem Kk{α:Type}:∀(l:ι α)(i:Nat),(alt l)[i]?=l[2*i]?
 | [],i=>by simp[alt]
 | [x],0=>rfl
 | [x],i+1=>by simp[alt]
 |x::y::r,0=>rfl
 |x::y::r,i+1=>by
  rw[alt,aB,Kk r i,show 2*(i+1)=2*i+1+1 by lia,aB,aB]
theorem SF{α:Type}:∀(l:ι α),(alt l).length=(l.length+1) / 2
 | []=>by simp[alt]
 | [x]=>by simp[alt]
 |x::y::r=>by rw[alt,aQ,SF r];erw[aQ];lia
def E1{α:Type}(l:ι α):(alt l).length<=l.length:=by rw[SF];lia
theorem Cd{α:Type}{P:ι α->Prop}(h0:P [])(c:∀a,P [a])(d:∀a b l,P l->P (a::b::l)):∀l,P l
 | []=>h0
 | [a]=>c a
 |a::b::l=>d a b l (Cd h0 c d l)
def a_.alt{K:aH}{H:Hp}{c:ι D}{vs:ι V}(h:a_ K H c vs):a_ K H (alt c) (L2.R2.alt vs):=by
 show Cd (P:=λc=>∀vs,a_ K H c vs->a_ K H (L2.R2.alt c) (L2.R2.alt vs)) ?_ ?_ ?_ c vs h
 ·intro vs h;cases h;show .nil
 ·intro a vs h;cases h with |cons r t=>cases t;show .cons r .nil
 ·intro a b l d vs h;cases h with |cons r t=>cases t with |cons _ t=>show .cons r (d _ t)
def c6.alt(h:c6 vs us):c6 (alt vs) (L2.R2.alt us):=by
 show Cd (P:=λvs=>∀us,c6 vs us->c6 (L2.R2.alt vs) (L2.R2.alt us)) ?_ ?_ ?_ vs us h
 ·intro vs h;cases h;show .nil
 ·intro a vs h;cases h with |cons r t=>cases t;show .cons r .nil
 ·intro a b l c vs h;cases h with |cons r t=>cases t with |cons _ t=>show .cons r (c _ t)
def Ul(its:ι aF)(k:Nat)(lo:Option Int)(f:(lo=ξ/\k=0)\/(lo=ψ 1/\k=1)):slicePick its.toArray lo ξ (ψ 2)=(alt (its.drop k)).toArray:=by
 have e:(sliceBounds lo ξ (ψ 2) its.toArray.size)=(((min k its.length:Nat):Int),(its.length:Int),2):=by
  rcases f with⟨rfl,rfl⟩ | ⟨rfl,rfl⟩
  ·simp[sliceBounds]
  ·simp[sliceBounds];cases its with
   |nil=>rfl
   |cons a l=>rw[aQ,qU (KY _),show min (1:Int) ((l.length+1:Nat):Int)=1 from Int.min_eq_left (Int.ofNat_le.mpr (KY _))];rfl
 unfold slicePick;rw[e];congr 1;fail;have c:(if(2:Int) > 0 then(if((min k its.length:Nat):Int)<(its.length:Int) then((its.length:Int)-(min k its.length:Nat)+2-1) / 2 else 0) else(if((min k its.length:Nat):Int) > (its.length:Int) then(((min k its.length:Nat):Int)-(its.length:Int)-2-1) / (-2) else 0)).toNat=(alt (its.drop k)).length:=by
  rw[SF,fO,Ω μ];rcases Nat.lt_or_ge k its.length with h |h
  ·rw[qU (kF h),Ω (Int.ofNat_lt.mpr h),show(its.length:Int)-k+2-1=((its.length-k+1:Nat):Int) by lia];rfl
  ·rw[NQ h,υ (oS _),Nat.sub_eq_zero_of_le h];rfl
 unfold sliceRange;fail;rw[c];show sK λi=>?_;have b:∀(n:Nat),n<=(alt (its.drop k)).length->((bT n).map λ(j:Nat)=>(((min k its.length:Nat):Int)+2*(j:Int)).toNat).filterMap (its.toArray[·]?)=(alt (its.drop k)).take n:=by
  intro n
  induction n with
  |zero=>intro _;rfl
  |succ n g=>
   intro h;rw[eE,aX,DL,g (Nat.le_of_succ_le h),hX];congr 1;rw[SF,fO] at h;have d:k+2*n<its.length:=ν;simp only[aM,cF,qU (kF (rL (zZ k _) d)),show((k:Int)+2*(n:Int)).toNat=k+2*n from rfl];rw[Kk,JF];simp[d]
 rw[b _ (aS _),kB]
def Pr(k:Nat)(te:RE):RA:=λa Q=>te a λx=>match x with
 | .lst b=>Q (alt (b.drop k))
 |_=>False
def Sn{lo:Option Expr}(h:DB X e te)(G:∀(H:Hp),PO X lo (λZ H Q=>Q l H))(J:(l=ξ/\k=0)\/(l=ψ 1/\k=1)):
  DO X (.Subscript e (.Slice lo ξ (ψ (.Constant (.int 2) j p3)) p2) pos) (Pr k te):=by
 intro Γ s Z H Q I L;let⟨d,P,st,q,M⟩:=L;show Subscript_ (h8 (h Γ s Z H (λv f=>∃g,cc H f/\jh X.K f (.lst g) v/\P (alt (g.drop k))) I #[d,_,st,q,λx v f D A r1=>?_]) λv A ⟨x,f,N,r1,O⟩=>?_)
 ·cases x with
  |lst g=>show#[g,A,r1,D]
  |_=>show D.elim
 let⟨g,R,T,U⟩:=O;let⟨a,V,rfl,W,Y⟩:=T.lst;cases r1;show wpAny_Slice (h8 (G f Γ A Z f (λo y=>o=l/\y=f) N #[rfl,rfl]) λE s2 ⟨l',y,I2,pl,e1,e2⟩=>?_);subst e1 e2;rw[IB];show aO ?_;show h8 (Bk (Iw (X:=X) (i:=2) (j:=j) (pos:=p3)) Γ s2 Z y (λo H3=>o=ψ 2/\H3=y) I2 #[2,rfl,rfl,rfl]) λm c ⟨o3,H3,I3,B,e3,e4⟩=>?_;subst e3 e4;have C:Inv X Γ Z H3 {c with heap:=c.heap.push {cls:=.type "slice",data:=.fields (mt [E,.none,m])}}:=I3.kept (t':=c.toks) λb ob q=>aN _ q;let⟨n,F,u,hz⟩:=C.list W;have w:=F.length;show Θ X (subscriptTail e (.Slice lo ξ (ψ (.Constant (.int 2) j p3)) p2) (.ref a) (.ref c.z)) (EP X Γ Z Q) X.xe {c with heap:=c.heap.push {cls:=.type "slice",data:=.fields (mt [E,.none,m])}};show tail_any (ops:=[.ref a,.ref c.z]) u.isList.typeIs PySem.slot_list_getitem.lookup ?_ (by with_unfolding_all rfl);show zR u.isList (JA ..) pl .none B μ ?_ (by rw[aY,<-w];show hz);rw[Ul n k l' J];have VV:c6 (alt (V.drop k)) (alt (n.drop k)):=c6.alt (c6.drop k F);have I5:=C.lnew (t':=c.toks) VV (dC (E1 _) (by rw[fO];lia));show#[.ref _,_,I5,rfl,M _ _ _ H3 U R C.fresh (a_.alt (Y.drop k))]
def Xc(h:DB X e te):DO X (.Subscript e (.Slice ξ ξ (ψ (.Constant (.int 2) j p3)) p2) pos) (Pr 0 te):=
 Sn h (λH Γ s Z a Q I q=>Lx Γ s Z a Q I q) (.inl #[rfl,rfl])
def Xd(h:DB X e te):DO X (.Subscript e (.Slice (ψ (.Constant (.int 1) j' p4)) ξ (ψ (.Constant (.int 2) j p3)) p2) pos) (Pr 1 te):=
 Sn h (λH Γ s Z a Q I q=>Bk (Iw (X:=X) (i:=1) (j:=j') (pos:=p4)) Γ s Z a Q I #[1,rfl,q]) (.inr #[rfl,rfl])
end
def Qj{P:bP}{w:cS}{K:aH}{G:Expr}(a:Addr)(lo:Int)(n:Nat):oh P w K G (xw lo n) [a] a (λi h=>IsLongIter h a (lo+(i:Nat)*1) ((n:Int)-(i:Nat)) 1) where
 mem:=η
 obj:=λi h st b c=>by
  have e:b=a:= ~~~c
  subst e;show#[_,st,λv z=>by have J:xY _=NC v:=z;cases J]
 keep:=λi h d st k=>k a η _ st
 item:=by
  intro X g j l m i Γ s Z H E I f st q;subst g j l;let⟨u,y,L,A,B,C⟩:=f a η;have W:=Walks.longrange (prog:=X.prog) (w:=X.w) (I.ok.hd m) a lo 1 n;show W.item i s _ _ q st λv d D M F kk=>?_;let⟨t,rfl⟩:=M;have N:Inv X Γ Z H {s with heap:=d,toks:=D}:=I.turned (λb o c e=>kk b o (~~~c) e) u y A B C;show#[_,rfl,UQ (s:={s with heap:=d,toks:=D}) (n:="longrange_iterator") F rfl rfl μ #[.int (lo+i),H,N,#[t,by rw[Int.mul_one]],#[rfl,rfl],F,λb c=>(f b c).1]]
 done:=by
  intro X g j l m i Γ s Z H E I f st q;subst g j l;let⟨u,y,L,A,B,C⟩:=f a η;show wpAny_pyNext_long_end (I.ok.hd m) st (by have:n<=i:=q;lia) λd O=>#[rfl,I.turned (t':=s.toks) (λb o c e=>O b o c e) u y A B C]
 self:=λ_ _ _ _ _ st h=>wpAny_pyIter_longiter st h
def P4(a b:Int):dS a b 1=((b-a).toNat:Int):=by
 unfold dS;erw[show(1:Int) > 0 by decide,if_true];split <;> lia
section
variable{X:Cx}{tg:Expr}
def G3{Z:St}{s:aJ}{lo hi:Int}{t u v:Tok}(I:Inv X Γ Z H s)
  (q:R (xw lo (hi-lo).toNat) H):Θ X (pyIter (.ref s.z)) (PIE X Γ Z tg R) E {s with heap:=s.heap.push {cls:=.type "range",data:=.fields (mt [.int lo t,.int hi u,.int 1 v])},toks:=tk}:=by
 have a:Inv X Γ Z H {s with heap:=s.heap.push {cls:=.type "range",data:=.fields (mt [.int lo t,.int hi u,.int 1 v])},toks:=tk}:=I.kept λb o e=>aN _ e;have d:lo+((0:Nat):Int)*1=lo:=η
 have f:(((hi-lo).toNat:Nat):Int)-((0:Nat):Int)=dS lo hi 1:=by rw[P4];simp
 have c:=ED s.heap lo hi 1 t u v;generalize s.heap.push {cls:=.type "range",data:=.fields (mt [.int lo t,.int hi u,.int 1 v])} = h1 at a c⊢;have g:=λ(o:Obj)=>a.kept (h':=h1.push o) (t':=tk) λb o e=>aN _ e;have h:∀b∈[h1.objs.size],IZ X Γ H b:=λb i=>by rw[bE.mp i];show a.fpOk (aS _) (a.hok.fresh (aS _))
 cases hs:vQ lo hi 1 with
 |false=>
  show wpAny_pyIter_longrange c hs #[h1.objs.size,[h1.objs.size],_,_,H,rfl,g _,Qj _ lo (hi-lo).toNat,?_,h,q];show IsLongIter _ _ (lo+((0:Nat):Int)*1) ((((hi-lo).toNat:Nat):Int)-((0:Nat):Int)) 1;rw[d,f];show bQ _ rfl
 |true=>
  show xV c hs #[h1.objs.size,[h1.objs.size],_,_,H,rfl,g _,WP _ lo (hi-lo).toNat,?_,h,q];show IsRangeIter _ _ (lo+((0:Nat):Int)*1) ((((hi-lo).toNat:Nat):Int)-((0:Nat):Int)) 1;rw[d,f];show bQ _ rfl
def Vi(t:RA):RA:=λa Q=>t a λb=>match b with
 | [.int i,.int j]=>Q (mI i (j-i).toNat)
 |_=>False
def F5{a b:Expr}{t:RA}{p pos:Pos}(n:X.mg "range" = ξ)(o:DA X [a,b] t)(u:Gl X "range":=by rfl)(v:starEach [a,b] X.env=[(χ,eval a X.env),(χ,eval b X.env)]:=by rfl)(l:starEach [b] X.env=[(χ,eval b X.env)]:=by rfl):
  DI X tg (.Call (.Name "range" p) [a,b] [] pos) (Vi t):=by
 intro Γ s Z H R I w;let⟨c,P,st,q,k⟩:=w;show Call_ (lU I u n BU (cN (h8 (o pos Γ s Z H (λf d=>∃i j:Int,f=[.int i,.int j]/\cc H d/\P (mI i (j-i).toNat)) I #[c,_,st,q,λC f d g m r=>?_]) λD m ⟨f,d,y,r1,z⟩=>?_) (by rw[v,l]) (by rw[l];rfl)))
 ·split at g
  ·rename_i i j;rw[a_.ints_inv (ns:=[i,j]) r];show#[i,j,rfl,m,g]
  ·show g.elim
 let⟨i,j,e,A,q⟩:=z;subst e;cases r1 with
 |cons r h=>
  cases h with
  |cons B h=>
   cases h;let⟨t,rfl⟩:=r;let⟨E,rfl⟩:=B;show call_range_2 (G3 y (k _ _ d q A (Ig i _)))
def U3:R22:=λx y Q=>match x,y with
 | .bl a,.bl b=>Q (.int ((if a then 1 else 0)-(if b then 1 else 0)))
 |_,_=>False
end
end
end L2.R2
namespace HT
open PySem PyProof.Rows
end HT
namespace L2.R2
section
open PySem PySem.Spec PyProof.Rows L2
def cg(m:Bool)(x y:ι Int):Bool:=cond m (HT.lexLt y x) (HT.lexLt x y)
def dMM(m:Bool):ι D->(D->Prop)->Prop:=λc Q=>∃a b,c=[uE a,uE b]/\Q (uE (if cg m b a=ζ then b else a))
abbrev bh:ι D->(D->Prop)->Prop:=dMM χ
abbrev bf:ι D->(D->Prop)->Prop:=dMM ζ
section
variable{t:RT}
def cf(i:Nat)(a:En):En:=match a[i]? with
 |some (ψ (.own b))=>a.set i (ψ (.d (.lst b)))
 |_=>a
end
def Y3(t u:RS):RS:=λE a=>t {nx:=u E,rt:=λ_=>False} a
def cm(F:FD)(t:RA):RA:=λa Q=>t a λb=>F b λd=>match d with
 | .lst c=>Q c
 |_=>False
def RZ:isSubtype (.type "range_iterator") (.type "reversed")=pure χ:=by rw[xE];kernel_rfl
def RY(r:Addr)(a b c:Int)(t u v:Tok)(f:¬(!(bY a && bY b && bY c && bY (-c) && bY (a-c) && bY (dS a b c)))=ζ):
  Meets (Builtin.«range.__reversed__» #[[.ref r],[]]) (λ_ R s=>IsRange s.heap r a b c t u v/\R (.ok (.ret (eG s.z))) {s with heap:=s.heap.push {cls:=iK (if(bY a && bY b && bY c && bY (-c) && bY (a-c) && bY (dS a b c))=ζ then "range_iterator" else "longrange_iterator"),data:=xY (mt [rawInt (a+(dS a b c-1)*c),rawInt (dS a b c),rawInt (-c)])}}):=
 .of_wp λe w A R s h=>by let⟨i,g,d,j,os⟩:=s;let⟨k,h⟩:=h;wp_walk;show#[_,rfl,h]
section
variable{s:aJ}
def KD(n:Int):Obj:={cls:=.type "range_iterator",data:=.fields (mt [rawInt (n-1),rawInt n,rawInt (-1)])}
def G4(a:-(2 ^ 62)<=n)(b:n<2 ^ 62):bY n=ζ:=by
 unfold bY;erw[jY,decide_eq_true_eq];lia
def HN{t u v:Tok}(h0:0<=n)(c:n<2 ^ 62)(a:IsRange s.heap r 0 n 1 t u v)
  (h:Q (.ref s.z) {s with heap:=s.heap.push (KD n)}):Δ prog w A (call (.builtin "range.__reversed__") [.ref r]) Q E s:=by
 have d:s.TypeIs (.ref r) "range":=#[_,a,rfl];have sz:dS 0 n 1=n:=by rw[XR];split <;> lia
 have b:(bY 0 && bY n && bY 1 && bY (-1) && bY (0-1) && bY (dS 0 n 1))=ζ:=by
  rw[sz,G4 (n:=n) ν c];decide
 show BV F.slot_range_reversed d F.entry_range_reversed (F.args_range_reversed_1 _) (RY r 0 n 1 t u v (by rw[b];decide)) #[a,?_];rw[b,sz];have e:(0:Int)+(n-1)*1=n-1:=ν
 rw[e];show h
def JP{t u v:Tok}(h0:0<=n)(c:n<2 ^ 62)(b:IsRange s.heap r 0 n 1 t u v)
  (h:Q₁ (.ref s.z) {s with heap:=s.heap.push (KD n)}):
  codeAny (model prog w) A (.call (.builtin "reversed.__new__") #[[.type "reversed",.ref r],[]]) (wants Q₁ E) s:=by
 have d:s.TypeIs (.ref r) "range":=#[_,b,rfl];show qX ?_;show wpAny _ A.in1 (do checkBuiltinCall "reversed.__new__" #[[.type "reversed",.ref r],[]];again (.builtin "reversed.__new__" #[[.type "reversed",.ref r],[]])) _ _ s;show aC (kL (F.newCall_reversed_1 _) (aO #[kH F.plain_reversed_new _,gF F.entry_reversed_new ?_]));rw[fN F.plain_reversed_new _];unfold Builtin.«reversed.__new__»;show aC (kL (newClass_reversed _) ?_)
 try fail
 show aC (kL (a:=()) (by first |rfl |kernel_rfl) ?_);show aC (kL (a:=()) (by first |rfl |kernel_rfl) ?_)
 try fail
 show aC (oQ d F.slot_range_reversed.lookup ?_)
 try fail
 show aC (kL (F.slot_range_reversed.bind _) ?_)
 try fail
 first
 |rw[υ (show ¬((zH "range.__reversed__" == dO)=ζ) from bR)]
 | (show wpAny _ _ (if(zH "range.__reversed__" == dO)=ζ then _ else _) _ _ _;rw[υ (show ¬((zH "range.__reversed__" == dO)=ζ) from bR)])
 show aC (rS ?_);show aC (m:=runValue (.call (.builtin "range.__reversed__") #[[.ref r],[]])) (show wpAny _ _ (call (.builtin "range.__reversed__") [.ref r]) _ _ _ from HN h0 c b ?_)
 first
 |show aO h
 |show aC (aO (aO h))
def HP{t u v:Tok}(h0:0<=n)(c:n<2 ^ 62)(d:IsRange s.heap r 0 n 1 t u v)
  (h:Q (.ref s.z) {s with heap:=s.heap.push (KD n)}):Δ prog w A (call (.type "reversed") [.ref r]) Q E s:=by
 show callType_other (U:="range_iterator") (Q₁:=λa b=>a = .ref s.z/\b = {s with heap:=s.heap.push (KD n)}) θ F.create_reversed #[_,_,F.mro_reversed] F.made_reversed RZ (F.typeCall_reversed_1 _) (JP h0 c d #[rfl,rfl]) ?_;rintro a b ⟨rfl,rfl⟩;show#[#[_,bQ _ rfl,rfl],h]
end
def S8(n:Nat):It:=#[λi _=>i<n,λi H x a=>a=H/\x = .int ((n:Int)-1+i*(-1)),λi _=>n<=i]
def Gd{P:bP}{w:cS}{K:aH}{G:Expr}(a:Addr)(n:Nat):oh P w K G (S8 n) [a] a (λi h=>IsRangeIter h a ((n:Int)-1+(i:Nat)*(-1)) ((n:Int)-(i:Nat)) (-1)) where
 mem:=η
 obj:=λi h st b c=>by
  have e:b=a:= ~~~c
  subst e;show#[_,st,λv z=>by have J:xY _=NC v:=z;cases J]
 keep:=λi h d st k=>k a η _ st
 item:=by
  intro X g j l m i Γ s Z H E I f st q;subst g j l;let⟨u,y,L,A,B,C⟩:=f a η;have W:=PH (prog:=X.prog) (w:=X.w) (I.ok.hd m) a ((n:Int)-1) (-1) n;show W.item i s _ _ q st λv d D M F kk=>?_;let⟨t,rfl⟩:=M;have N:Inv X Γ Z H {s with heap:=d,toks:=D}:=I.turned (λb o c e=>kk b o (~~~c) e) u y A B C;show#[_,rfl,UQ (s:={s with heap:=d,toks:=D}) (n:="range_iterator") F rfl rfl μ #[.int ((n:Int)-1+i*(-1)),H,N,#[t,rfl],#[rfl,rfl],F,λb c=>(f b c).1]]
 done:=by
  intro X g j l m i Γ s Z H E I f st q;subst g j l;let⟨u,y,L,A,B,C⟩:=f a η;show tG (I.ok.hd m) st (by have:n<=i:=q;lia) λd O=>#[rfl,I.turned (t':=s.toks) (λb o c e=>O b o c e) u y A B C]
 self:=λ_ _ _ _ _ st h=>oE st h
section
variable{X:Cx}{tg a:Expr}{t:RA}{pos p u4 p2:Pos}
def Xp(n:Nat):r8 X (S8 n) (mI 0 n).reverse H0:=λi H g=>by
 have b:(mI 0 n).length=n:=by simp[mI]
 show#[λd e=>?_,λc=>by show n<=i;rw[fV,b] at c;show c];by_cases f:i<n
 ·rw[tM ν,b] at e;unfold mI at e;rw[bJ,kX ν] at e;cases e;show#[f,λx h y=>by
   let⟨rfl,rfl⟩:=y;show#[cc.refl _,?_];rw[show(n:Int)-1+(i:Int)*(-1)=0+((n-1-i:Nat):Int) by lia];show .int _]
 ·rw[gC (by rw[fV,b];lia)] at e;cases e
structure Cb(j:Int):Prop where
 lo:0<=j
 hi:j<2 ^ 62
def Jo(t:RA):RA:=λb Q=>t b λc=>match c with
 | [.int j]=>Cb j/\Q (mI 0 j.toNat).reverse
 |_=>False
def Xa(C:X.mg "reversed" = ξ)(k:X.mg "range" = ξ)(D:DA X [a] t)(E:Gl X "reversed":=by rfl)(l:Gl X "range":=by rfl)(F:starEach [a] X.env=[(χ,eval a X.env)]:=by rfl)
  (w:starEach [.Call (.Name "range" p2) [a] [] u4] X.env=[(χ,eval (.Call (.Name "range" p2) [a] [] u4) X.env)]:=by rfl) (y:starEach [] X.env=[]:=by rfl):
  DI X tg (.Call (.Name "reversed" p) [.Call (.Name "range" p2) [a] [] u4] [] pos) (Jo t):=by
 intro Γ s Z H R I G;let⟨c,P,st,q,kk⟩:=G;show Call_ (lU I E C boot_reversed (cN ?_ (by rw[w,y]) (by rw[y];rfl)));rw[w];show wpAny _ _ (spliced ((χ,eval (.Call (.Name "range" p2) [a] [] u4) X.env)::backTo pos [])) _ _ s;show lK (eP (lU I l k BU ?_));show cN (h8 (D u4 Γ s Z H (λm f=>∃j:Int,m=[.int j]/\cc H f/\Cb j/\P (mI 0 j.toNat).reverse) I #[c,_,st,q,λQ m f g d r=>?_]) λT d ⟨m,f,J,r1,K⟩=>?_) F (by rfl)
 ·split at g
  ·rename_i j;rw[a_.ints_inv (ns:=[j]) r];show#[j,rfl,d,g.1,g.2]
  ·show g.elim
 let⟨j,rfl,L,n,M⟩:=K;obtain⟨u,rfl,⟨h,rfl⟩⟩:=vals1 r1;show call_range_1 (oY ?_);have i:Inv X Γ Z f {d with heap:=d.heap.push {cls:=.type "range",data:=.fields (mt [.int 0 d.toks,.int j h,.int 1 (d.toks+1)])},toks:=d.toks+1+1}:=J.kept λb o e=>aN _ e;have A:IsRange (d.heap.push {cls:=.type "range",data:=.fields (mt [.int 0 d.toks,.int j h,.int 1 (d.toks+1)])}) d.z 0 j 1 d.toks h (d.toks+1):=ED ..;generalize U:d.heap.push {cls:=.type "range",data:=.fields (mt [.int 0 d.toks,.int j h,.int 1 (d.toks+1)])} = h1 at i A;show HP n.lo n.hi A ?_;have v:({d with heap:=h1.push (KD j),toks:=d.toks+1+1}:aJ).heap.get? h1.objs.size=ψ (KD j):=bQ _ rfl;have N:((j.toNat:Nat):Int)=j:=Int.toNat_of_nonneg n.lo;have B:IsRangeIter ({d with heap:=h1.push (KD j),toks:=d.toks+1+1}:aJ).heap h1.objs.size (((j.toNat:Nat):Int)-1+((0:Nat):Int)*(-1)) (((j.toNat:Nat):Int)-((0:Nat):Int)) (-1):=by
  rw[N,show j-1+((0:Nat):Int)*(-1)=j-1 by lia,show j-((0:Nat):Int)=j by lia];show v
 show oE B #[h1.objs.size,[h1.objs.size],_,_,f,rfl,i.kept (t':=d.toks+1+1) λb o e=>aN _ e,Gd _ j.toNat,B,λb O=>?_,kk _ _ f M L (Xp _)];rw[bE.mp O];show i.fpOk (aS _) (i.hok.fresh (aS _))
end
def dNeL:R22:=λx y Q=>match x,y with
 | .lst a,.lst c=>a.length=c.length/\match ma (jc 5) a c with
  |some b=>Q (.bl !b)
  |none=>False
 |_,_=>False
section
variable{e k:Expr}{pos pos' p p1 p2 apos cpos im l_:Pos}{te tk:RE}
def rBNew(i:Nat):RS:=λE a=>E.nx (a.set i (ψ (.box χ [[],[]])))
def rBApp(i:Nat)(tk te:RE):RS:=λE a=>match a[i]? with
 |some (ψ (.box χ c))=>tk a λf=>match f with
  | .int k=>∃(j:Nat)(b:List D),(k=(j:Int)/\c[j]?=ψ b/\Sz (b.length+1))/\te a λd=>E.nx (a.set i (ψ (.box χ (c.set j (b++[d])))))
  |_=>False
 |_=>False
end
abbrev zk(a:ι (ι D)):ι (Int×ι D):=a.map λx=>(0,x)
def rSetB(j:Nat)(F:FD)(t:RA):RS:=λE a=>t a λc=>F c λd=>∃b:ι (ι D),d = .tup (b.map .lst)/\E.nx (a.set j (ψ (.box ζ b)))
def lendB(i:Nat)(a:En):En:=match a[i]? with
 |some (ψ (.box ζ b))=>a.set i (ψ (.d (.tup (b.map .lst))))
 |_=>a
def rBFor(i j:Nat):RS:=λE a=>match a[i]? with
 |some (ψ (.box ζ b))=>(j<a.length/\∀c∈b,Sz (c.length+1))/\E.nx ((a.set j ξ).set i (ψ (.box ζ (b.map (· ++ [.non])))))
 |_=>False
theorem Dc:∀{ks:ι Int}{ds:ι D}{vs:ι V},ds.length=vs.length->tP ks ds k=ξ->qN (xF ks vs) (dR k)=ξ
 | [],_,_,_,_=>by simp[xF,qN]
 |k'::ks,[],[],_,_=>by simp[xF,qN]
 |k'::ks,[],_::_,h,_=>by cases h
 |k'::ks,_::_,[],h,_=>by cases h
 |k'::ks,d::ds,v::vs,h,e=>by
  unfold tP at e;by_cases a:k'=k
  ·rw[Ω a] at e;cases e
  ·rw[υ a] at e;show qN ((dR k',v)::xF ks vs) _=_;rw[pZ (λz=>a (by cases z;rfl))];show Dc (~~~h) e
def Ff(b c d:RE):RE:=λa Q=>b a λx=>match x with
 | .dct e f=>c a λy=>match y with
  | .int k=>d a λz=>Q ((tP e f k).getD z)
  |_=>False
 |_=>False
def Df{kk:Nat}(s:h9 kk X.A)(B:DE X a ta)(C:DE X k tk)(D:DE X f tf)(m:M2 X a "get" apos k f cpos:=by show#[rfl,rfl,rfl,rfl]):DE X (.Call (.Attribute a "get" apos) [k,f] [] cpos) (Ff ta tk tf):=by
 show PE.mono (Ue (by have:=s.un;lia) B C D m) λZ H Q h=>?_;let⟨b,P,st,E,F⟩:=h;show#[b,_,st,E,λx v R j g r1=>?_];cases x with
 |dct G I=>
  cases r1 with
  | @dct a T _ _ o l U J=>
   show#[a,rfl,.inl #[_,.inr #[o,l]],b,_,st.ext g,j,λy u V n q r2=>?_];cases y with
   |int k=>
    rw[r2.int_inv];show#[b,_,(st.ext g).ext q,n,λz w H3 K L M=>?_];have i:=q.trans L;show#[_,.inl #[_,dR k,.inr #[o,i.get _ _ l trivial],rfl,rfl],F _ _ H3 K (g.trans i) ?_];have c:=J.keep (.of i);cases e:tP G I k with
    |some d=>
     let⟨W,N,O⟩:=Hw c e;rw[N];show O
    |none=>
     rw[Dc c.length e];show M
   |_=>show n.elim
 |_=>show j.elim
def dInI:R22:=λx y Q=>match x,y with
 | .int i,.lst b=>∃a:List Int,b=a.map .int/\Q (.bl (decide (i∈a)))
 |_,_=>False
def rgLst(n:Nat)(g:vk):RG:=λd a Q=>match d with
 | .lst b=>b.length=n/\g b a Q
 |_=>False
def Ww:R22:=λx y Q=>match jc 9 x y with
 |some b=>Q (.bl b)
 |none=>False
def M4(w:h9 k X.A):n9 X (compareOp .Eq) Ww:=by
 intro Γ s Z H x y v u Q I i j z;let⟨d,e,P,r1,r2,q,kk⟩:=z;unfold Ww at q;split at q
 ·rename_i b f;have T:=w.units;have:wY X.A s v u b:=by
   by_cases g:∃l m,d = .lst l/\e = .lst m
   ·let⟨l,m,rfl,rfl⟩:=g;let⟨a,o,rfl,B,C⟩:=r1.lst;let⟨c,U,rfl,D,E⟩:=r2.lst;cases i;cases j;show(UL I (A:=X.A) (n:=8) f B C D E ν λ{d e v u x y b} F G J L M=>(xD I 8 F G J L M (by show X.A.units+1+8<cLine;lia)).2).1
   ·have N:ig X.K H d x:=by
     rcases r1 with r | ⟨O,a,o,h,_⟩
     ·show r
     ·subst h;cases e <;> first | (cases f;done) |show Ψ ⟨_,_,rfl,rfl⟩ g
    have R:ig X.K H e y:=by
     rcases r2 with r | ⟨O,a,o,h,_⟩
     ·show r
     ·subst h;cases d <;> first | (cases f;done) |show Ψ ⟨_,_,rfl,rfl⟩ g
    show(xD I (A:=X.A) 9 f N R i j ν).1
  show this _ _ _ _ #[.bl b,H,I,rfl,kk _ _ H q (cc.refl H) (.bl b)]
 ·show q.elim
open PySem.W in
def de(b:Int->Prop)(e:RE):RS:=λ_ a=>e a λd=>match d with
 | .int c=>b c
 |_=>False
abbrev FDX:=ι D->(D->Prop)->(Int->Prop)->Prop
def cp(F:FDX)(b:Int->Prop)(t:RA):RE:=λa Q=>t a λc=>F c Q b
abbrev FDE:=ι D->(Int->Prop)->Prop
def rSetE(j:Nat)(F:FDE)(C:Addr)(y:Str)(t:RA):RS:=λE a=>t a λd=>∃b,F d b/\∀c,b c->E.nx (a.set j (ψ (.exc C y c)))
def rIsiE(i:Nat)(C:Addr)(b:Bool):RE:=λa Q=>match a[i]? with
 |some (ψ (.exc c _ _))=>c=C/\Q (.bl b)
 |_=>False
def rColE(i:Nat)(C:Addr)(y:Str):RE:=λa Q=>match a[i]? with
 |some (ψ (.exc b d c))=>(b=C/\d=y)/\Q (.int c)
 |_=>False
def rColN(b:RE):RE:=λa Q=>b a λd=>match d with
 | .int c=>Q (.int c)
 |_=>False
end
section
open PySem PySem.W PyProof.Rows
def uL:Bool->Keyed->Array Keyed->Nat->Nat->Nat->StateT SortSt Sem (Option Nat):=sortPriv% PySem.Builtin.gallop
def MC:Array Keyed->Array Keyed->StateT SortSt Sem (Array Keyed):=sortPriv% PySem.Builtin.mergeLo
def MB:Array Keyed->Array Keyed->StateT SortSt Sem (Array Keyed):=sortPriv% PySem.Builtin.mergeHi
def Jq:Nat->StateT SortSt Sem Unit:=sortPriv% PySem.Builtin.setMinGallop
def G7(left:Bool)(key:Keyed)(a:Array Keyed)(base n hint:Nat):uL left key a base n hint=(do
 let beyond (i:Nat):StateT SortSt Sem (Option Bool):=do
  let x <-elem' a (base+i)
  if left then lt' x key else return (<-lt' key x).map (!·)
 let mut lastofs:=0
 let mut ofs:=1
 let mut lo:=0
 let mut hi:=0
 let some right <-beyond hint |return ξ
 if right then
  let om:=n-hint
  for _ in [0:n] do
   if ofs ≥ om then break
   let some more <-beyond (hint+ofs) |return ξ
   if !more then break
   lastofs:=ofs
   ofs:=2*ofs+1
  lo:=hint+lastofs+1
  hi:=hint+min ofs om
 else
  let om:=hint+1
  for _ in [0:n] do
   if ofs ≥ om then break
   let some found <-beyond (hint-ofs) |return ξ
   if found then break
   lastofs:=ofs
   ofs:=2*ofs+1
  lo:=hint+1-min ofs om
  hi:=hint-lastofs
 for _ in [0:n] do
  if lo ≥ hi then break
  let m:=lo+(hi-lo) / 2
  let some more <-beyond m |return ξ
  if more then lo:=m+1 else hi:=m
 return ψ hi):=rfl
section
variable{prog:bP}{w:cS}{A:cV}{E:aF->aJ->Prop}{s:aJ}{κ:SortKind}{O:KeyOrd}{k:Keyed->O.α}{G:Keyed->Prop}
def p_(prog:bP)(w:cS)(A:cV)(E:aF->aJ->Prop)(s:aJ)(κ:SortKind)(O:KeyOrd)(k:Keyed->O.α)(G:Keyed->Prop):Prop:=
 ∀(x y:Keyed)(st:SortSt)(Q:Option Bool->SortSt->Prop),G x->G y->kindOf st=κ->Q (ψ (O.blt (k x) (k y))) st->wpS (model prog w) A E s (lt' x y) Q st
def b_(a:Array Keyed)(i:Nat):Keyed:=a.getD i (dO,dO)
def jQ{a:Array Keyed}{i:Nat}{Q:Keyed->SortSt->Prop}{st:SortSt}(hi:i<a.size)(h:Q (b_ a i) st):wpS (model prog w) A E s (elem' a i) Q st:=by
 rw[elem'_eq];have e:a[i]?=ψ (b_ a i):=by simp[b_,fR,hi]
 rw[e];show cR h
def Qn(C:p_ prog w A E s κ O k G){left:Bool}{key:Keyed}{a:Array Keyed}{base i:Nat}{Q:Option Bool->SortSt->Prop}{st:SortSt}(hi:base+i<a.size)(b:G key)(c:G (b_ a (base+i)))(d:kindOf st=κ)
  (h:Q (ψ (if left then O.blt (k (b_ a (base+i))) (k key) else !O.blt (k key) (k (b_ a (base+i))))) st):
  wpS (model prog w) A E s (do let x <-elem' a (base+i);if left then lt' x key else return (<-lt' key x).map (!·)) Q st:=by
 show bS (jQ hi ?_);cases left with
 |true=>show C _ _ _ _ c b d h
 |false=>show bS (C _ _ _ _ b c d (cR h))
def T6(left:Bool)(key:Keyed)(b:Array Keyed)(base n c d:Nat):StateT SortSt Sem (Option Nat):=do
 let a (i:Nat):StateT SortSt Sem (Option Bool):=do
  let x <-elem' b (base+i)
  if left then lt' x key else return (<-lt' key x).map (!·)
 let mut lo:=c
 let mut hi:=d
 for _ in [0:n] do
  if lo ≥ hi then break
  let m:=lo+(hi-lo) / 2
  let some more <-a m |return ξ
  if more then lo:=m+1 else hi:=m
 return ψ hi
section
variable{left:Bool}{key:Keyed}{arr:Array Keyed}{base n:Nat}{bey:Nat->Bool}{Q:Option Nat->SortSt->Prop}{st:SortSt}
def Mo(g:∀(i:Nat)(R:Option Bool->SortSt->Prop),i<n->R (ψ (bey i)) st->wpS (model prog w) A E s (do let x <-elem' arr (base+i);if left then lt' x key else return (<-lt' key x).map (!·)) R st)
  (mono:∀i j,i<=j->j<n->bey j=ζ->bey i=ζ) (h:∀m,m<=n->(∀i,i<m->bey i=ζ)->(∀i,m<=i->i<n->bey i=χ)->Q (ψ m) st)
  {lo hi:Nat} (o:lo<=hi) (q:hi<=n) (u:∀i,i<lo->bey i=ζ) (v:∀i,hi<=i->i<n->bey i=χ):wpS (model prog w) A E s (T6 left key arr base n lo hi) Q st:=by
 unfold T6;fail;show bS (nP (iX (I:=λx c a=>a=st/\∃l r,c=(ξ,l,r)/\l<=r/\r<=n/\r-l<=n-x/\(∀i,i<l->bey i=ζ)/\∀i,r<=i->i<n->bey i=χ)
  (Q:=λc a=>a=st/\∃l r,c=(ξ,l,r)/\r<=n/\(∀i,i<r->bey i=ζ)/\∀i,r<=i->i<n->bey i=χ) ?step ?fin #[rfl,lo,hi,rfl,o,q,ν,u,v]) ?post)
 case fin=>
  rintro c a ⟨rfl,l,r,rfl,y,b,z,d,e⟩;have:l=r:=ν
  subst this;show#[rfl,l,l,rfl,b,d,e]
 case post=>
  rintro c a ⟨rfl,l,r,rfl,b,d,e⟩;show cR (h r b d e)
 case step=>
  rintro x c a _ C ⟨rfl,l,r,rfl,y,b,z,d,e⟩;fail;by_cases f:l ≥ r
  ·have:l=r:=ν;subst this;rw[Ω f];show cR #[rfl,l,l,rfl,b,d,e]
  ·rw[υ f];show bS (g _ _ ν ?_);fail;cases hm:bey (l+(r-l) / 2) with
   |true=>
    rw[Ω rfl];show cR #[rfl,_,_,rfl,ν,b,ν,λi hi=>mono i _ ν ν hm,e]
   |false=>
    rw[υ bR];show cR #[rfl,_,_,rfl,ν,ν,ν,d,λi hi B=>?_];cases hb:bey i with
    |false=>rfl
    |true=>rw[mono _ i hi B hb] at hm;cases hm
end
def wN(C:p_ prog w A E s κ O k G){left:Bool}{key:Keyed}{a:Array Keyed}{base n hint:Nat}{Q:Option Nat->SortSt->Prop}{st:SortSt}{bey:Nat->Bool}(hz:base+n<=a.size)(F:hint<n)(H:G key)(J:∀i,i<a.size->G (b_ a i))(K:kindOf st=κ)
  (L:∀i,i<n->(if left then O.blt (k (b_ a (base+i))) (k key) else !O.blt (k key) (k (b_ a (base+i))))=bey i) (mono:∀i j,i<=j->j<n->bey j=ζ->bey i=ζ)
  (h:∀m,m<=n->(∀i,i<m->bey i=ζ)->(∀i,m<=i->i<n->bey i=χ)->Q (ψ m) st):wpS (model prog w) A E s (uL left key a base n hint) Q st:=by
 rw[G7];fail;have y:∀(i:Nat)(R:Option Bool->SortSt->Prop),i<n->R (ψ (bey i)) st->wpS (model prog w) A E s (do let x <-elem' a (base+i);if left then lt' x key else return (<-lt' key x).map (!·)) R st:=λi R hi M=>
  Qn C ν H (J _ ν) K (by rw[L i hi];show M)
 have z:∀{i j:Nat},i<=j->j<n->bey i=χ->bey j=χ:=λ{i j} N P e=>by
  cases q:bey j with
  |false=>rfl
  |true=>rw[mono i j N P q] at e;cases e
 show bS (y hint _ F ?_);fail;cases hm:bey hint with
 |true=>
  rw[Ω rfl];show bS (nP (iX (I:=λx c b=>b=st/\∃l o,c=(ξ,l,o)/\l<o/\x<o/\hint+l<n/\bey (hint+l)=ζ)
   (Q:=λc b=>b=st/\∃l o,c=(ξ,l,o)/\l<o/\hint+l<n/\bey (hint+l)=ζ/\(n-hint<=o\/bey (hint+o)=χ)) ?step ?fin #[rfl,0,1,rfl,ν,ν,ν,hm]) ?post)
  case fin=>
   rintro c b ⟨rfl,l,o,rfl,g,D,f,d⟩;show#[rfl,l,o,rfl,g,f,d,.inl ν]
  case post=>
   rintro c b ⟨rfl,l,o,rfl,g,f,d,u⟩;show Mo y mono h (lo:=hint+l+1) (hi:=hint+min o (n-hint)) ν ν (λi hi=>mono i _ ν f d) (λi hi B=>?_);rcases u with u |u
   ·show Ψ B ν
   ·by_cases T:o<n-hint
    ·show z (i:=hint+o) ν B u
    ·show Ψ B ν
  case step=>
   rintro x c b _ U ⟨rfl,l,o,rfl,g,D,f,d⟩;fail;by_cases v:o ≥ n-hint
   ·rw[Ω v];show cR #[rfl,l,o,rfl,g,f,d,.inl v]
   ·rw[υ v];show bS (y _ _ ν ?_);fail;cases hq:bey (hint+o) with
    |true=>
     rw[υ η];show cR #[rfl,_,_,rfl,ν,ν,ν,hq]
    |false=>
     rw[Ω η];show cR #[rfl,l,o,rfl,g,f,d,.inr hq]
 |false=>
  rw[υ bR];show bS (nP (iX (I:=λx c b=>b=st/\∃l o,c=(ξ,l,o)/\l<o/\x<o/\l<=hint/\bey (hint-l)=χ)
   (Q:=λc b=>b=st/\∃l o,c=(ξ,l,o)/\l<o/\l<=hint/\bey (hint-l)=χ/\(hint+1<=o\/bey (hint-o)=ζ)) ?step ?fin #[rfl,0,1,rfl,ν,ν,ν,hm]) ?post)
  case fin=>
   rintro c b ⟨rfl,l,o,rfl,g,D,f,d⟩;show#[rfl,l,o,rfl,g,f,d,.inl ν]
  case post=>
   rintro c b ⟨rfl,l,o,rfl,g,f,d,u⟩;show Mo y mono h (lo:=hint+1-min o (hint+1)) (hi:=hint-l) ν ν (λi hi=>?_) (λi hi B=>z hi B d);rcases u with u |u
   ·show Ψ hi ν
   ·by_cases T:o<hint+1
    ·show mono i _ ν ν u
    ·show Ψ hi ν
  case step=>
   rintro x c b _ U ⟨rfl,l,o,rfl,g,D,f,d⟩;fail;by_cases v:o ≥ hint+1
   ·rw[Ω v];show cR #[rfl,l,o,rfl,g,f,d,.inl v]
   ·rw[υ v];show bS (y _ _ ν ?_);fail;cases hq:bey (hint-o) with
    |true=>
     rw[Ω rfl];show cR #[rfl,l,o,rfl,g,f,d,.inr hq]
    |false=>
     rw[υ bR];show cR #[rfl,_,_,rfl,ν,ν,ν,hq]
end
structure Mg{α:Type}(R:α->α->Prop)(al bl out A B:List α):Prop where
 perm:(out++(A++B)).Perm (al++bl)
 srt:out.Pairwise R
 sa:A.Pairwise R
 sb:B.Pairwise R
 lo:∀x∈out,∀y,y∈A\/y∈B->R x y
section
variable{α:Type}{al bl out A A1 A2 B B1 B2:ι α}
def Mg.swap(m:Mg R al bl out A B):Mg R bl al out B A:=
 #[((gB _ iQ).trans m.perm).trans iQ,m.srt,m.sb,m.sa,λx a y b=>m.lo x a y b.symm]
def Mg.mvA(m:Mg R al bl out (A1++A2) B)(h:∀x∈A1,∀y∈B,R x y):Mg R al bl (out++A1) A2 B:=by
 let⟨c,d,e⟩:=dI.mp m.sa;show#[by have:=m.perm;simpa [cL] using this,dI.mpr #[m.srt,c,λx a y b=>m.lo x a y (.inl (dY _ b))],d,m.sb,λx a y b=>?_];rcases bV.mp a with a |a
 ·show m.lo x a y (b.imp_left λz=>bI _ z)
 ·show b.elim (e x a y) (h x a y)
def Mg.fin(m:Mg R al bl out A B)(h:∀x∈A,∀y∈B,R x y):(out++A++B).Perm (al++bl)/\(out++A++B).Pairwise R:=by
 show#[by rw[cL];show m.perm,dI.mpr #[dI.mpr #[m.srt,m.sa,λx a y b=>m.lo x a y (.inl b)],m.sb,λx a y b=>?_]];rcases bV.mp a with a |a
 ·show m.lo x a y (.inr b)
 ·show h x a y b
def Mg.fin2(m:Mg R al bl out A B)(h:∀x∈B,∀y∈A,R x y):(out++B++A).Perm (al++bl)/\(out++B++A).Pairwise R:=by
 let⟨a,b⟩:=m.swap.fin h;show#[a.trans iQ,b]
end
def On(h:(!x)=ζ):x=χ:= ~~~h
def L9(h:(!x)=χ):x=ζ:= ~~~h
def Q9(h:x=χ):(!x)=ζ:= ~~~h
abbrev n8(α β a τ:Type):=Option (Array Keyed)×α×β×a×τ
def ci{α β a:Type}(n:Nat)(S:Nat->α->β->a->Nat->Nat->StateT SortSt Sem (ForInStep (n8 α β a (Nat×Nat))))(R:α->β->a->Nat->Nat->Nat->StateT SortSt Sem (ForInStep (n8 α β a (Nat×Nat×Nat))))(c:n8 α β a Nat):StateT SortSt Sem (ForInStep (n8 α β a Nat)):=do
 let r <-forIn [0:n] ((ξ,c.2.1,c.2.2.1,c.2.2.2.1,0,0):n8 α β a (Nat×Nat)) λ_ d=>S c.2.2.2.2 d.2.1 d.2.2.1 d.2.2.2.1 d.2.2.2.2.1 d.2.2.2.2.2
 gY (λ_=>StateT SortSt Sem (ForInStep (n8 α β a Nat))) r.1 (λv=>pure (.done (ψ v,r.2.1,r.2.2.1,r.2.2.2.1,c.2.2.2.2))) λ_=>do
  rule "list.sort.gallop"
  let r <-forIn [0:n] ((ξ,r.2.1,r.2.2.1,r.2.2.2.1,c.2.2.2.2+1,r.2.2.2.2):n8 α β a (Nat×Nat×Nat)) λ_ d=>if d.2.2.2.2.1 > 1 then R d.2.1 d.2.2.1 d.2.2.2.1 (d.2.2.2.2.1-1) d.2.2.2.2.2.1 d.2.2.2.2.2.2 else R d.2.1 d.2.2.1 d.2.2.2.1 d.2.2.2.2.1 d.2.2.2.2.2.1 d.2.2.2.2.2.2
  gY (λ_=>StateT SortSt Sem (ForInStep (n8 α β a Nat))) r.1 (λv=>pure (.done (ψ v,r.2.1,r.2.2.1,r.2.2.2.1,r.2.2.2.2.1))) λ_=>do
   Jq (r.2.2.2.2.1+1)
   pure (.yield (ξ,r.2.1,r.2.2.1,r.2.2.2.1,r.2.2.2.2.1+1))
def L7{α β a:Type}(n:Nat)(S:Nat->α->β->a->Nat->Nat->StateT SortSt Sem (ForInStep (n8 α β a (Nat×Nat))))(R:α->β->a->Nat->Nat->Nat->StateT SortSt Sem (ForInStep (n8 α β a (Nat×Nat×Nat))))(x:α)(y:β)(z:a):StateT SortSt Sem (Array Keyed):=do
 let st <-get
 let r <-forIn [0:n] ((ξ,x,y,z,gallopOf st):n8 α β a Nat) λ_ c=>ci n S R c
 gY (λ_=>StateT SortSt Sem (Array Keyed)) r.1 (λv=>pure v) λ_=>unsupported "internal:list.sort.merge-bound"
def L0(a b c:Array Keyed)(d e mg f g:Nat):StateT SortSt Sem (ForInStep (n8 (Array Keyed) Nat Nat (Nat×Nat×Nat))):=do
 let x <-elem' a d
 if(d+1+1 == a.size)=ζ then pure (.done (ψ (c.push x++b.extract e b.size++a.extract (d+1) a.size),c.push x,d+1,e,mg,f,g))
 else if(decide (f<7) && decide (g<7))=ζ then pure (.done (ξ,c.push x,d+1,e,mg,f,g))
 else pure (.yield (ξ,c.push x,d+1,e,mg,f,g))
def K9(a b d:Array Keyed)(f c mg g h:Nat):StateT SortSt Sem (ForInStep (n8 (Array Keyed) Nat Nat (Nat×Nat×Nat))):=do
 let x <-elem' b c
 if(c+1 == b.size)=ζ then pure (.done (ψ (d.push x++a.extract f a.size++b.extract (c+1) b.size),d.push x,f,c+1,mg,g,h))
 else do
  let y <-elem' a f
  let r <-uL ζ y b (c+1) (b.size-(c+1)) 0
  match r with
  |some e=>
   if e > 0 then
    if(c+1+e == b.size)=ζ then pure (.done (ψ (d.push x++b.extract (c+1) (c+1+e)++a.extract f a.size++b.extract (c+1+e) b.size),d.push x++b.extract (c+1) (c+1+e),f,c+1+e,mg,g,e))
    else L0 a b (d.push x++b.extract (c+1) (c+1+e)) f (c+1+e) mg g e
   else L0 a b (d.push x) f (c+1) mg g e
  |_=>pure (.done (ψ (d.push x++a.extract f a.size++b.extract (c+1) b.size),d.push x,f,c+1,mg,g,h))
def loR(a b d:Array Keyed)(c f mg h g:Nat):StateT SortSt Sem (ForInStep (n8 (Array Keyed) Nat Nat (Nat×Nat×Nat))):=do
 Jq mg
 let x <-elem' b f
 let r <-uL χ x a c (a.size-c) 0
 match r with
 |some e=>
  if e > 0 then
   if(c+e+1 == a.size)=ζ then pure (.done (ψ (d++a.extract c (c+e)++b.extract f b.size++a.extract (c+e) a.size),d++a.extract c (c+e),c+e,f,mg,e,g))
   else if(c+e == a.size)=ζ then pure (.done (ψ (d++a.extract c (c+e)++a.extract (c+e) a.size++b.extract f b.size),d++a.extract c (c+e),c+e,f,mg,e,g))
   else K9 a b (d++a.extract c (c+e)) (c+e) f mg e g
  else K9 a b d c f mg e g
 |_=>pure (.done (ψ (d++a.extract c a.size++b.extract f b.size),d,c,f,mg,h,g))
def loS(a b:Array Keyed)(mg:Nat)(c:Array Keyed)(d e f g:Nat):StateT SortSt Sem (ForInStep (n8 (Array Keyed) Nat Nat (Nat×Nat))):=do
 let y <-elem' b e
 let x <-elem' a d
 let r <-lt' y x
 match r with
 |some t=>
  if t=ζ then do
   let y <-elem' b e
   if(e+1 == b.size)=ζ then pure (.done (ψ (c.push y++a.extract d a.size++b.extract (e+1) b.size),c.push y,d,e+1,0,g+1))
   else if g+1 ≥ mg then pure (.done (ξ,c.push y,d,e+1,0,g+1))
   else pure (.yield (ξ,c.push y,d,e+1,0,g+1))
  else do
   let x <-elem' a d
   if(d+1+1 == a.size)=ζ then pure (.done (ψ (c.push x++b.extract e b.size++a.extract (d+1) a.size),c.push x,d+1,e,f+1,0))
   else if f+1 ≥ mg then pure (.done (ξ,c.push x,d+1,e,f+1,0))
   else pure (.yield (ξ,c.push x,d+1,e,f+1,0))
 |_=>pure (.done (ψ (c++a.extract d a.size++b.extract e b.size),c,d,e,f,g))
def L6(a b:Array Keyed):MC a b=(do
 rule "list.sort.merge-lo"
 let y <-elem' b 0
 if(1 == b.size)=ζ then pure ((mt [y])++a.extract 0 a.size++b.extract 1 b.size)
 else if(0+1 == a.size)=ζ then pure ((mt [y])++b.extract 1 b.size++a.extract 0 a.size)
 else L7 (a.size+b.size) (loS a b) (loR a b) (mt [y]) 0 1):=rfl
section
variable{prog:bP}{w:cS}{A:cV}{E:aF->aJ->Prop}{s:aJ}{κ:SortKind}{O:KeyOrd}{k:Keyed->O.α}{G:Keyed->Prop}
abbrev Le(O:KeyOrd)(k:Keyed->O.α)(x y:Keyed):Prop:=O.kle (k x) (k y)
def Xe(h:i<a.size):a.toList.drop i=b_ a i::a.toList.drop (i+1):=by
 rw[jT (~~~h)];simp[b_,fR,h]
def FF(h:y∈a.toList.drop i):∃j,i<=j/\j<a.size/\y=b_ a j:=by
 let⟨j,b,e⟩:=gE h;rw[fO,bX] at b;show#[i+j,ν,ν,?_];rw[<-e];have:i+j<a.size:=ν
 simp[b_,fR,this]
def AR(a:Array Keyed)(i j:Nat):(a.extract i j).toList=(a.toList.drop i).take (j-i):=by
 simp[List.extract_eq_take_drop]
def SJ(a:Array Keyed)(i:Nat):(a.extract i a.size).toList=a.toList.drop i:=by
 rw[AR,eF η]
def SS(h:y∈(a.toList.drop i).take j):∃m,i<=m/\m<i+j/\m<a.size/\y=b_ a m:=by
 let⟨m,b,e⟩:=gE h;rw[gH,fO,bX] at b;show#[i+m,ν,ν,ν,?_];rw[<-e];have:i+m<a.size:=ν
 simp[b_,fR,this]
def o0(O:KeyOrd)(k:Keyed->O.α)(a:Array Keyed):Prop:=∀i j,i<=j->j<a.size->Le O k (b_ a i) (b_ a j)
def o0.list(h:o0 O k a):a.toList.Pairwise (Le O k):=by
 rw[dJ];intro i j c d f;have e:i<a.size:= ~~~c
 have b:j<a.size:= ~~~d
 have:=h i j ν b;simpa [b_,fR,e,b] using this
abbrev jg(O:KeyOrd)(k:Keyed->O.α)(a b c:Array Keyed)(d e:Nat):Prop:=Mg (Le O k) a.toList b.toList c.toList (a.toList.drop d) (b.toList.drop e)
def pP(O:KeyOrd)(k:Keyed->O.α)(a b r:Array Keyed):Prop:=r.toList.Perm (a.toList++b.toList)/\r.toList.Pairwise (Le O k)
def jg.pushA(g:jg O k a b out ia ib)(h:ia<a.size)(c:∀j,ib<=j->j<b.size->Le O k (b_ a ia) (b_ b j)):jg O k a b (out.push (b_ a ia)) (ia+1) ib:=by
 have d:Mg (Le O k) a.toList b.toList out.toList ([b_ a ia]++a.toList.drop (ia+1)) (b.toList.drop ib):=by rw[oV,<-Xe h];show g
 have:=d.mvA λx e y f=>by
  rw[bE.mp e];let⟨j,i,l,rfl⟩:=FF f;show c j i l
 simpa [jg] using this
def jg.pushB(g:jg O k a b out ia ib)(h:ib<b.size)(c:∀j,ia<=j->j<a.size->Le O k (b_ b ib) (b_ a j)):jg O k a b (out.push (b_ b ib)) ia (ib+1):=(jg.pushA g.swap h c).swap
def jg.extA(g:jg O k a b out ia ib)(h:ia+m<=a.size)(c:∀i j,ia<=i->i<ia+m->ib<=j->j<b.size->Le O k (b_ a i) (b_ b j)):jg O k a b (out++a.extract ia (ia+m)) (ia+m) ib:=by
 have d:Mg (Le O k) a.toList b.toList out.toList ((a.toList.drop ia).take m++a.toList.drop (ia+m)) (b.toList.drop ib):=by
  rw[show a.toList.drop (ia+m)=(a.toList.drop ia).drop m by rw[wU],iR];show g
 have:=d.mvA λx e y f=>by
  let⟨i,l,n,_,rfl⟩:=SS e;let⟨j,o,q,rfl⟩:=FF f;show c i j l n o q
 show Mg _ _ _ (out++a.extract ia (ia+m)).toList _ _;rw[gQ,AR,show ia+m-ia=m by lia];show this
def jg.extB(g:jg O k a b out ia ib)(h:ib+m<=b.size)(c:∀i j,ib<=i->i<ib+m->ia<=j->j<a.size->Le O k (b_ b i) (b_ a j)):jg O k a b (out++b.extract ib (ib+m)) ia (ib+m):=(jg.extA g.swap h c).swap
def jg.full(g:jg O k a b out ia ib)(h:ia=a.size\/ib=b.size):pP O k a b (out++a.extract ia a.size++b.extract ib b.size):=by
 unfold pP;rw[gQ,gQ,SJ,SJ];show g.fin λx c y d=>?_;rcases h with rfl |rfl
 ·rw[jI η] at c;cases c
 ·rw[jI η] at d;cases d
def jg.fullA(g:jg O k a b out ia ib)(h:ia+1=a.size)(c:∀j,j<b.size->Le O k (b_ b j) (b_ a (a.size-1))):pP O k a b (out++b.extract ib b.size++a.extract ia a.size):=by
 unfold pP;rw[gQ,gQ,SJ,SJ];show g.fin2 λx d y e=>?_;let⟨i,l,f,rfl⟩:=FF d;let⟨j,m,n,rfl⟩:=FF e;rw[show j=a.size-1 by lia];show c i f
abbrev og(κ:SortKind)(F:Option aF)(P:Array (Nat×Nat×Nat))(X:Array Keyed)(st:SortSt):Prop:=kindOf st=κ/\failedOf st=F/\pendingOf st=P/\arrOf st=X
section
variable{α β γ τ:Type}{I:SortSt->Prop}{M:Array Keyed->Prop}{J:Nat->α->β->γ->Prop}
def T0(M:Array Keyed->Prop)(J:α->β->γ->Prop)(c:n8 α β γ τ):Prop:=(∃r,c.1=ψ r/\M r)\/c.1=ξ/\J c.2.1 c.2.2.1 c.2.2.2.1
def QV(I:SortSt->Prop)(M:Array Keyed->Prop)(J:α->β->γ->Prop)(r:ForInStep (n8 α β γ τ))(st:SortSt):Prop:=
 I st/\match r with
 | .done c=>T0 M J c
 | .yield c=>c.1=ξ/\J c.2.1 c.2.2.1 c.2.2.2.1
def mD{a:Type}{p q:Nat}{x y:StateT SortSt Sem a}{Q:a->SortSt->Prop}{st:SortSt}(b:p=q->wpS (model prog w) A E s x Q st)(c:p≠q->wpS (model prog w) A E s y Q st):wpS (model prog w) A E s (if(p == q)=ζ then x else y) Q st:=by
 split <;> rename_i h
 ·show b (~~~h)
 ·show c (~~~h)
def HB{c:Prop}[Decidable c]{x:α}{y:β}{z:γ}{t:τ}{K:α->β->γ->Prop}{st:SortSt}(i:I st)(h:K x y z):wpS (model prog w) A E s (if c then pure (.done (ξ,x,y,z,t)) else pure (.yield (ξ,x,y,z,t))) (QV I M K) st:=by
 split
 ·show cR #[i,.inr #[rfl,h]]
 ·show cR #[i,rfl,h]
def Mt(mono:∀i j x y z,i<=j->J j x y z->J i x y z)(b:∀x y z,¬J n x y z)
  (d:∀i m c st,I st->J m c.2.1 c.2.2.1 c.2.2.2.1->wpS (model prog w) A E s (f i c) (QV I M (J (m+1))) st) {c:n8 α β γ τ} {st:SortSt} (i:I st) (e:c.1=ξ) (j:J m c.2.1 c.2.2.1 c.2.2.2.1):
  wpS (model prog w) A E s (forIn [0:n] c f) (λc st=>I st/\T0 M (J (m+1)) c) st:=by
 show iX (I:=λy c st=>I st/\c.1=ξ/\J (m+y) c.2.1 c.2.2.1 c.2.2.2.1) (λy c st _ _ h=>nP (d y _ c st h.1 h.2.2) λr st a=>?_) (λc st h=>Ψ (mono n _ _ _ _ ν h.2.2) (b _ _ _)) #[i,e,j];cases r with
 |done c=>show#[a.1,a.2.imp_right λz=>#[z.1,mono _ _ _ _ _ ν z.2]]
 |yield c=>show a
variable{S:Nat->α->β->γ->Nat->Nat->StateT SortSt Sem (ForInStep (n8 α β γ (Nat×Nat)))}
def Mu(mono:∀i j x y z,i<=j->J j x y z->J i x y z)(b:∀x y z,¬J n x y z)(mk:∀st g,I st->I (TN (kindOf st) (arrOf st) (pendingOf st) g (failedOf st)))
  (f:∀m mg x y z ac bc st,I st->J m x y z->wpS (model prog w) A E s (S mg x y z ac bc) (QV I M (J (m+1))) st)
  (e:∀m mg x y z ac bc st,I st->J m x y z->wpS (model prog w) A E s (R x y z mg ac bc) (QV I M (J (m+1))) st)
  {x:α} {y:β} {z:γ} {st:SortSt} (i:I st) (j:J 0 x y z) {Q:Array Keyed->SortSt->Prop} (h:∀r st,M r->I st->Q r st):wpS (model prog w) A E s (L7 n S R x y z) Q st:=by
 show bS (tI (bS (nP (iX (I:=λy c st=>I st/\J y c.2.1 c.2.2.1 c.2.2.2.1) (Q:=λc st=>I st/\∃r,c.1=ψ r/\M r) (λy c st _ _ g=>?_) (λc st g=>Ψ (mono n _ _ _ _ ν g.2) (b _ _ _)) #[i,j]) ?_)))
 ·show bS (nP (Mt (m:=y) mono b (λ_ m d st i j=>f m _ _ _ _ _ _ st i j) g.1 rfl g.2) ?_);rintro⟨_,d⟩ st ⟨i,⟨r,rfl,a⟩ | ⟨rfl,j⟩⟩
  ·show cR #[i,r,rfl,a]
  ·show bS (GN (rS #[rfl,bS (nP (Mt (M:=M) (m:=y+1) mono b (λ_ m d st i j=>?_) i rfl j) ?_)]))
   ·split
    ·show e m _ _ _ _ _ _ st i j
    ·show e m _ _ _ _ _ _ st i j
   ·rintro⟨_,d⟩ st ⟨i,⟨r,rfl,a⟩ | ⟨rfl,j⟩⟩
    ·show cR #[i,r,rfl,a]
    ·show bS (oF (cR #[mk _ _ i,mono _ _ _ _ _ ν j]))
 ·rintro⟨_,d⟩ st ⟨i,r,rfl,a⟩;show cR (h r st a i)
end
abbrev z_(O:KeyOrd)(k:Keyed->O.α)(a b:Array Keyed)(f:Nat)(c:Array Keyed)(d e:Nat):Prop:=jg O k a b c d e/\d+1<a.size/\e<b.size/\f<d+e
section
variable{a b out:Array Keyed}{ia ib mg ac bc n0:Nat}{st:SortSt}{F:Option aF}{P:Array (Nat×Nat×Nat)}{X:Array Keyed}
def Ms(d:og κ F P X st)(h:∀j,j<b.size->Le O k (b_ b j) (b_ a (a.size-1)))(g:jg O k a b out ia ib)(l:ia+1<a.size)(i:ib<b.size)(m:n0<=ia+ib)
  (c:∀j,ib<=j->j<b.size->Le O k (b_ a ia) (b_ b j)):wpS (model prog w) A E s (L0 a b out ia ib mg ac bc) (QV (og κ F P X) (pP O k a b) (z_ O k a b n0)) st:=by
 show bS (jQ ν ?_);have f:=g.pushA ν c;show mD (λe=>cR #[d,.inl #[_,rfl,f.fullA e h]]) λe=>HB d #[f,ν,i,ν]
def Mr(C:p_ prog w A E s κ O k G)(v:∀i,i<a.size->G (b_ a i))(y:∀i,i<b.size->G (b_ b i))(d:og κ F P X st)(z:o0 O k a)(hB:o0 O k b)(h:∀j,j<b.size->Le O k (b_ b j) (b_ a (a.size-1)))(g:jg O k a b out ia ib)(l:ia+1<a.size)(n:ib<b.size)(L:n0<=ia+ib)
  (c:∀j,ia<=j->j<a.size->Le O k (b_ b ib) (b_ a j)):wpS (model prog w) A E s (K9 a b out ia ib mg ac bc) (QV (og κ F P X) (pP O k a b) (z_ O k a b n0)) st:=by
 show bS (jQ n ?_);have f:=g.pushB n c;show mD (λe=>cR #[d,.inl #[_,rfl,f.full (.inr e)]]) λe=>bS (jQ ν ?_);show bS (wN C (bey:=λi=>O.blt (k (b_ b (ib+1+i))) (k (b_ a ia))) ν ν (v _ ν) y d.1 (λi _=>rfl) (λi j M N q=>?_) λm Q B D=>?_)
 ·show qO (hB (ib+1+i) (ib+1+j) ν ν) q
 ·fail;have o:∀j,ib+1+m<=j->j<b.size->Le O k (b_ a ia) (b_ b j):=λj H I=>by
   have:=D (j-(ib+1)) ν ν;rw[show ib+1+(j-(ib+1))=j by lia] at this;show this
  split
  ·have u:=f.extB (m:=m) ν λi j H I J K=>by
    have:=B (i-(ib+1)) ν;rw[show ib+1+(i-(ib+1))=i by lia] at this;show cU (dX this) (z ia j J K)
   show mD (λe=>cR #[d,.inl #[_,rfl,u.full (.inr e)]]) λe=>Ms d h u l ν ν o
  ·obtain rfl:m=0:=ν;show Ms d h f l ν ν o
def R9(C:p_ prog w A E s κ O k G)(f:∀i,i<a.size->G (b_ a i))(h:∀i,i<b.size->G (b_ b i))(c:og κ F P X st)(l:o0 O k a)(hB:o0 O k b)(n:∀j,j<b.size->Le O k (b_ b j) (b_ a (a.size-1)))(g:jg O k a b out ia ib)(v:ia+1<a.size)(d:ib<b.size)(J:n0<=ia+ib):
  wpS (model prog w) A E s (loR a b out ia ib mg ac bc) (QV (og κ F P X) (pP O k a b) (z_ O k a b n0)) st:=by
 show bS (oF (bS (jQ d ?_)));show bS (wN C (bey:=λi=>!O.blt (k (b_ b ib)) (k (b_ a (ia+i)))) ν ν (h _ d) f c.1 (λi _=>rfl) (λi j K L q=>?_) λm M y z=>?_)
 ·show Q9 (cU (l (ia+i) (ia+j) ν ν) (show Le O k (b_ a (ia+j)) (b_ b ib) from On q))
 ·fail;have u:∀j,ia+m<=j->j<a.size->Le O k (b_ b ib) (b_ a j):=λj B D=>by
   have:=z (j-ia) ν ν;rw[show ia+(j-ia)=j by lia] at this;show dX (L9 this)
  split
  ·have o:=g.extA (m:=m) ν λi j B D H I=>by
    have:=y (i-ia) ν;rw[show ia+(i-ia)=i by lia] at this;show cU (show Le O k (b_ a i) (b_ b ib) from On this) (hB ib j H I)
   show mD (λe=>cR #[c,.inl #[_,rfl,o.fullA e n]]) λe=>mD (λe=>cR #[c,.inl #[_,rfl,o.full (.inl e)]]) λN=>Mr C f h c l hB n o ν d ν u
  ·obtain rfl:m=0:=ν;show Mr C f h c l hB n g v d ν u
def S4(C:p_ prog w A E s κ O k G)(n:∀i,i<a.size->G (b_ a i))(o:∀i,i<b.size->G (b_ b i))(c:og κ F P X st)(q:o0 O k a)(hB:o0 O k b)(u:∀j,j<b.size->Le O k (b_ b j) (b_ a (a.size-1)))(g:jg O k a b out ia ib)(v:ia+1<a.size)(d:ib<b.size)(y:n0<=ia+ib):
  wpS (model prog w) A E s (loS a b mg out ia ib ac bc) (QV (og κ F P X) (pP O k a b) (z_ O k a b n0)) st:=by
 show bS (jQ d (bS (jQ ν (bS (C _ _ _ _ (o _ d) (n _ ν) c.1 ?_)))));fail;split <;> rename_i m
 ·have f:=g.pushB d λj h l=>cU (dX m) (q ia j h l);show bS (jQ d (mD (λe=>cR #[c,.inl #[_,rfl,f.full (.inr e)]]) λe=>HB c #[f,v,ν,ν]))
 ·have f:=g.pushA ν λj h l=>cU (show Le O k (b_ a ia) (b_ b ib) from KI.mpr m) (hB ib j h l);show bS (jQ ν (mD (λe=>cR #[c,.inl #[_,rfl,f.fullA e u]]) λe=>HB c #[f,ν,d,ν]))
def Kb(C:p_ prog w A E s κ O k G)(u:∀i,i<a.size->G (b_ a i))(v:∀i,i<b.size->G (b_ b i))(c:og κ F P X st)(l:o0 O k a)(hB:o0 O k b)(n:∀j,j<b.size->Le O k (b_ b j) (b_ a (a.size-1)))(h0:Le O k (b_ b 0) (b_ a 0))
  (I:0<a.size) (B:0<b.size) {Q:Array Keyed->SortSt->Prop} (h:∀r cn,pP O k a b r->og κ F P X cn->Q r cn):wpS (model prog w) A E s (MC a b) Q st:=by
 rw[L6];show bS (GN (rS #[rfl,bS (jQ B ?_)]));have o:jg O k a b (mt [b_ b 0]) 0 1:=by
  have:jg O k a b (mt []) 0 0:=#[η,.nil,~~~l.list,~~~hB.list,λx D=>by cases D];simpa using this.pushB B λj _ H=>cU h0 (l 0 j ν H)
 show mD (λe=>cR (h _ _ (o.full (.inr e)) c)) λK=>mD (λe=>cR (h _ _ (o.fullA e n) c)) λL=>
  Mu (J:=z_ O k a b) (λi j x y z M ⟨g,d,f,q⟩=>#[g,d,f,ν]) (λx y z ⟨_,d,f,q⟩=>by lia) (λ_ _ h=>h)
   (λm mg x y z ac bc st c ⟨g,d,f,q⟩=>S4 C u v c l hB n g d f ν) (λm mg x y z ac bc st c ⟨g,d,f,q⟩=>R9 C u v c l hB n g d f ν) c #[o,ν,ν,ν] h
end
end
def G9(a b c:Array Keyed)(d e mg f g:Nat):StateT SortSt Sem (ForInStep (n8 Nat Nat (Array Keyed) (Nat×Nat×Nat))):=do
 let x <-elem' a (d-1)
 if(d-1 == 0)=ζ then pure (.done (ψ (a.extract 0 (d-1)++b.extract 0 e++(c.push x).reverse),d-1,e,c.push x,mg,f,g))
 else if(decide (f<7) && decide (g<7))=ζ then pure (.done (ξ,d-1,e,c.push x,mg,f,g))
 else pure (.yield (ξ,d-1,e,c.push x,mg,f,g))
def G8(a b c:Array Keyed)(e d mg f g:Nat):StateT SortSt Sem (ForInStep (n8 Nat Nat (Array Keyed) (Nat×Nat×Nat))):=do
 let x <-elem' b (d-1)
 if(d-1 == 1)=ζ then pure (.done (ψ (b.extract 0 (d-1)++a.extract 0 e++(c.push x).reverse),e,d-1,c.push x,mg,f,g))
 else do
  let y <-elem' a (e-1)
  let r <-uL ζ y b 0 (d-1) (d-1-1)
  match r with
  |some q=>
   if d-1-q > 0 then
    if(q == 1)=ζ then pure (.done (ψ (b.extract 0 q++a.extract 0 e++(c.push x++(b.extract q (d-1)).reverse).reverse),e,q,c.push x++(b.extract q (d-1)).reverse,mg,f,d-1-q))
    else if(q == 0)=ζ then pure (.done (ψ (a.extract 0 e++b.extract 0 q++(c.push x++(b.extract q (d-1)).reverse).reverse),e,q,c.push x++(b.extract q (d-1)).reverse,mg,f,d-1-q))
    else G9 a b (c.push x++(b.extract q (d-1)).reverse) e q mg f (d-1-q)
   else G9 a b (c.push x) e (d-1) mg f (d-1-q)
  |_=>pure (.done (ψ (a.extract 0 e++b.extract 0 (d-1)++(c.push x).reverse),e,d-1,c.push x,mg,f,g))
def hiR(a b c:Array Keyed)(d e mg g f:Nat):StateT SortSt Sem (ForInStep (n8 Nat Nat (Array Keyed) (Nat×Nat×Nat))):=do
 Jq mg
 let x <-elem' b (e-1)
 let r <-uL χ x a 0 d (d-1)
 match r with
 |some q=>
  if d-q > 0 then
   if(q == 0)=ζ then pure (.done (ψ (a.extract 0 q++b.extract 0 e++(c++(a.extract q d).reverse).reverse),q,e,c++(a.extract q d).reverse,mg,d-q,f))
   else G8 a b (c++(a.extract q d).reverse) q e mg (d-q) f
  else G8 a b c d e mg (d-q) f
 |_=>pure (.done (ψ (a.extract 0 d++b.extract 0 e++c.reverse),d,e,c,mg,g,f))
def hiS(a b:Array Keyed)(mg d e:Nat)(c:Array Keyed)(f g:Nat):StateT SortSt Sem (ForInStep (n8 Nat Nat (Array Keyed) (Nat×Nat))):=do
 let y <-elem' b (e-1)
 let x <-elem' a (d-1)
 let r <-lt' y x
 match r with
 |some t=>
  if t=ζ then do
   let x <-elem' a (d-1)
   if(d-1 == 0)=ζ then pure (.done (ψ (a.extract 0 (d-1)++b.extract 0 e++(c.push x).reverse),d-1,e,c.push x,f+1,0))
   else if f+1 ≥ mg then pure (.done (ξ,d-1,e,c.push x,f+1,0))
   else pure (.yield (ξ,d-1,e,c.push x,f+1,0))
  else do
   let y <-elem' b (e-1)
   if(e-1 == 1)=ζ then pure (.done (ψ (b.extract 0 (e-1)++a.extract 0 d++(c.push y).reverse),d,e-1,c.push y,0,g+1))
   else if g+1 ≥ mg then pure (.done (ξ,d,e-1,c.push y,0,g+1))
   else pure (.yield (ξ,d,e-1,c.push y,0,g+1))
 |_=>pure (.done (ψ (a.extract 0 d++b.extract 0 e++c.reverse),d,e,c,f,g))
def L4(a b:Array Keyed):MB a b=(do
 rule "list.sort.merge-hi"
 let x <-elem' a (a.size-1)
 if(a.size-1 == 0)=ζ then pure (a.extract 0 (a.size-1)++b.extract 0 b.size ++ (mt [x]).reverse)
 else if(b.size == 1)=ζ then pure (b.extract 0 b.size++a.extract 0 (a.size-1) ++ (mt [x]).reverse)
 else L7 (a.size+b.size) (hiS a b) (λna nb out=>hiR a b out na nb) (a.size-1) b.size (mt [x])):=rfl
section
variable{prog:bP}{w:cS}{A:cV}{E:aF->aJ->Prop}{s:aJ}{κ:SortKind}{O:KeyOrd}{k:Keyed->O.α}{G:Keyed->Prop}
def Zu(h0:0<n)(h:n<=a.size):(a.toList.take n).reverse=b_ a (n-1)::(a.toList.take (n-1)).reverse:=by
 obtain⟨m,rfl⟩:∃m,n=m+1:=#[n-1,ν];have b:m<a.size:=ν
 rw[List.take_succ_eq_append_getElem (~~~b),HI];simp[b_,fR,b]
def FG(h:y∈(a.toList.take n).reverse):∃j,j<n/\j<a.size/\y=b_ a j:=by
 let⟨m,c,d,b,e⟩:=SS (a:=a) (i:=0) (j:=n) (y:=y) (~~~h);show#[m,ν,b,e]
def Dq(a:Array Keyed)(n:Nat):(a.extract 0 n).toList=a.toList.take n:=by rw[AR];simp
abbrev je(O:KeyOrd)(k:Keyed->O.α)(a b c:Array Keyed)(d e:Nat):Prop:=Mg (λx y=>Le O k y x) a.toList b.toList c.toList (a.toList.take d).reverse (b.toList.take e).reverse
def je.pushA(g:je O k a b out na nb)(h0:0<na)(h:na<=a.size)(c:∀j,j<nb->j<b.size->Le O k (b_ b j) (b_ a (na-1))):je O k a b (out.push (b_ a (na-1))) (na-1) nb:=by
 have d:Mg (λx y=>Le O k y x) a.toList b.toList out.toList ([b_ a (na-1)]++(a.toList.take (na-1)).reverse) (b.toList.take nb).reverse:=by rw[oV,<-Zu h0 h];show g
 have:=d.mvA λx e y f=>by
  rw[bE.mp e];let⟨j,i,l,rfl⟩:=FG f;show c j i l
 simpa [je] using this
def je.pushB(g:je O k a b out na nb)(h0:0<nb)(h:nb<=b.size)(c:∀j,j<na->j<a.size->Le O k (b_ a j) (b_ b (nb-1))):je O k a b (out.push (b_ b (nb-1))) na (nb-1):=(je.pushA g.swap h0 h c).swap
def je.extA(g:je O k a b out na nb)(u:q<=na)(h:na<=a.size)(c:∀i j,q<=i->i<na->j<nb->j<b.size->Le O k (b_ b j) (b_ a i)):je O k a b (out++(a.extract q na).reverse) q nb:=by
 have e:(a.toList.take na).reverse=((a.toList.drop q).take (na-q)).reverse++(a.toList.take q).reverse:=by
  rw[<-HI];congr 1
  conv=>lhs;rw[show na=q+(na-q) by lia]
  rw[XA]
 have d:Mg (λx y=>Le O k y x) a.toList b.toList out.toList (((a.toList.drop q).take (na-q)).reverse++(a.toList.take q).reverse) (b.toList.take nb).reverse:=by rw[<-e];show g
 have:=d.mvA λx f y l=>by
  let⟨i,m,v,_,rfl⟩:=SS (gO.mp f);let⟨j,n,o,rfl⟩:=FG l;show c i j m ν n o
 show Mg _ _ _ (out++(a.extract q na).reverse).toList _ _;rw[gQ,Array.toList_reverse,AR];show this
def je.extB(g:je O k a b out na nb)(d:q<=nb)(h:nb<=b.size)(c:∀i j,q<=i->i<nb->j<na->j<a.size->Le O k (b_ a j) (b_ b i)):je O k a b (out++(b.extract q nb).reverse) na q:=(je.extA g.swap d h c).swap
def YR{a b l:ι Keyed}{r:Array Keyed}(e:r.toList=l.reverse)(h:l.Perm (a++b)/\l.Pairwise λx y=>Le O k y x):r.toList.Perm (a++b)/\r.toList.Pairwise (Le O k):=by
 rw[e];show#[(yC l).trans h.1,gS.mpr h.2]
def je.full(g:je O k a b out na nb)(h:na=0\/nb=0):pP O k a b (a.extract 0 na++b.extract 0 nb++out.reverse):=by
 show YR (l:=out.toList++(b.toList.take nb).reverse++(a.toList.take na).reverse) (by simp[Dq]) (g.fin2 λx c y d=>?_);rcases h with rfl |rfl
 ·simp at d
 ·simp at c
def je.fullB(g:je O k a b out na nb)(h:nb=1)(c:∀j,j<a.size->Le O k (b_ b 0) (b_ a j)):pP O k a b (b.extract 0 nb++a.extract 0 na++out.reverse):=by
 show YR (l:=out.toList++(a.toList.take na).reverse++(b.toList.take nb).reverse) (by simp[Dq]) (g.fin λx d y e=>?_);let⟨i,m,f,rfl⟩:=FG d;let⟨j,n,o,rfl⟩:=FG e;rw[show j=0 by lia];show c i f
abbrev z7(O:KeyOrd)(k:Keyed->O.α)(a b:Array Keyed)(f c d:Nat)(e:Array Keyed):Prop:=je O k a b e c d/\(1<=c/\c<=a.size)/\(2<=d/\d<=b.size)/\c+d+f<a.size+b.size
section
variable{a b out:Array Keyed}{na nb mg ac bc n0:Nat}{st:SortSt}{F:Option aF}{P:Array (Nat×Nat×Nat)}{X:Array Keyed}
def Mq(d:og κ F P X st)(g:je O k a b out na nb)(f:1<=na/\na<=a.size)(i:2<=nb/\nb<=b.size)(l:na+nb+n0<=a.size+b.size)
  (c:∀j,j<nb->j<b.size->Le O k (b_ b j) (b_ a (na-1))):wpS (model prog w) A E s (G9 a b out na nb mg ac bc) (QV (og κ F P X) (pP O k a b) (z7 O k a b n0)) st:=by
 show bS (jQ ν ?_);have h:=g.pushA f.1 f.2 c;show mD (λe=>cR #[d,.inl #[_,rfl,h.full (.inl e)]]) λe=>HB d #[h,ν,i,ν]
def Mp(C:p_ prog w A E s κ O k G)(z:∀i,i<a.size->G (b_ a i))(B:∀i,i<b.size->G (b_ b i))(d:og κ F P X st)(D:o0 O k a)(hB:o0 O k b)(n:∀j,j<a.size->Le O k (b_ b 0) (b_ a j))(g:je O k a b out na nb)(o:1<=na/\na<=a.size)(H:2<=nb/\nb<=b.size)(J:na+nb+n0<=a.size+b.size)
  (c:∀j,j<na->j<a.size->Le O k (b_ a j) (b_ b (nb-1))):wpS (model prog w) A E s (G8 a b out na nb mg ac bc) (QV (og κ F P X) (pP O k a b) (z7 O k a b n0)) st:=by
 show bS (jQ ν ?_);have f:=g.pushB ν H.2 c;show mD (λe=>cR #[d,.inl #[_,rfl,f.fullB e n]]) λe=>bS (jQ ν ?_);show bS (wN C (bey:=λi=>O.blt (k (b_ b (0+i))) (k (b_ a (na-1)))) ν ν (z _ ν) B d.1 (λi _=>rfl) (λi j K L q=>?_) λm M u v=>?_)
 ·show qO (hB (0+i) (0+j) ν ν) q
 ·erw[nZ] at u v;fail;have y:∀j,j<m->j<b.size->Le O k (b_ b j) (b_ a (na-1)):=λj h _=>dX (u j h);split
  ·have l:=f.extB (q:=m) ν ν λi j h I N Q=>cU (D j (na-1) ν ν) (show Le O k (b_ a (na-1)) (b_ b i) from v i h I);show mD (λe=>cR #[d,.inl #[_,rfl,l.fullB e n]]) λe=>mD (λe=>cR #[d,.inl #[_,rfl,l.full (.inr e)]]) λR=>Mq d l o ν ν y
  ·obtain rfl:m=nb-1:=ν;show Mq d f o ν ν y
def R7(C:p_ prog w A E s κ O k G)(d:∀i,i<a.size->G (b_ a i))(f:∀i,i<b.size->G (b_ b i))(c:og κ F P X st)(h:o0 O k a)(hB:o0 O k b)(n:∀j,j<a.size->Le O k (b_ b 0) (b_ a j))(g:je O k a b out na nb)(B:1<=na/\na<=a.size)(o:2<=nb/\nb<=b.size)(D:na+nb+n0<=a.size+b.size):
  wpS (model prog w) A E s (hiR a b out na nb mg ac bc) (QV (og κ F P X) (pP O k a b) (z7 O k a b n0)) st:=by
 show bS (oF (bS (jQ ν ?_)));show bS (wN C (bey:=λi=>!O.blt (k (b_ b (nb-1))) (k (b_ a (0+i)))) ν ν (f _ ν) d c.1 (λi _=>rfl) (λi j I J q=>?_) λm K u v=>?_)
 ·show Q9 (cU (h (0+i) (0+j) ν ν) (show Le O k (b_ a (0+j)) (b_ b (nb-1)) from On q))
 ·erw[nZ] at u v;fail;have y:∀j,j<m->j<a.size->Le O k (b_ a j) (b_ b (nb-1)):=λj l _=>On (u j l);split
  ·have z:=g.extA (q:=m) ν ν λi j l H L M=>cU (hB j (nb-1) ν ν) (dX (L9 (v i l H)));show mD (λe=>cR #[c,.inl #[_,rfl,z.full (.inl e)]]) λe=>Mp C d f c h hB n z ν o ν y
  ·obtain rfl:m=na:=ν;show Mp C d f c h hB n g B o D y
def R8(C:p_ prog w A E s κ O k G)(m:∀i,i<a.size->G (b_ a i))(n:∀i,i<b.size->G (b_ b i))(c:og κ F P X st)(o:o0 O k a)(hB:o0 O k b)(q:∀j,j<a.size->Le O k (b_ b 0) (b_ a j))(g:je O k a b out na nb)(f:1<=na/\na<=a.size)(h:2<=nb/\nb<=b.size)(y:na+nb+n0<=a.size+b.size):
  wpS (model prog w) A E s (hiS a b mg na nb out ac bc) (QV (og κ F P X) (pP O k a b) (z7 O k a b n0)) st:=by
 show bS (jQ ν (bS (jQ ν (bS (C _ _ _ _ (n _ ν) (m _ ν) c.1 ?_)))));fail;split <;> rename_i l
 ·have d:=g.pushA f.1 f.2 λj u v=>cU (hB j (nb-1) ν ν) (dX l);show bS (jQ ν (mD (λe=>cR #[c,.inl #[_,rfl,d.full (.inl e)]]) λe=>HB c #[d,ν,h,ν]))
 ·have d:=g.pushB ν h.2 λj u v=>cU (o j (na-1) ν ν) (show Le O k (b_ a (na-1)) (b_ b (nb-1)) from KI.mpr l);show bS (jQ ν (mD (λe=>cR #[c,.inl #[_,rfl,d.fullB e q]]) λe=>HB c #[d,f,ν,ν]))
def Ka(C:p_ prog w A E s κ O k G)(v:∀i,i<a.size->G (b_ a i))(B:∀i,i<b.size->G (b_ b i))(c:og κ F P X st)(l:o0 O k a)(hB:o0 O k b)(D:∀j,j<b.size->Le O k (b_ b j) (b_ a (a.size-1)))(h0:Le O k (b_ b 0) (b_ a 0))
  (H:0<a.size) (K:0<b.size) {Q:Array Keyed->SortSt->Prop} (h:∀r cn,pP O k a b r->og κ F P X cn->Q r cn):wpS (model prog w) A E s (MB a b) Q st:=by
 rw[L4];show bS (GN (rS #[rfl,bS (jQ ν ?_)]));have n:∀j,j<a.size->Le O k (b_ b 0) (b_ a j):=λj o=>cU h0 (l 0 j ν o);have q:je O k a b (mt [b_ a (a.size-1)]) (a.size-1) b.size:=by
  have:je O k a b (mt []) a.size b.size:=#[by
   show NH (l₁:=(a.toList.take a.size).reverse) ?_ ?_
   ·rw[eF η];show yC _
   ·rw[eF η];show yC _,.nil,by rw[eF η,gS];show l.list,by rw[eF η,gS];show hB.list,λx I=>by cases I]
  simpa using this.pushA H (aS _) λj _ o=>D j o
 show mD (λe=>cR (h _ _ (q.full (.inl e)) c)) λL=>mD (λe=>cR (h _ _ (q.fullB e n) c)) λM=>
  Mu (J:=z7 O k a b) (λi j x y z N ⟨g,d,f,u⟩=>#[g,d,f,ν]) (λx y z ⟨_,d,f,u⟩=>by lia) (λ_ _ h=>h)
   (λm mg x y z ac bc st c ⟨g,d,f,u⟩=>R8 C v B c l hB n g d f ν) (λm mg x y z ac bc st c ⟨g,d,f,u⟩=>R7 C v B c l hB n g d f ν) c #[q,ν,ν,ν] h
end
end
def L3(i:Nat):mergeAt' i=(do
 let s <-get
 let (ψ (sa,na,power),ψ (sb,nb,_)):=((pendingOf s)[i]?,(pendingOf s)[i+1]?) |unsupported "internal:list.sort.pending"
 set (setPending s (((pendingOf s).setIfInBounds i (sa,na+nb,power)).eraseIdxIfInBounds (i+1)))
 let some k <-uL χ (<-elem' (arrOf s) sb) (arrOf s) sa na 0 |return χ
 let (sa,na):=(sa+k,na-k)
 if na == 0 then return ζ
 let some nb <-uL ζ (<-elem' (arrOf s) (sa+na-1)) (arrOf s) sb nb (nb-1) |return χ
 if nb == 0 then return ζ
 let x:=(arrOf s).extract sa sb
 let y:=(arrOf s).extract sb (sb+nb)
 let merged <-if na<=nb then MC x y else MB x y
 modify λs=>setArr s (merged.toList.zipIdx.foldl (λa (p,j)=>a.setIfInBounds (sa+j) p) (arrOf s))
 return (failedOf (<-get)).isNone):=rfl
def Jr{X:Array Keyed}{i:Nat}{p:Keyed}(h:i<X.size):(X.setIfInBounds i p).toList=X.toList.take i++p::X.toList.drop (i+1):=by
 rw[Array.toList_setIfInBounds,List.set_eq_take_append_cons_drop,Ω (~~~h)]
theorem VF:∀(l:ι Keyed)(i:Nat)(X:Array Keyed),sa+i+l.length<=X.size->((l.zipIdx i).foldl (λa x=>a.setIfInBounds (sa+x.2) x.1) X).toList=X.toList.take (sa+i)++l++X.toList.drop (sa+i+l.length)
 | [],i,X,h=>by simp
 |p::l,i,X,h=>by
  rw[aQ] at h;rw[NO,mJ,VF l (i+1) _ (by erw[Array.size_setIfInBounds];lia)];fail;rw[Jr ν,aQ];have b:(X.toList.take (sa+i)).length=sa+i:=by rw[gH];simp;lia
  have c:(X.toList.take (sa+i)++p::X.toList.drop (sa+i+1)).take (sa+(i+1))=X.toList.take (sa+i)++[p]:=by
   rw[List.take_append,eF ν,b,show sa+(i+1)-(sa+i)=1 by lia];simp
  have d:(X.toList.take (sa+i)++p::X.toList.drop (sa+i+1)).drop (sa+(i+1)+l.length)=X.toList.drop (sa+i+(l.length+1)):=by
   rw[List.drop_append,jI ν,b,show sa+(i+1)+l.length-(sa+i)=l.length+1 by lia,List.drop_succ_cons,wU,cC];congr 1;lia
  rw[c,d];simp
section
variable{prog:bP}{w:cS}{A:cV}{E:aF->aJ->Prop}{s:aJ}{κ:SortKind}{O:KeyOrd}{k:Keyed->O.α}{G:Keyed->Prop}
def oO(O:KeyOrd)(k:Keyed->O.α)(a:Array Keyed)(lo hi:Nat):Prop:=∀i j,lo<=i->i<=j->j<hi->Le O k (b_ a i) (b_ a j)
def Re(h:i+m<j)(b:j<=a.size):b_ (a.extract i j) m=b_ a (i+m):=by
 have c:m<(a.extract i j).size:=ε
 have d:i+m<a.size:=ν
 unfold b_;rw[eK,eK,Array.getElem?_extract,Ω ν]
def Jz(C:p_ prog w A E s κ O k G){X:Array Keyed}{b c g T:Nat}{st:SortSt}{Q:Bool->SortSt->Prop}(N:∀i,i<X.size->G (b_ X i))(hI:og κ ξ (mt [(0,b,g),(b,c,T)]) X st)(hz:b+c=X.size)(Z:0<b)(U:0<c)
  (I:oO O k X 0 b) (J:oO O k X b X.size) (h:∀cn,HM cn=κ->failedOf cn=ξ->pendingOf cn = (mt [(0,b+c,g)])->(arrOf cn).toList.Perm X.toList->(arrOf cn).toList.Pairwise (Le O k)->Q ζ cn):
  wpS (model prog w) A E s (mergeAt' 0) Q st:=by
 let⟨i1,i2,i3,i4⟩:=hI;rw[L3];show bS (tI ?_);rw[i3];have ee:((mt [(0,b,g),(b,c,T)]).setIfInBounds 0 (0,b+c,g)).eraseIdxIfInBounds (0+1) = (mt [(0,b+c,g)]):=by simp[Array.eraseIdxIfInBounds]
 rw[show (mt [(0,b,g),(b,c,T)])[0]?=ψ (0,b,g) from rfl,show (mt [(0,b,g),(b,c,T)])[0+1]?=ψ (b,c,T) from rfl];fail;rw[ee];show wpS (model prog w) A E s (do
   set (setPending st (mt [(0,b+c,g)]))
   let x <-elem' (arrOf st) b
   let r <-uL χ x (arrOf st) 0 b 0
   match r with
    |some k=>
      if(b-k == 0)=ζ then pure ζ
      else do
       let x <-elem' (arrOf st) (0+k+(b-k)-1)
       let r <-uL ζ x (arrOf st) b c (c-1)
       match r with
        |some c=>
         if(c == 0)=ζ then pure ζ
         else if b-k<=c then do
           let merged <-MC ((arrOf st).extract (0+k) b) ((arrOf st).extract b (b+c))
           (do modify λs=>setArr s (merged.toList.zipIdx.foldl (λa x=>a.setIfInBounds (0+k+x.2) x.1) (arrOf s));let z <-get;pure (failedOf z).isNone)
          else do
           let merged <-MB ((arrOf st).extract (0+k) b) ((arrOf st).extract b (b+c))
           (do modify λs=>setArr s (merged.toList.zipIdx.foldl (λa x=>a.setIfInBounds (0+k+x.2) x.1) (arrOf s));let z <-get;pure (failedOf z).isNone)
        |x=>pure χ
    |x=>pure χ) Q st
 rw[i4];show bS (oF (f:=λ_=>setPending st (mt [(0,b+c,g)])) ?_);have B:og κ ξ (mt [(0,b+c,g)]) X (setPending st (mt [(0,b+c,g)])):=#[i1,i2,rfl,i4];generalize setPending st (mt [(0,b+c,g)])=qi at B;have u:oO O k X 0 X.size->Q ζ qi:=λhs=>h qi B.1 B.2.1 B.2.2.1 (by rw[B.2.2.2]) (by
  rw[B.2.2.2];show o0.list λi j l o=>hs i j ν l o)
 show bS (jQ ν ?_);show bS (wN C (bey:=λi=>!O.blt (k (b_ X b)) (k (b_ X (0+i)))) ν ν (N _ ν) N B.1 (λi _=>rfl) (λi j l o q=>?_) λm hm q1 q2=>?_)
 ·show Q9 (cU (I (0+i) (0+j) ν ν ν) (show Le O k (b_ X (0+j)) (b_ X b) from On q))
 fail;have K:∀i,i<m->Le O k (b_ X i) (b_ X b):=λi v=>by
  have:=q1 i v;rw[show 0+i=i by lia] at this;show On this
 by_cases e1:b-m=0
 ·rw[Ω (~~~e1)];show cR (u λi j _ l o=>?_);by_cases P:j<b
  ·show I i j ν l P
  ·by_cases v5:i<b
   ·show cU (K i ν) (J b j ν ν o)
   ·show J i j ν l o
 rw[υ (~~~e1)];rw[show 0+m+(b-m)-1=b-1 by lia,show 0+m=m by lia];show bS (jQ ν ?_);show bS (wN C (bey:=λi=>O.blt (k (b_ X (b+i))) (k (b_ X (b-1)))) ν ν (N _ ν) N B.1 (λi _=>rfl) (λi j l o q=>?_) λn hn r1 r2=>?_)
 ·show qO (J (b+i) (b+j) ν ν ν) q
 fail;have V:∀j,b+n<=j->j<X.size->Le O k (b_ X (b-1)) (b_ X j):=λj hj1 P=>by
  have:=r2 (j-b) ν ν;rw[show b+(j-b)=j by lia] at this;show this
 by_cases e2:n=0
 ·rw[Ω (~~~e2)];show cR (u λi j _ l o=>?_);by_cases P:j<b
  ·show I i j ν l P
  ·by_cases v5:i<b
   ·show cU (I i (b-1) ν ν ν) (V j ν o)
   ·show J i j ν l o
 rw[υ (~~~e2)];have d:∀i,i<b-m->b_ (X.extract m b) i=b_ X (m+i):=λi v=>Re ν ν;have H:∀i,i<n->b_ (X.extract b (b+n)) i=b_ X (b+i):=λi v=>Re ν ν;have zx:(X.extract m b).size=b-m:=ε
 have zy:(X.extract b (b+n)).size=n:=ε
 have fin:∀r cn,pP O k (X.extract m b) (X.extract b (b+n)) r->og κ ξ (mt [(0,b+c,g)]) X cn ->
   wpS (model prog w) A E s (do modify λs=>setArr s (r.toList.zipIdx.foldl (λa x=>a.setIfInBounds (m+x.2) x.1) (arrOf s));let z <-get;pure (failedOf z).isNone) Q cn:=λr cn hr v=>by
  show bS (oF (bS (tI (cR ?_))));show Q (failedOf cn).isNone _;rw[v.2.1,v.2.2.2];have pl:r.toList.length=b-m+n:=by rw[hr.1.length_eq,aU,bX,bX,zx,zy]
  have el:=VF (sa:=m) r.toList 0 X ν;rw[show m+0=m by lia,pl,show m+(b-m+n)=b+n by lia] at el;have W:(X.extract m b).toList++(X.extract b (b+n)).toList=(X.toList.drop m).take (b-m+n):=by
   rw[AR,AR,XA,wU,show m+(b-m)=b by lia,show b+n-b=n by lia]
  have L:∀x∈r.toList,∃i,m<=i/\i<b+n/\x=b_ X i:=λx d=>by
   have:=hr.1.mem_iff.mp d;rw[W] at this;let⟨i,D,R,_,F⟩:=SS this;show#[i,D,ν,F]
  have pm:(X.toList.take m++r.toList++X.toList.drop (b+n)).Perm X.toList:=by
   have e:X.toList=X.toList.take m++(X.toList.drop m).take (b-m+n)++X.toList.drop (b+n):=by
    conv=>lhs;rw[<-iR m X.toList,<-iR (b-m+n) (X.toList.drop m),wU,show m+(b-m+n)=b+n by lia]
    rw[cL]
   have h0:=hr.1;rw[W] at h0
   conv=>rhs;rw[e]
   show(h0.append_left _).append_right _
  show h _ v.1 v.2.1 v.2.2.1 ?_ ?_
  ·show(List.foldl _ X r.toList.zipIdx).toList.Perm _;rw[el];show pm
  ·show(List.foldl _ X r.toList.zipIdx).toList.Pairwise _;rw[el];have tk:∀x∈X.toList.take m,∃i,i<m/\x=b_ X i:=λx d=>by
    let⟨i,D,R,F⟩:=FG (gO.mpr d);show#[i,D,F]
   have M:∀i j,i<m->m<=j->j<X.size->Le O k (b_ X i) (b_ X j):=λi j D R F=>by
    by_cases P:j<b
    ·show I i j ν ν P
    ·show cU (K i D) (J b j ν ν F)
   show dI.mpr #[dI.mpr #[?_,hr.2,λx d y H=>?_],?_,λx d y H=>?_]
   ·rw[dJ];intro i j zi zj l;rw[gH,bX] at zi zj;have Z:i<X.size:=ν;have U:j<X.size:=ν;have:=I i j ν ν ν;simpa [b_,fR,Z,U] using this
   ·let⟨i,D,rfl⟩:=tk x d;let⟨j,R,F,rfl⟩:=L y H;show M i j D R ν
   ·rw[dJ];intro i j zi zj l;rw[fO,bX] at zi zj;have Z:b+n+i<X.size:=ν;have U:b+n+j<X.size:=ν;have:=J (b+n+i) (b+n+j) ν ν U;simpa [b_,fR,Z,U] using this
   ·let⟨j,R,F,rfl⟩:=FF H;rcases bV.mp d with d |d
    ·let⟨i,D,rfl⟩:=tk x d;show M i j D ν F
    ·let⟨i,D,z4,rfl⟩:=L x d;by_cases v5:i<b
     ·show cU (I i (b-1) ν ν ν) (V j R F)
     ·show J i j ν ν F
 have ga:∀i,i<(X.extract m b).size->G (b_ (X.extract m b) i):=λi v=>by rw[d i ν];show N _ ν
 have gb:∀i,i<(X.extract b (b+n)).size->G (b_ (X.extract b (b+n)) i):=λi v=>by rw[H i ν];show N _ ν
 have tA:o0 O k (X.extract m b):=λi j l o=>by rw[d i ν,d j ν];show I _ _ ν ν ν
 have tB:o0 O k (X.extract b (b+n)):=λi j l o=>by rw[H i ν,H j ν];show J _ _ ν ν ν
 have Y:∀j,j<(X.extract b (b+n)).size->Le O k (b_ (X.extract b (b+n)) j) (b_ (X.extract m b) ((X.extract m b).size-1)):=λj o=>by
  rw[H j ν,d _ ν,zx,show m+(b-m-1)=b-1 by lia];show dX (r1 j ν)
 have t0:Le O k (b_ (X.extract b (b+n)) 0) (b_ (X.extract m b) 0):=by
  rw[H 0 ν,d 0 ν];have:=q2 m (aS _) ν;rw[show 0+m=m by lia] at this;show dX (L9 this)
 split
 ·show bS (Kb C ga gb B tA tB Y t0 ν ν fin)
 ·show bS (Ka C ga gb B tA tB Y t0 ν ν fin)
end
def EQ(h:a[i]?=b[j]?):b_ a i=b_ b j:=by
 unfold b_;rw[eK,eK,h]
def AJ(c:j<=a.size)(m:Nat):b_ (mirror a i j ((j-i) / 2)) m=if i<=m/\m<j then b_ a (i+j-1-m) else b_ a m:=by
 have e:=HQ (i:=i) c m;by_cases b:i<=m/\m<j
 ·rw[Ω b] at e⊢;show EQ e
 ·rw[υ b] at e⊢;show EQ e
def NX(f:src<a.size)(g:d<=src)(m:Nat):b_ (bubble a src d) m=if m=src-d then b_ a src else if src-d<m/\m<=src then b_ a (m-1) else b_ a m:=by
 have e:=RB f d g m;by_cases b:m=src-d
 ·rw[Ω b] at e⊢;show EQ e
 ·rw[υ b] at e⊢;by_cases c:src-d<m/\m<=src
  ·rw[Ω c] at e⊢;show EQ e
  ·rw[υ c] at e⊢;show EQ e
section
variable{prog:bP}{w:cS}{A:cV}{E:aF->aJ->Prop}{s:aJ}{κ:SortKind}{O:KeyOrd}{k:Keyed->O.α}{G:Keyed->Prop}
structure u6(G:Keyed->Prop)(X:Array Keyed):Prop where
 good:∀x∈X.toList,G x
structure SB(κ:SortKind)(P:Array (Nat×Nat×Nat))(X:Array Keyed)(st:SortSt):Prop where
 kind:HM st=κ
 failed:failedOf st=ξ
 pend:pendingOf st=P
 perm:(arrOf st).Perm X
section
variable{X:Array Keyed}{P:Array (Nat×Nat×Nat)}{st:SortSt}
def SB.size(B:SB κ P X st):(arrOf st).size=X.size:=B.perm.size_eq
def u6.at(L:u6 G X)(p:Y.Perm X)(h:i<Y.size):G (b_ Y i):=by
 show L.good _ ((lJ.mp p).mem_iff.mp ?_);simp[b_,fR,h]
def MZ(C:p_ prog w A E s κ O k G)(L:u6 G X)(B:SB κ P X st){i j:Nat}{Q:Option Bool->SortSt->Prop}(hi:i<X.size)(a:j<X.size)(h:Q (ψ (O.blt (k (b_ (arrOf st) i)) (k (b_ (arrOf st) j)))) st):
  wpS (model prog w) A E s (ltAt' i j) Q st:=by
 rw[ltAt'_eq];have z:=B.size;show bS (tI (bS (jQ ν (bS (jQ ν (C _ _ _ _ (L.at B.perm ν) (L.at B.perm ν) B.kind h))))))
def Bz{lo:Nat}:oO O k a lo (lo+1):=λi j b c d=>by
 have:i=j:=ν
 subst this;show fI _
def Vy{lo n:Nat}(l:1<=n)(h:oO O k a lo (lo+n))(c:Le O k (b_ a (lo+n-1)) (b_ a (lo+n))):oO O k a lo (lo+(n+1)):=λi j b d m=>by
 by_cases e:j<lo+n
 ·show h i j b d e
 ·have f:j=lo+n:=ν
  subst f;by_cases g:i=lo+n
  ·subst g;show fI _
  ·show cU (h i (lo+n-1) b ν ν) c
def CI{i j:Nat}{Q:Unit->SortSt->Prop}(h:Q () (setArr st (mirror (arrOf st) i j ((j-i) / 2)))):wpS (model prog w) A E s (reverseSlice' i j) Q st:=by
 rw[reverseSlice'_eq];show oF h
def SB.arr(B:SB κ P X st){Y:Array Keyed}(p:Y.Perm (arrOf st)):SB κ P X (setArr st Y):=#[B.kind,B.failed,B.pend,p.trans B.perm]
def Mw(C:p_ prog w A E s κ O k G)(L:u6 G X)(B:SB κ P X st){lo n a:Nat}(l:1<=a)(e:a<=n)(hz:lo+n<=X.size)(g:oO O k (arrOf st) lo (lo+a)){Q:Option (Option Nat)×Nat->SortSt->Prop}
  {f:Nat->Option (Option Nat)×Nat->StateT SortSt Sem (ForInStep (Option (Option Nat)×Nat))}
  (i:∀x m,f x (ξ,m)=(do
   let r <-ltAt' (lo+m) (lo+m-1)
   match r with
   |some smaller=>if smaller=ζ then pure (kJ (ξ,m)) else pure (kR (ξ,m+1))
   |x=>pure (kJ (ψ ξ,m))))
  (h:∀m,a<=m->m<=n->oO O k (arrOf st) lo (lo+m)->(m=n\/O.blt (k (b_ (arrOf st) (lo+m))) (k (b_ (arrOf st) (lo+m-1)))=ζ)->Q (ξ,m) st):wpS (model prog w) A E s (forIn [a:n] ((ξ,a):Option (Option Nat)×Nat) f) Q st:=by
 show iX (I:=λx c b=>b=st/\c=(ξ,x)/\oO O k (arrOf st) lo (lo+x)) ?step ?fin #[rfl,rfl,g]
 case fin=>
  rintro c b ⟨rfl,rfl,d⟩;rw[show max a n=n by lia] at d⊢;show h n e (aS _) d (.inl rfl)
 case step=>
  rintro x c b j o ⟨rfl,rfl,d⟩;rw[i];show bS (MZ C L B ν ν ?_);fail;cases hb:O.blt (k (b_ (arrOf b) (lo+x))) (k (b_ (arrOf b) (lo+x-1))) with
  |true=>
   rw[Ω rfl];show cR (h x j ν d (.inr hb))
  |false=>
   rw[υ bR];show cR #[rfl,rfl,Vy ν d hb]
def UX(b:j<=a.size)(e:∀m,i<=m->m<j->k (b_ a m)=k (b_ a (j-1)))(m:Nat):k (b_ (mirror a i j ((j-i) / 2)) m)=k (b_ a m):=by
 rw[AJ b];split
 ·rw[e _ ν ν,e m ν ν]
 ·rfl
def u5(O:KeyOrd)(k:Keyed->O.α)(a:Array Keyed)(lo hi:Nat):Prop:=∀i j,lo<=i->i<=j->j<hi->Le O k (b_ a j) (b_ a i)
def EY{lo n:Nat}(l:1<=n)(h:u5 O k a lo (lo+n))(c:Le O k (b_ a (lo+n)) (b_ a (lo+n-1))):u5 O k a lo (lo+(n+1)):=λi j b d m=>by
 by_cases e:j<lo+n
 ·show h i j b d e
 ·have f:j=lo+n:=ν
  subst f;by_cases g:i=lo+n
  ·subst g;show fI _
  ·show cU c (h i (lo+n-1) b ν ν)
def UM{lo n:Nat}(e:∀m,k (b_ b m)=k (b_ a m))(h:u5 O k a lo n):u5 O k b lo n:=λi j c d f=>by
 unfold Le;rw[e,e];show h i j c d f
def Kx(lo nrem n:Nat):StateT SortSt Sem (Option Nat):=do
 reverseSlice' lo (lo+n)
 let r <-forIn [n:nrem] ((ξ,n):Option (Option Nat)×Nat) λ_ c=>do
  let x <-ltAt' (lo+c.2) (lo+c.2-1)
  match x with
  |some a=>if a=ζ then pure (kJ (ξ,c.2)) else pure (kR (ξ,c.2+1))
  |x=>pure (kJ (ψ ξ,c.2))
 gY (λ_=>StateT SortSt Sem (Option Nat)) r.1 (λq=>pure q) λ_=>pure (ψ r.2)
def Kw(lo nrem n:Nat):StateT SortSt Sem (Option Nat):=do
 liftM (rule "list.sort.descending-run")
 let r <-forIn [n+1:nrem] ((ξ,n+1,0):Option (Option Nat)×Nat×Nat) λ_ c=>do
  let x <-ltAt' (lo+c.2.1) (lo+c.2.1-1)
  match x with
  |some a=>
   if a=ζ then
    if c.2.2 > 0 then do
     reverseSlice' (lo+c.2.1-(c.2.2+1)) (lo+c.2.1)
     pure (kR (ξ,c.2.1+1,0))
    else pure (kR (ξ,c.2.1+1,0))
   else do
    let x <-ltAt' (lo+c.2.1-1) (lo+c.2.1)
    match x with
    |some b=>if b=ζ then pure (kJ (ξ,c.2.1,c.2.2)) else pure (kR (ξ,c.2.1+1,c.2.2+1))
    |x=>pure (kJ (ψ ξ,c.2.1,c.2.2))
  |x=>pure (kJ (ψ ξ,c.2.1,c.2.2))
 gY (λ_=>StateT SortSt Sem (Option Nat)) r.1 (λq=>pure q) λ_=>
  if r.2.2 > 0 then do
   reverseSlice' (lo+r.2.1-(r.2.2+1)) (lo+r.2.1)
   Kx lo nrem r.2.1
  else Kx lo nrem r.2.1
def Gn(C:p_ prog w A E s κ O k G)(L:u6 G X)(B:SB κ P X st){lo n nrem:Nat}(d:1<=n)(e:n<=nrem)(hz:lo+nrem<=X.size)(f:u5 O k (arrOf st) lo (lo+n)){Q:Option Nat->SortSt->Prop}
  (h:∀m cn,SB κ P X cn->1<=m->m<=nrem->oO O k (arrOf cn) lo (lo+m)->(∀i,i<lo->b_ (arrOf cn) i=b_ (arrOf st) i)->Q (ψ m) cn):wpS (model prog w) A E s (Kx lo nrem n) Q st:=by
 unfold Kx;have z:=B.size;show bS (CI ?_);have c:SB κ P X (setArr st (mirror (arrOf st) lo (lo+n) ((lo+n-lo) / 2))):=B.arr (yH _ _ _ _);have b:=λi=>AJ (a:=arrOf st) (i:=lo) (j:=lo+n) ν i;have keep:∀i,i<lo->b_ (arrOf (setArr st (mirror (arrOf st) lo (lo+n) ((lo+n-lo) / 2)))) i=b_ (arrOf st) i:=λi o=>by
  show b_ (mirror _ _ _ _) i=_;rw[b,υ ν]
 show bS (Mw C L c d e hz (λi j u v y=>?_) (λx m=>rfl) λq D g l _=>?_)
 ·show Le O k (b_ (mirror _ _ _ _) i) (b_ (mirror _ _ _ _) j);rw[b,b,Ω ν,Ω ν];show f _ _ ν ν ν
 ·show cR (h q _ c ν g l keep)
def Gm(C:p_ prog w A E s κ O k G)(L:u6 G X)(B:SB κ P X st){lo n nrem:Nat}(Y:1<=n)(U:n+1<=nrem)(hz:lo+nrem<=X.size)(V:u5 O k (arrOf st) lo (lo+(n+1))){Q:Option Nat->SortSt->Prop}
  (h:∀m cn,SB κ P X cn->1<=m->m<=nrem->oO O k (arrOf cn) lo (lo+m)->(∀i,i<lo->b_ (arrOf cn) i=b_ (arrOf st) i)->Q (ψ m) cn):wpS (model prog w) A E s (Kw lo nrem n) Q st:=by
 unfold Kw;show bS (GN (rS #[rfl,?_]));show bS (nP (iX (I:=λx c cn=>∃q,c=(ξ,x,q)/\SB κ P X cn/\u5 O k (arrOf cn) lo (lo+x)/\q+1<=x/\(∀m,lo+x-(q+1)<=m->m<lo+x->k (b_ (arrOf cn) m)=k (b_ (arrOf cn) (lo+x-1)))/\∀i,i<lo->b_ (arrOf cn) i=b_ (arrOf st) i)
  (Q:=λc cn=>∃x q,c=(ξ,x,q)/\n+1<=x/\x<=nrem/\SB κ P X cn/\u5 O k (arrOf cn) lo (lo+x)/\q+1<=x/\(∀m,lo+x-(q+1)<=m->m<lo+x->k (b_ (arrOf cn) m)=k (b_ (arrOf cn) (lo+x-1)))/\∀i,i<lo->b_ (arrOf cn) i=b_ (arrOf st) i) ?step ?fin #[0,rfl,B,V,ν,λm o f=>by congr 2;lia,λi _=>rfl]) ?post)
 case fin=>
  rintro c cn ⟨q,rfl,b,d,o,f,g⟩;rw[show max (n+1) nrem=nrem by lia] at d o f⊢;show#[nrem,q,rfl,U,aS _,b,d,o,f,g]
 case step=>
  rintro x c cn N v ⟨q,rfl,b,d,o,f,g⟩;have z:=b.size;fail;show bS (MZ C L b ν ν ?_);fail;cases hb:O.blt (k (b_ (arrOf cn) (lo+x))) (k (b_ (arrOf cn) (lo+x-1))) with
  |true=>
   rw[Ω rfl];by_cases u:q > 0
   ·rw[Ω u];have y:=UX (a:=arrOf cn) (i:=lo+x-(q+1)) (j:=lo+x) ν f;show bS (CI (cR #[0,rfl,b.arr (yH _ _ _ _),UM y (EY ν d (dX hb)),ν,λm R T=>by congr 2;lia,λi l=>?_]));show b_ (mirror _ _ _ _) i=_;rw[AJ ν,υ ν];show g i l
   ·rw[υ u];show cR #[0,rfl,b,EY ν d (dX hb),ν,λm R T=>by congr 2;lia,g]
  |false=>
   rw[υ bR];show bS (MZ C L b ν ν ?_);fail;cases hc:O.blt (k (b_ (arrOf cn) (lo+x-1))) (k (b_ (arrOf cn) (lo+x))) with
   |true=>
    rw[Ω rfl];show cR #[x,q,rfl,N,ν,b,d,o,f,g]
   |false=>
    rw[υ bR];have e:k (b_ (arrOf cn) (lo+x))=k (b_ (arrOf cn) (lo+x-1)):=O.total _ _ hb hc;show cR #[q+1,rfl,b,EY ν d (by unfold Le;rw[e];show fI _),ν,λm R T=>?_,g];rw[show lo+(x+1)-1=lo+x by lia];by_cases W:m=lo+x
    ·rw[W]
    ·rw[e];show f m ν ν
 case post=>
  rintro c cn ⟨x,q,rfl,N,v,b,d,o,f,g⟩;have z:=b.size;fail;by_cases u:q > 0
  ·rw[Ω u];have y:=UX (a:=arrOf cn) (i:=lo+x-(q+1)) (j:=lo+x) ν f;show bS (CI (Gn C L (b.arr (yH _ _ _ _)) ν v hz (UM y d) λm D F H J K M=>h m D F H J K λi l=>?_));rw[M i l];show b_ (mirror _ _ _ _) i=_;rw[AJ ν,υ ν];show g i l
  ·rw[υ u];show Gn C L b ν v hz d λm D F H J K M=>h m D F H J K λi l=>by rw[M i l];show g i l
def E6(lo nrem:Nat):countRun' lo nrem=(do
  let r <-forIn [1:nrem] ((ξ,1):Option (Option Nat)×Nat) λ_ c=>do
   let x <-ltAt' (lo+c.2) (lo+c.2-1)
   match x with
   |some smaller=>if smaller=ζ then pure (kJ (ξ,c.2)) else pure (kR (ξ,c.2+1))
   |x=>pure (kJ (ψ ξ,c.2))
  gY (λ_=>StateT SortSt Sem (Option Nat)) r.1 (λq=>pure q) λ_=>
   if(r.2 == nrem)=ζ then pure (ψ r.2)
   else if r.2 > 1 then do
    let x <-ltAt' lo (lo+r.2-1)
    match x with
    |some rose=>if rose=ζ then pure (ψ r.2) else do
      reverseSlice' lo (lo+r.2)
      Kw lo nrem r.2
    |x=>pure ξ
   else Kw lo nrem r.2):=rfl
def Wj(C:p_ prog w A E s κ O k G)(L:u6 G X)(B:SB κ P X st){lo n:Nat}(y:1<=n)(hz:lo+n<=X.size){Q:Option Nat->SortSt->Prop}
  (h:∀m cn,SB κ P X cn->1<=m->m<=n->oO O k (arrOf cn) lo (lo+m)->(∀i,i<lo->b_ (arrOf cn) i=b_ (arrOf st) i)->Q (ψ m) cn):wpS (model prog w) A E s (countRun' lo n) Q st:=by
 rw[E6];have z:=B.size;show bS (Mw C L B (aS 1) y hz Bz (λx m=>rfl) λm c l d D=>?_);fail;by_cases e:m=n
 ·rw[Ω (~~~e)];show cR (h m st B c l d λi _=>rfl)
 rw[υ (~~~e)];have o:=D.resolve_left e;by_cases u:m > 1
 ·rw[Ω u];show bS (MZ C L B ν ν ?_);fail;cases hb:O.blt (k (b_ (arrOf st) lo)) (k (b_ (arrOf st) (lo+m-1))) with
  |true=>
   rw[Ω rfl];show cR (h m st B c l d λi _=>rfl)
  |false=>
   rw[υ bR];have all:∀i,lo<=i->i<lo+m->k (b_ (arrOf st) i)=k (b_ (arrOf st) (lo+m-1)):=λi b f=>
    vR (d i (lo+m-1) b ν ν) (cU (show O.kle _ _ from hb) (d lo i ν b f))
   have F:=UX (a:=arrOf st) (i:=lo) (j:=lo+m) ν all;have g:u5 O k (arrOf st) lo (lo+m):=λi j b f v=>(by unfold Le;rw[all i b ν,all j ν v];show fI _);show bS (CI (Gm C L (B.arr (yH _ _ _ _)) c ν hz (UM F (EY c g (dX o))) λq H I J K M N=>h q H I J K M λi R=>?_));rw[N i R];show b_ (mirror _ _ _ _) i=_;rw[AJ ν,υ ν]
 ·rw[υ u];have:m=1:=ν
  subst this;have g:u5 O k (arrOf st) lo (lo+1):=λi j b f v=>by
   have:i=j:=ν;subst this;show fI _
  show Gm C L B (aS 1) ν hz (EY (aS 1) g (dX o)) h
def R6(C:p_ prog w A E s κ O k G)(L:u6 G X)(B:SB κ P X st){lo n ok:Nat}(h1:1<=ok)(h2:ok<=n)(hz:lo+n<=X.size)(V:oO O k (arrOf st) lo (lo+ok)){Q:Bool->SortSt->Prop}
  (h:∀cn,SB κ P X cn->oO O k (arrOf cn) lo (lo+n)->(∀i,i<lo->b_ (arrOf cn) i=b_ (arrOf st) i)->Q ζ cn):wpS (model prog w) A E s (binarySort' lo n ok) Q st:=by
 rw[binarySort'_eq];show bS (nP (iX (I:=λx c cn=>c=(ξ,())/\SB κ P X cn/\oO O k (arrOf cn) lo (lo+x)/\∀i,i<lo->b_ (arrOf cn) i=b_ (arrOf st) i)
  (Q:=λc cn=>c=(ξ,())/\SB κ P X cn/\oO O k (arrOf cn) lo (lo+n)/\∀i,i<lo->b_ (arrOf cn) i=b_ (arrOf st) i) ?step ?fin #[rfl,B,by rw[show max ok 1=ok by lia];show V,λi _=>rfl]) ?post)
 case post=>
  rintro c cn ⟨rfl,F,v,g⟩;show cR (h cn F v g)
 case fin=>
  rintro c cn ⟨rfl,F,v,g⟩;rw[show max (max ok 1) n=n by lia] at v;show#[rfl,F,v,g]
 case step=>
  rintro x c d x1 x2 ⟨rfl,H,o,g⟩;have z:=H.size;fail;show bS (nP (iX (I:=λy c cn=>cn=d/\∃l r,c=(ξ,l,r)/\l<=r/\r<=x/\r-l<=x-y/\(∀i,i<l->Le O k (b_ (arrOf d) (lo+i)) (b_ (arrOf d) (lo+x)))/\∀i,r<=i->i<x->Le O k (b_ (arrOf d) (lo+x)) (b_ (arrOf d) (lo+i)))
   (Q:=λc cn=>cn=d/\∃l r,c=(ξ,l,r)/\l<=x/\(∀i,i<l->Le O k (b_ (arrOf d) (lo+i)) (b_ (arrOf d) (lo+x)))/\∀i,l<=i->i<x->Le O k (b_ (arrOf d) (lo+x)) (b_ (arrOf d) (lo+i))) ?is ?iff #[rfl,0,x,rfl,ν,ν,ν,λi J=>Ψ J ν,λi a b=>Ψ b ν]) ?ip)
  case iff=>
   rintro c cn ⟨rfl,l,r,rfl,W,D,Y,e,f⟩;have:l=r:=ν;subst this;show#[rfl,l,l,rfl,D,e,f]
  case is=>
   rintro y c cn _ hy ⟨rfl,l,r,rfl,W,D,Y,e,f⟩;fail;by_cases N:l ≥ r
   ·have:l=r:=ν;subst this;rw[Ω N];show cR #[rfl,l,l,rfl,D,e,f]
   ·rw[υ N];generalize Z:(l+r) / 2=m;have hm:l<=m/\m<r:=ν;clear Z;show bS (MZ C L H ν ν ?_);fail;cases hb:O.blt (k (b_ (arrOf cn) (lo+x))) (k (b_ (arrOf cn) (lo+m))) with
    |true=>
     rw[Ω rfl];show cR #[rfl,_,_,rfl,ν,ν,ν,e,λi q q2=>cU (dX hb) (o _ _ ν ν ν)]
    |false=>
     rw[υ bR];show cR #[rfl,_,_,rfl,ν,ν,ν,λi q=>cU (o (lo+i) (lo+m) ν ν ν) hb,f]
  case ip=>
   rintro c cn ⟨rfl,l,r,rfl,D,e,f⟩;fail;rw[moveDown'_eq];show bS (oF (cR #[rfl,H.arr (bubble_perm _ _ _),λi j q q2 q3=>?_,λi J=>?_]))
   ·show Le O k (b_ (bubble _ _ _) i) (b_ (bubble _ _ _) j);rw[NX ν ν,NX ν ν,show lo+x-(lo+x-(lo+l))=lo+l by lia];have K:∀i,lo<=i->i<lo+l->Le O k (b_ (arrOf cn) i) (b_ (arrOf cn) (lo+x)):=λi z1 z2=>by
     have:=e (i-lo) ν
     rwa [show lo+(i-lo)=i by lia] at this
    have M:∀i,lo+l<=i->i<lo+x->Le O k (b_ (arrOf cn) (lo+x)) (b_ (arrOf cn) i):=λi z1 z2=>by
     have:=f (i-lo) ν ν
     rwa [show lo+(i-lo)=i by lia] at this
    by_cases R:i=lo+l
    ·rw[Ω R];by_cases u:j=lo+l
     ·rw[Ω u];show fI _
     ·rw[υ u,Ω ν];show M _ ν ν
    ·rw[υ R];by_cases u:j=lo+l
     ·rw[Ω u,υ ν];show K _ q ν
     ·rw[υ u];by_cases T:lo+l<i/\i<=lo+x
      ·rw[Ω T,Ω ν];show o _ _ ν ν ν
      ·rw[υ T];by_cases U:lo+l<j/\j<=lo+x
       ·rw[Ω U];show o _ _ q ν ν
       ·rw[υ U];show o _ _ q ν ν
   ·show b_ (bubble _ _ _) i=_;rw[NX ν ν,υ ν,υ ν];show g i J
end
end
def Ye(a:64<=n)(b:n<128):minRun' n n 0=n / 2+n % 2:=by
 obtain⟨f,c⟩:∃f,n=f+2:=#[n-2,ν];have e:minRun' (f+1+1) n 0=n / 2+n % 2:=by
  rw[minRun'_succ,υ ν,minRun'_succ,Ω ν];lia
 rwa [show f+1+1=n by lia] at e
def Vp(size lo n:Nat):StateT SortSt Sem (ForInStep (Option Unit×Nat)):=do
 let st <-get
 match (pendingOf st).back? with
 |some (c,b,_)=>do
  let r <-forIn [0:size] ((ξ,()):Option Unit×Unit) λ_ _=>do
   let st <-get
   match (if(pendingOf st).size > 1 then(pendingOf st)[(pendingOf st).size-2]? else ξ) with
   |some (_,_,a)=>
    if a<=power' size (2*c+b) (2*c+b+b+n) size then pure (.done (ξ,())) else do
     let t <-mergeAt' ((pendingOf st).size-2)
     if(!t)=ζ then pure (.done (ψ (),())) else pure (.yield (ξ,()))
   |_=>pure (.done (ξ,()))
  gY (λ_=>StateT SortSt Sem (ForInStep (Option Unit×Nat))) r.1 (λr=>pure (.done (ψ r,lo))) λ_=>do
   modify λs=>setPending s ((pendingOf s).modify ((pendingOf s).size-1) λ(st,len,_)=>(st,len,power' size (2*c+b) (2*c+b+b+n) size))
   modify λs=>setPending s ((pendingOf s).push (lo,n,0))
   pure (.yield (ξ,lo+n))
 |_=>do
  modify λs=>setPending s ((pendingOf s).push (lo,n,0))
  pure (.yield (ξ,lo+n))
def Vo(size a lo:Nat):StateT SortSt Sem (ForInStep (Option Unit×Nat)):=
 if lo ≥ size then pure (.done (ξ,lo)) else do
  let r <-countRun' lo (size-lo)
  match r with
  |some n=>
   if n<a then do
    rule "list.sort.binary-insertion"
    let t <-binarySort' lo (min (size-lo) a) n
    if(!t)=ζ then pure (.done (ψ (),lo)) else Vp size lo (min (size-lo) a)
   else Vp size lo n
  |_=>pure (.done (ψ (),lo))
def au:StateT SortSt Sem (ForInStep (Option Unit×Unit)):=do
 let st <-get
 if(pendingOf st).size<=1 then pure (.done (ξ,())) else do
  let t <-mergeAt' (if Option.any (λx=>decide (x<(pendingOf st)[(pendingOf st).size-2+1]?.elim 0 λx=>x.2.1)) (if(pendingOf st).size-2 > 0 then TJ (λx=>x.2.1) (pendingOf st)[(pendingOf st).size-2-1]? else ξ)=ζ then(pendingOf st).size-2-1 else(pendingOf st).size-2)
  if(!t)=ζ then pure (.done (ψ (),())) else pure (.yield (ξ,()))
def Zj:sortRuns'=(do
 let st <-get
 let r <-forIn [0:(arrOf st).size] ((ξ,0):Option Unit×Nat) λ_ c=>Vo (arrOf st).size (minRun' (arrOf st).size (arrOf st).size 0) c.2
 gY (λ_=>StateT SortSt Sem Unit) r.1 (λr=>pure r) λ_=>do
  let r <-forIn [0:(arrOf st).size] ((ξ,()):Option Unit×Unit) λ_ _=>au
  gY (λ_=>StateT SortSt Sem Unit) r.1 (λr=>pure r) λ_=>pure ()):=rfl
section
variable{s:aJ}{κ:SortKind}{O:KeyOrd}{k:Keyed->O.α}{X:Array Keyed}{st:SortSt}
def Runs(κ:SortKind)(O:KeyOrd)(k:Keyed->O.α)(X:Array Keyed)(st:SortSt):Prop:=
 (SB κ (mt [(0,X.size,0)]) X st/\oO O k (arrOf st) 0 X.size) \/
 ∃a b,0<a/\a<X.size/\SB κ (mt [(0,a,b),(a,X.size-a,0)]) X st/\oO O k (arrOf st) 0 a/\oO O k (arrOf st) a X.size
def SB.push(B:SB κ P X st):SB κ P' X (setPending st P'):=#[B.kind,B.failed,rfl,B.perm]
def Wk(B:SB κ (mt []) X st)(h:Q (.yield (ξ,n)) (setPending st (mt [(0,n,0)]))):wpS (model prog w) A E s (Vp z 0 n) Q st:=by
 show bS (tI ?_);rw[B.pend];show bS (oF (cR ?_));rw[B.pend,nZ];show h
def Wl(B:SB κ (mt [(0,n1,0)]) X st)(h:∀pw cn,SB κ (mt [(0,n1,pw),(n1,n,0)]) X cn->arrOf cn=arrOf st->Q (.yield (ξ,n1+n)) cn):wpS (model prog w) A E s (Vp z n1 n) Q st:=by
 show bS (tI ?_);rw[B.pend];show bS (nP (iX (I:=λ_ c cn=>c=(ξ,())/\cn=st) (Q:=λc cn=>c=(ξ,())/\cn=st) (λy c cn _ _ a=>bS (tI ?_)) (λc cn a=>a) #[rfl,rfl]) λc cn a=>?_)
 ·rw[a.2,B.pend];show cR #[rfl,rfl]
 ·let⟨rfl,rfl⟩:=a;show bS (oF (bS (oF (cR (h (power' z (2*0+n1) (2*0+n1+n1+n) z) _ #[B.kind,B.failed,?_,B.perm] rfl)))));show((pendingOf cn).modify ((pendingOf cn).size-1) _).push (n1,n,0)=_;rw[B.pend];rfl
def Mx(C:p_ prog w A E s κ O k G)(L:u6 G X)(B:SB κ P X st){lo a:Nat}(q:lo<X.size)
  (h:∀m cn,SB κ P X cn->1<=m->min (X.size-lo) a<=m->lo+m<=X.size->oO O k (arrOf cn) lo (lo+m)->(∀i,i<lo->b_ (arrOf cn) i=b_ (arrOf st) i)->wpS (model prog w) A E s (Vp X.size lo m) Q cn):wpS (model prog w) A E s (Vo X.size a lo) Q st:=by
 unfold Vo;rw[υ ν];show bS (Wj C L B ν ν λm g b c u d e=>?_);fail;split
 ·show bS (GN (rS #[rfl,bS (R6 C L b c ν ν d λj l n o=>?_)]));show h _ j l ν (aS _) ν n λi f=>(o i f).trans (e i f)
 ·show h m g b c ν ν d e
def Go(C:p_ prog w A E s κ O k G)(L:u6 G X)(B:SB κ (mt []) X st)(U:64<=X.size)(V:X.size<128)
  (h:∀cn,(arrOf cn).Perm X->failedOf cn=ξ->oO O k (arrOf cn) 0 X.size->Q () cn):wpS (model prog w) A E s sortRuns' Q st:=by
 rw[Zj];show bS (tI ?_);rw[B.size,Ye U V];generalize W:X.size / 2+X.size % 2=Y;show bS (nP (iX
  (I:=λx c cn=>(x=0/\c=(ξ,0)/\SB κ (mt []) X cn)\/(x=1/\∃d,c=(ξ,d)/\Y<=d/\d<=X.size/\SB κ (mt [(0,d,0)]) X cn/\oO O k (arrOf cn) 0 d)\/(2<=x/\c=(ξ,X.size)/\Runs κ O k X cn))
  (Q:=λc cn=>c=(ξ,X.size)/\Runs κ O k X cn) ?step ?fin (.inl #[rfl,rfl,B])) ?post)
 case fin=>
  rintro c cn (⟨F,_⟩ | ⟨F,_⟩ | ⟨_,Z,g⟩)
  ·lia
  ·lia
  ·show#[Z,g]
 case step=>
  rintro x c qi _ F (⟨rfl,rfl,n⟩ | ⟨rfl,d,rfl,m1,m2,n,H⟩ | ⟨x2,rfl,g⟩)
  ·show Mx C L n ν λm pj b m1 m2 m3 f _=>Wk b (.inr (.inl #[rfl,m,rfl,ν,ν,b.push,?_]))
   rwa [nZ] at f
  ·by_cases J:d<X.size
   ·show Mx C L n J λm pj b k1 k2 k3 f K=>Wl b λM o B3 e=>?_;obtain rfl:m=X.size-d:=ν;have e2:d+(X.size-d)=X.size:=ν;rw[e2] at f⊢;show .inr (.inr #[aS _,rfl,.inr #[d,M,ν,J,B3,λi j u N P=>by rw[e,K i ν,K j P];show H i j u N P,by rw[e];show f]])
   ·obtain rfl:d=X.size:=ν;unfold Vo;rw[Ω (aS _)];show cR #[rfl,.inl #[n,H]]
  ·unfold Vo;rw[Ω (aS _)];show cR #[rfl,g]
 case post=>
  rintro c cn ⟨rfl,g⟩;rcases g with⟨b,f⟩ | ⟨d,M,u,N,b,f,s3⟩
  ·show bS (nP (iX (I:=λ_ c a=>c=(ξ,())/\a=cn) (Q:=λc a=>c=(ξ,())/\a=cn) (λy c a _ _ l=>?_) (λc a l=>l) #[rfl,rfl]) λc a l=>?_)
   ·let⟨rfl,rfl⟩:=l;show bS (tI ?_);rw[Ω (by rw[b.pend];show aS 1)];show cR #[rfl,rfl]
   ·let⟨rfl,rfl⟩:=l;show cR (h _ b.perm b.failed f)
  ·have z:=b.size;show bS (nP (iX (I:=λy c a=>c=(ξ,())/\((y=0/\a=cn)\/(1<=y/\(pendingOf a).size=1/\(arrOf a).Perm X/\failedOf a=ξ/\oO O k (arrOf a) 0 X.size)))
    (Q:=λc a=>c=(ξ,())/\(arrOf a).Perm X/\failedOf a=ξ/\oO O k (arrOf a) 0 X.size) ?ss ?ff #[rfl,.inl #[rfl,rfl]]) ?pp)
   case ff=>
    rintro c a ⟨rfl,⟨hy,_⟩ | ⟨_,_,q⟩⟩
    ·lia
    ·show#[rfl,q]
   case pp=>
    rintro c a ⟨rfl,R,v,D⟩;show cR (h _ R v D)
   case ss=>
    rintro y c a _ hy ⟨rfl,⟨rfl,rfl⟩ | ⟨y1,y2,q⟩⟩
    ·show bS (tI ?_);rw[b.pend];show bS (Jz C (X:=arrOf a) (λi hi=>L.at b.perm hi) #[b.kind,b.failed,b.pend,rfl] ν u ν f (by rw[z];show s3) λo R v D T q5=>?_);rw[υ η];show cR #[rfl,.inr #[ν,by rw[D];rfl,(lJ.mpr T).trans b.perm,v,?_]];have zz:(arrOf o).size=X.size:=((lJ.mpr T).trans b.perm).size_eq;intro i j _ jw hj;by_cases e:i=j
     ·subst e;show fI _
     ·have:=dJ.mp q5 i j (by rw[bX];lia) (by rw[bX];lia) ν;have g1:i<(arrOf o).size:=ν;have g2:j<(arrOf o).size:=ν;simpa [b_,fR,g1,g2] using this
    ·show bS (tI ?_);rw[Ω (by rw[y2];show aS 1)];show cR #[rfl,q]
end
end
section
open PySem PySem.Spec PyProof.Rows L2
def ai(e:RE):RE:=λa Q=>e a λx=>∃b:ι (ι Int),x = .lst (b.map uE)/\b.length<=75/\∀c:ι (ι Int),c.Nodup->(∀d,d∈c↔d∈b)->Q (.int c.length)
def ah:R22:=λx y Q=>match y with
 | .lst c=>∃(b:List Int)(a:List (List Int)),x=uE b/\c=a.map uE/\Q (.bl (!decide (b∈a)))
 |_=>False
end
section
open PySem PySem.Spec PyProof.Rows L2 PySem.W
structure ni(h:Heap)(d:Addr)(es:Array DictEntry)(ep:Nat):Prop where
 ex:∃o,h.get? d=ψ o/\o.ExactDict/\o.data = .dict es ep
section
variable{s:aJ}
def ni.typeIs(x:ni s.heap d es ep):s.TypeIs (.ref d) "dict":=let ⟨o,h1,h2,_⟩:=x.ex;#[o,h1,h2.1]
def ni.at(x:ni h d es ep)(k:∀o,h.get? d=ψ o->h'.get? d=ψ o):ni h' d es ep:=let ⟨o,h1,h2⟩:=x.ex;#[o,k o h1,h2]
def ni.lt(x:ni h d es ep):d<h.objs.size:=let ⟨_,h1,_⟩:=x.ex;aZ h1
def Nt(c:(d == sysModules)=χ)(x:ni s.heap d es ep)
  (e:Q (.ref s.z) {s with heap:=s.heap.push {cls:=.type "dict_keyiterator",data:=.fields (mt [.ref d,.int 0 0,.int es.size 0,.int ep 0])}}):Δ prog w A (pyIter (.ref d)) Q E s:=by
 let⟨o,a,_,b⟩:=x.ex;show MX x.typeIs F.slot_dict_iter (iG F.slot_dict_iter x.typeIs F.entry_dict_iter ?_ (F.args_dict_iter_1 _));unfold Builtin.«dict.__iter__» Builtin.Dict.dictSlotNone;show aC (aC (wpAny_notOrdered_dict x.typeIs ?_));show wpAny _ _ (pure (eG d)) _ _ s;show aO ?_;show wpAny _ _ (DJ d >>= _) _ _ s;unfold DJ;rw[υ (by rw[c];show bR)];show aC (aO (aC (yW a b (aC (DH a b (aC (fQ (aO #[_,rfl,"dict_keyiterator",_,#[_,bQ _ rfl,rfl],F.slot_dict_keyiterator_next.lookup,e]))))))))
def Nu(b:s.heap.IsKeyIter it d i es.size ep)(x:ni s.heap d es ep)(hi:i<es.size)
  (j:∀h',h'.IsKeyIter it d (i+1) es.size ep->qA it s.heap h'->Q (ψ es[i].key) {s with heap:=h'}):Δ prog w A (pyNext (.ref it)) Q E s:=by
 let⟨o,f,k,e⟩:=id b;let⟨l,c,_,g⟩:=x.ex;have a:=b.typeIs;show aC (qS (kQ (name:=gW "__next__") a F.slot_dict_keyiterator_next (iG F.slot_dict_keyiterator_next a F.entry_dict_keyiterator_next ?_ (F.args_dict_keyiterator_next_1 _))));show aC (aO (aC (aC ?_)))
 first |show aC (kM a (aO ?_)) |show aC (mX a (aO ?_))
 show aC (xU f e ?_);rw[υ (show ¬(vF "dict_keyiterator")=ζ by decide)];show wpAny _ _ (if(eG d == dO)=ζ then _ else _) _ _ s;rw[υ (show ¬((eG d == dO)=ζ) from bR)];show aC (aO (aC (yW c g ?_)));rw[υ η];show aC (aO (aC (DH c g ?_)));rw[υ η];show aO ?_;erw[show ¬((i:Int)<0) from by lia,if_false,gU,cD hi];show aC ?_
 first |show aC (kM a (aO ?_)) |show aC (mX a (aO ?_))
 show aC (DY a ?_);show wpAny _ _ (setField (.ref it) 1 (rawInt ((i:Int)+1)) >>= _) _ _ s;have h:(s.heap.update it (HY (·.setIfInBounds 1 (rawInt ((i:Int)+1))))).IsKeyIter it d (i+1) es.size ep:=
  #[_,gR _ f (Obj.isFreed_of_fields (JI e _)),(Obj.cls_mapFields ..).trans k,by rw[JI e];simp[rawInt]]
 show aC (GM f e η (aC (gI (aC (DY (s:={s with heap:=s.heap.update it (HY (·.setIfInBounds 1 (rawInt ((i:Int)+1))))}) h.typeIs ?_)))));show wpAny _ _ (pure es[i].key) _ _ _;show aO (aO #[_,rfl,aO (j _ h (kW ..))])
def Sl(j:A.handled=ξ)(e:s.heap.IsKeyIter it d es.size es.size ep)(x:ni s.heap d es ep)
  (k:∀h',Heap.ExtBut it s.heap h'->Q ξ {s with heap:=h'}):Δ prog w A (pyNext (.ref it)) Q E s:=by
 let⟨o,g,l,h⟩:=id e;let⟨n,f,_,i⟩:=x.ex;have c:=e.typeIs;show aC (qS (kQ (name:=gW "__next__") c F.slot_dict_keyiterator_next (iG F.slot_dict_keyiterator_next c F.entry_dict_keyiterator_next ?_ (F.args_dict_keyiterator_next_1 _))));show aC (aO (aC (aC ?_)))
 first |show aC (kM c (aO ?_)) |show aC (mX c (aO ?_))
 show aC (xU g h ?_);rw[υ (show ¬(vF "dict_keyiterator")=ζ by decide)];show wpAny _ _ (if(eG d == dO)=ζ then _ else _) _ _ s;rw[υ (show ¬((eG d == dO)=ζ) from bR)];show aC (aO (aC (yW f i ?_)));rw[υ η];show aC (aO (aC (DH f i ?_)));rw[υ η];show aO ?_;erw[show ¬((es.size:Int)<0) from by lia,if_false,gU,sD (aS es.size)];show aC ?_
 first |show aC (kM c (aO ?_)) |show aC (mX c (aO ?_))
 show wpAny _ _ (setField (.ref it) 0 .none >>= _) _ _ s;show aC (GM g h η ?_);show wpAny _ _ (newExc (.type "StopIteration") [] >>= _) _ _ _;show aC ?_;erw[newExc,newTuple];show aC (fQ ?_ (by size_fits));show aC (m:=firstArgMember _ _) (kL (a:=dO) (by first |rfl | (erw[firstArgMember];rfl)) (fQ ?_ (by size_fits)));erw[raiseNew];show aC (XV ?_);rw[show A.in1.handled=ξ from j];show aC (aO (wpAny_throw ?_));show aC (uG (T:="StopIteration") (b:=ζ) #[_,bQ _ rfl,rfl] UU ?_);show aO (k _ (((kW ..).extBut.push _).push _))
def Hz(m:A.handled=ξ)(I:Addr)(ne:d≠I):Walks prog w A I [I,d] [I] es.size (λi v=>∃e,es[i]?=ψ e/\v=e.key) (λi h=>h.IsKeyIter I d i es.size ep/\ni h d es ep) where
 sub:=λb a=>by simp at a;simp[a]
 frame:=λ_ _ _ st j=>#[st.1.at λo e=>j I η o e,st.2.at λo e=>j d η o e]
 item:=λi s Q E k st c=>Nu st.1 st.2 k λf n l=>c _ f s.toks #[_,cD k,rfl] #[n,st.2.at λo e=>l.extBut d o ne e] λb o a e=>l.extBut b o (λh=>a (by simp[h])) e
 done:=λs Q E st c=>Sl m st.1 st.2 λf g=>c f s.toks λb o a e=>g b o (λh=>a (by simp[h])) e
 self:=λ_ _ _ _ st c=>wpAny_pyIter_keyiter st.1 c
def Sm(lo:(d == sysModules)=χ):KdlSrc prog w "dict" d d es.size (λi v=>∃e,es[i]?=ψ e/\v=e.key) (λh=>ni h d es ep) where
 type:=λ_ x=>x.typeIs
 there:=λ_ x=>#[x.lt,x.lt]
 keep:=λ_ _ x b=>x.at λo e=>b d (.inl rfl) o e
 notList:=μ
 notTuple:=μ
 hint:=λ_ _ _ _ x a=>kdl_hint_dict x.typeIs a
 iter:=λ_ _ c x=>#[_,_,(λ_ _ a=>Nt lo x a),Hz c _ (bO x.lt),#[#[_,bQ _ rfl,rfl,rfl],x.at λo e=>aN _ e]]
end
def TQ(ks:ι (ι Int))(k:ι Int):ι (ι Int):=if k∈ks then ks else ks++[k]
def putX{α:Type}(ks:ι (ι Int))(xs:ι α)(k:ι Int)(x:α):ι α:=if k∈ks then gL (λa y=>if a=k then x else y) ks xs else xs++[x]
def EW:ι (ι Int)->ι D->ι Int->Option D
 |k'::a,d::b,k=>if k'=k then ψ d else EW a b k
 |_,_,_=>ξ
def LZ{a b:ι Int}(e:a.map (dR:Int->ij)=b.map dR):a=b:=by
 have z:=Φ (pL λx:ij=>match x with | .inl i=>i | .inr _=>0) e;rw[cP,cP] at z;simpa [Function.comp_def] using z
def VD:(gT ks vs).length=min ks.length vs.length:=by simp[gT]
theorem JR:∀{ks:ι (ι Int)}{vs:ι V}{k:ι Int},ks.length=vs.length->((gT ks vs).any (λkv=>decide (kv.1=k.map dR))=ζ↔k∈ks)
 | [],[],k,_=>by simp[gT]
 | [],_::_,k,h=>by cases h
 |_::_,[],k,h=>by cases h
 |k'::ks,v::vs,k,h=>by
  show(((k'.map dR,v)::gT ks vs).any _=ζ↔_);rw[zB,vE,JR (ks:=ks) (vs:=vs) (k:=k) (~~~h),aP,decide_eq_true_iff];show or_congr_left #[λe=>(LZ e).symm,λe=>by rw[e]]
theorem VE:∀{ks:ι (ι Int)}{vs:ι V}{k:ι Int}{v:V},(gT ks vs).map (λkv=>if kv.1=k.map dR then(kv.1,v) else kv)=gT ks (gL (λk' y=>if k'=k then v else y) ks vs)
 | [],_,k,v=>by simp[gT]
 |_::_,[],k,v=>by simp[gT]
 |k'::ks,u::vs,k,v=>by
  show(if k'.map dR=k.map dR then(k'.map dR,v) else(k'.map dR,u))::(gT ks vs).map _=(k'.map dR,if k'=k then v else u)::gT ks _;rw[VE];by_cases e:k'=k
  ·rw[Ω (by rw[e]),Ω e]
  ·rw[υ (λz=>e (LZ z)),υ e]
def Ii(h:ks.length=vs.length):JY (gT ks vs) (k.map dR) v=gT (TQ ks k) (putX ks vs k v):=by
 unfold JY TQ putX;by_cases m:k∈ks
 ·rw[Ω ((JR h).mpr m),Ω m,Ω m,VE]
 ·rw[υ (λz=>m ((JR h).mp z)),υ m,υ m];unfold gT;rw[List.zipWith_append (by show h)];rfl
def Va{α:Type}{xs:ι α}{x:α}(h:ks.length=xs.length):(TQ ks k).length=(putX ks xs k x).length:=by
 unfold TQ putX;by_cases m:k∈ks
 ·rw[Ω m,Ω m];simp[h]
 ·rw[υ m,υ m];simp[h]
theorem a_.putX{K:aH}{H:Hp}{k:ι Int}{d:D}{v:V}(a:ig K H d v):∀{ks:ι (ι Int)}{ds:ι D}{vs:ι V},a_ K H ds vs->a_ K H (gL (λk' y=>if k'=k then d else y) ks ds) (gL (λk' y=>if k'=k then v else y) ks vs)
 | [],_,_,_=>by simp;show .nil
 |_::_,_,_,.nil=>by simp;show .nil
 |k'::ks,_,_,.cons r t=>by
  rw[jL,jL];show .cons ?_ (a_.putX a t);by_cases e:k'=k
  ·rw[Ω e,Ω e];show a
  ·rw[υ e,υ e];show r
theorem Lg{K:aH}{H:Hp}{k:ι Int}:∀{ks:ι (ι Int)}{ds:ι D}{vs:ι V},a_ K H ds vs->(∀d,EW ks ds k=ψ d->∃v,qN (gT ks vs) (k.map dR)=ψ v/\ig K H d v)/\(EW ks ds k=ξ->qN (gT ks vs) (k.map dR)=ξ)
 | [],_,_,_=>#[λd e=>(by simp[EW] at e),λ_=>by simp[gT,qN]]
 |_::_,_,_,.nil=>#[λd e=>(by simp[EW] at e),λ_=>by simp[gT,qN]]
 |k'::ks,f::ds,c::vs,.cons r t=>by
  let⟨a,b⟩:=Lg (k:=k) (ks:=ks) t;show(∀d,(if k'=k then ψ f else EW ks ds k)=ψ d->∃v,qN ((k'.map dR,c)::gT ks vs) _=_/\_)/\((if k'=k then ψ f else EW ks ds k)=ξ->qN ((k'.map dR,c)::gT ks vs) _=_);by_cases e:k'=k
  ·rw[Ω e,tE (by rw[e])];show#[λd z=>by cases z;show#[c,rfl,r],λz=>by cases z]
  ·rw[υ e,pZ (λz=>e (LZ z))];show#[a,b]
def Az{K:aH}{H:Hp}{kk:ι Int}{v:V}(r:ig K H (.tup (kk.map .int)) v):∃b,v = .ref b/\H b=ψ (.tup ((kk.map (dR:Int->ij)).map kV)):=by
 cases r with
 | @tup b a _ h r=>
  rw[a_.ints_inv r] at h;show#[b,rfl,by rw[cP];show h]
section
variable{X:Cx}{pos pos' p im apos cpos l_:Pos}{te tk tf:RE}{x:Str}
def C5(i:Nat):RS:=λE a=>E.nx (a.set i (ψ (.dt [] [])))
def Xf{i:Nat}(g:X.N.Nodup)(hi:X.N[i]?=ψ x:=by rfl)(j:Loc X.env.scope x:=by walk_at "vis")(k:swapsWith (.Dict [] [] p) (ψ (.Name x pos')) pos.line X.env=pure χ:=by rfl)
  (l:X.fn x=ζ\/X.env.scope.names.lookup x=ψ .local:=by walk_at "loc"):DS X (.Assign [.Name x pos'] (.Dict [] [] p) pos) (C5 i):=
 PS.mono (Bm g hi j Ug k l) λs Z H m=>pV m λd E st q n r b c=>λa e=>by
  have f:cc H (f6 H a (.dT [])):=cc.fn λb o h=>by rw[cQ (cX h e)];show h
  show n _ _ _ q (.of f) (st.put f #[a,[],rfl,eV,st.same.free e,rfl,.nil] λc o=>by cases o;show e)
def ZF(i:Nat)(tk te:RE):RS:=λE a=>match a[i]? with
 |some (ψ (.dt b c))=>te a λd=>tk a λe=>∃kk:List Int,e = .tup (kk.map .int)/\Sz (b.length+1)/\E.nx (a.set i (ψ (.dt (TQ b kk) (putX b c kk d))))
 |_=>False
def Lf(i:Nat)(M:h9 n X.A)(O:DE X k tk)(P:DE X e te)(Q:X.N[i]?=ψ x:=by rfl)(R:sx X.env.scope x:=by walk_at "vis")(T:(x == ("__debug__":Str))=χ:=by decide)(U:(x == ("__classdict__":Str))=χ:=by decide)
  (V:swapsWith e (ψ (.Subscript (.Name x im) k pos')) pos.line X.env=pure χ:=by rfl):DS X (.Assign [.Subscript (.Name x im) k pos'] e pos) (ZF i tk te):=by
 show PS.mono (Yy (by have:=M.un;lia) (pv (pos:=im) i Q R T U) O P V) λDe Z H W=>pV W λg E F q n r bk ct=>?_;unfold ZF at q;split at q
 ·rename_i f y G;show#[g,_,F,q,λd v H1 Y I rv=>?_];have z:=F.ext I;let⟨va,B,a,w,ev,ha,h0,C,rr⟩:=z.rel i _ G;subst ev;show#[.ref a,B,g,_,z,Y,λkd kv j D l rk=>?_];let⟨kk,rfl,sz,fin⟩:=D;let⟨b,rfl,hb⟩:=Az rk;have J:=l.get _ _ ha trivial;show#[a,_,rfl,ue.t J hb (by rw[VD,<-C,vZ];show sz.ok),?_];rw[Ii C];have zq:c5 j (f6 j a (.dT (gT (TQ f kk) (putX f w kk v)))):=c5.chg1 J (.inr (.inr #[_,rfl]));have s:a_ X.K j y w:=rr.keep (.of l);have L:ig X.K j d v:=rv.keep (.of l);have rp:a_ X.K j (putX f y kk d) (putX f w kk v):=by
   unfold putX;by_cases m:kk∈f
   ·rw[Ω m,Ω m];show a_.putX L s
   ·rw[υ m,υ m];show s.append (.cons L .nil)
  let⟨u,k4⟩:=(z.ext l).updW (x':=.dt (TQ f kk) (putX f y kk d)) (v':=.ref a) G B (H':=f6 j a (.dT (gT (TQ f kk) (putX f w kk v))))
   (λc o h w'=>by rw[cQ (by rintro rfl;show w' rfl)];show h) #[a,_,rfl,eV,h0,Va C,rp.keep zq] λc o=>.inl o
  rw[mR B] at u;show n _ _ _ fin (((c5.of I).trans (.of l)).trans k4) u
 ·show q.elim
def rTGet(i:Nat)(tk tf:RE):RE:=λa Q=>match a[i]? with
 |some (ψ (.dt b c))=>tk a λd=>tf a λz=>∃kk:List Int,d = .tup (kk.map .int)/\Q ((EW b c kk).getD z)
 |_=>False
def Br(i:Nat):RA:=λa Q=>match a[i]? with
 |some (ψ (.dt b c))=>Q (b.map uE)
 |_=>False
theorem LU:∀{ks:ι (ι Int)}{vs:ι V}{xs:ι (ι ij×Addr×aF)},ks.length=vs.length->KT H (gT ks vs) xs ->
  ∃bs:ι Addr,xs.map (λx=>(entryOfKey (tupleKind (gA P w)) x).key)=bs.map eG/\bs.length=ks.length/\∀(K:aH),a_ K H (ks.map uE) (bs.map V.ref)
 | [],[],_,_,t=>by cases t;show#[[],rfl,rfl,λ_=>.nil]
 | [],_::_,_,h,_=>by cases h
 |_::_,[],_,h,_=>by cases h
 |k::ks,v::vs,_,h,t=>by
  cases t with
  | @cons _ q _ d r t=>
   let⟨bs,a,b,c⟩:=LU (P:=P) (w:=w) (~~~h) t;show#[q.2.1::bs,by rw[aM,a];rfl,by simp[b],λK=>.cons (.tup (vs:=k.map V.int) ?_ .ints) (c K)];have z:=r.2.1;rw[show((k.map dR,v):ι ij×V).1=k.map dR from rfl,cP] at z;show z
def Jx{Z:St}(C:X.calm=ζ)(s:ks.length=vs.length)(D:Rd H a (.dT (gT ks vs)))(i:Inv X Γ Z H s1)
  (h:∀(ws:ι V)(h':Heap)(tk:Nat),Inv X Γ Z (f6 H s1.z (.lst ws)) {s1 with heap:=h',toks:=tk}->H s1.z=ξ->a_ X.K H (ks.map uE) ws->Q (.ref s1.z) {s1 with heap:=h',toks:=tk}):
  Θ X (call (.type "list") [.ref a]) Q E s1:=by
 let⟨z,k,F,G,I⟩:=YN i.hok D;let⟨o,es,ep,J,L,M,l,U,W⟩:=I;let⟨bs,m,n,u⟩:=LU (P:=X.prog) (w:=X.w) s G;have sz:es.size=ks.length:=by rw[<-bX,l,aG,<-aG (f:=λx=>(entryOfKey (tupleKind (gA X.prog X.w)) x).key),m,aG,n]
 have zk:ks.length<=sizeLine:=by rw[VD,<-s,vZ] at z;show z
 show kdl_call (Sm (es:=es) (ep:=ep) k) (i.ok.hd C) #[o,J,L,M] (by rw[sz];show zk) λh' tk d c N O A=>?_;have B:d.toList=bs.map eG:=by
  rw[<-m];apply sK;intro j;cases e:d.toList[j]? with
  |none=>
   have:d.size<=j:=(~~~e);rw[A.1,<-bX,l,aG] at this;rw[gC (by rw[aG];show this)]
  |some v=>
   let⟨Y,g,R⟩:=A.2 j v (~~~e);rw[<-tK,l,bJ] at g;rw[bJ];cases q:F[j]? with
   |none=>rw[q] at g;cases g
   |some y=>rw[q] at g;cases g;rw[R];rfl
 have VV:c6 (bs.map V.ref) d.toList:=by
  rw[B];clear B m n u
  induction bs with
  |nil=>show .nil
  |cons b bs T=>show .cons rfl T
 show h (bs.map V.ref) h' tk (i.laid (a:=s1.z) (o:=.lst (bs.map V.ref)) (h':=h') (t':=tk) N (aS _) #[by rw[aG,n];show zk,d.toList,c,VV,~~~O]) (i.hok.fresh (aS _)) (u X.K)
def Sq(i:Nat)(g:X.mg "list" = ξ)(h:X.calm=ζ)(j:X.N[i]?=ψ x:=by rfl)(k:sx X.env.scope x:=by walk_at "vis")(l:(x == ("__debug__":Str))=χ:=by decide)(m:(x == ("__classdict__":Str))=χ:=by decide)
  (n:Gl X "list":=by rfl) (d:starEach [.Name x im] X.env=[(χ,eval (.Name x im) X.env)]:=by rfl) (b:starEach [] X.env=[]:=by rfl):DO X (.Call (.Name "list" p) [.Name x im] [] pos) (Br i):=by
 intro Γ s Z H Q I o;let⟨c,P,v,q,w⟩:=o;unfold Br at q;split at q
 ·rename_i O R y;let⟨T,A,a,U,B,C,V,D,W⟩:=v.rel i _ y;subst B;show eP (lU I n g boot_list ?_);show cN (h8 (pX (pv (pos:=im) i j k l m) d b pos Γ s Z H (λe f=>e=[.ref a]/\f=H) I #[.ref a,A,rfl,rfl]) λe E ⟨F,f,G,r1,J⟩=>?_) (by rw[d,b]) (by rw[b];rfl);let⟨rfl,rfl⟩:=J;let⟨u,rfl,K⟩:=vals1 r1;cases K;show Jx h D (.inl C) G λF Y tk L b M=>#[.ref E.z,_,L,rfl,w _ _ _ _ q (cc.refl _) b M]
 ·show q.elim
end
section
variable{pos p apos cpos:Pos}{te ta tk tf:RE}
def cx(te:RE):RA:=λa Q=>te a λx=>∃(b:ι (ι Int))(c:ι D),x = .dtt b c/\Q (b.map uE)
def PL:R22:=λx y Q=>match x with
 | .dtt a b=>∃(kk:List Int)(d:D),y = .tup (kk.map .int)/\EW a b kk=ψ d/\Q d
 |_=>False
def LQ(j:h9 n X.A)(l:DE X a ta)(m:DE X k tk)(q:Wo k:=by intro _ _;rfl):DE X (.Subscript a k pos) (r2 PL ta tk):=by
 show PE.mono (Lv (by have:=j.un;lia) l m q) λZ H Q h=>?_;let⟨c,P,st,s,z⟩:=h;show#[c,_,st,s,λx v K B g r1=>#[c,_,st.ext g,B,λy u C f i r2=>?_]];unfold PL at f;split at f
 ·rename_i ks L;let⟨kk,d,rfl,e,f⟩:=f;let⟨b,rfl,D⟩:=Az r2;have E:=ig.keep (.of i) r1;cases E with
  | @dtt a M _ _ o F N G=>
   let⟨w,I,J⟩:=(Lg (k:=kk) (ks:=ks) G).1 d e;show#[a,w,rfl,.inr #[_,_,b,.inr #[o,F],rfl,D,I.symm],z d w C f (g.trans i) J]
 ·show f.elim
end
def ak(b:RE):RA:=λa Q=>b a λd=>match d with
 | .dtt c e=>Q (gL (λk x=>D.tup [uE k,x]) c e)
 |_=>False
end
section
open PySem PySem.Spec PyProof.Rows L2
section
variable{pos apos cpos im:Pos}{te ta:RE}
def rInsD(i:Nat)(ta te:RE):RS:=λE a=>match a[i]? with
 |some (ψ (.own b))=>ta a λk=>te a λd=>∃j:Nat,k = .int (j:Int)/\j<=b.length/\Sz (b.length+1)/\E.nx (a.set i (ψ (.own (b.take j++d::b.drop j))))
 |_=>False
def cw(i:Nat)(te:RE):RE:=λa Q=>te (cf i a) λd=>∃n:Int,d = .int n/\Q d
end
end
section
open PySem PySem.W PySem.Spec PySem.SetTable PyProof.Rows L2
def D8(A:cV)(s:aJ)(y x:aF)(b:Bool):Prop:=∀(a:bP)(w:cS)(E:aF->aJ->Prop)(Q:aF->aJ->Prop),Q (.bool b) s->Δ a w A (richCompare .Lt y x) Q E s
end
section
open PySem PySem.Spec PyProof.Rows L2
def dNeZ:R22:=λx y Q=>match x,y with
 | .lst a,.lst []=>Q (.bl !a.isEmpty)
 |_,_=>False
abbrev FM:=ι (ι Int)->ι D->ι D->(ι Int->D->Prop)->Prop
abbrev RM:=(ι Int->D->Prop)->En->Prop
def liftM(X:Cx)(a:Addr)(ks:ι (ι Int))(e:ι V)(t:RM):TS:=λf Z H=>∃(b:En)(P:ι Int->D->Prop),c_ X b Z H/\t P b /\
 ∀kk d v g c,P kk d->cc X.H₀ c->ig X.K c d v->f.nx g (f6 c a (.dT (gT (TQ ks kk) (putX ks e kk v))))
def rRetF(t:RA):RS:=λE a=>t a λb=>E.rt (.lst b)
end
section
open PySem PySem.Spec PySem.W PyProof.Rows L2
section
variable{s:aJ}
def Tj(a:A.depth<recursionLimit)(k:s.heap.get? f=ψ (kla_obj name qual params body scope kf pm c' uo))(l:s.heap.CodeRec (.ref c') qual)(d:s.heap.NoLimit)
  (m:bindArgs (kla_fn name qual params body scope kf pm (.ref c') uo) #[[v],[]]=pure [(x,v)]) (n:scope.names.lookup x=ψ .local) (g:scope.isCoroutine=χ) (q:scope.isGenerator=χ) (B:scope.kind = .function) (C:∀y∈scope.names,y.2≠.cell)
  (h:∀h₁ tk,h₁.Ns s.z (λy=>[(x,v)].reverse.lookup y)->(∀b o,s.heap.get? b=ψ o->h₁.get? b=ψ o) ->
   Δ prog w (A.deeper (envX qual scope s.z f (.ref c') kf)) (eval body (envX qual scope s.z f (.ref c') kf)) Q (λ_ _=>False) {s with heap:=h₁,toks:=tk}):
  Δ prog w A (call (.ref f) [v]) Q E s:=by
 show KG (kla_callFunE a k rfl g q rfl l ?_);rw[m];show aO (GJ C (λy D=>by rw[bE.mp D];show n) (λh₁ i c=>#[d.fresh _ c,?_]) B);have j:∀b o,s.heap.get? b=ψ o->h₁.get? b=ψ o:=λb o e=>c.extBut b o (bO (aZ e)) (aN _ e);show kla_codeExpr (gM (h h₁ _ i j) (λu G F=>F) λ_ _ z=>z.elim)
end
def QE(prog:bP)(w:cS)(A:cV)(env:Env)(h:Heap)(e:Expr)(R:aF->Prop):Prop:=
 ∀(s:aJ)(Q:aF->aJ->Prop),s.heap=h->(∀u a,R u->Q u {s with toks:=a})->Δ prog w A (eval e env) Q (λ_ _=>False) s
def tu(i:Int)(u:aF):Prop:=∃t,u = .int i t
section
variable{prog:bP}{w:cS}{A:cV}{env:Env}{h:Heap}{a b:Expr}{pos:Pos}
def X9(c:env.scope.kind = .function)(d:env.kindOf x=ψ .local)(f:h.Ns env.locals m)(g:m x=ψ u)(i:(x == ("__debug__":Str))=χ:=by decide):QE prog w A env h (.Name x pos) (· = u):=λs Q e k=>by
 subst e;show CH (GI c d f g (k u s.toks rfl)) i
def O6{c:Addr}(d:env.scope.kind = .function)(f:env.kindOf x=ψ .free)(g:env.cells.lookup x=ψ c)(hi:h.IsCell c (ψ u))(i:(x == ("__debug__":Str))=χ:=by decide)(j:(x == ("__classdict__":Str))=χ:=by decide):QE prog w A env h (.Name x pos) (· = u):=λs Q e k=>by
 subst e;show CH (HU d f g hi (k u s.toks rfl) j) i
def C4:QE prog w A env h (.Constant (.int i) n pos) (tu i):=λs Q e k=>KF (k _ _ #[_,rfl])
def C3(rule:∀(t u:Tok)(s:aJ)(Q:aF->aJ->Prop)(E:aF->aJ->Prop),Q (.int r s.toks) {s with toks:=s.toks+1}->Δ prog w A (binaryOp op (.int i t) (.int j u)) Q E s)
  (c:QE prog w A env h a (tu i)) (d:QE prog w A env h b (tu j)):QE prog w A env h (.BinOp a op b pos) (tu r):=λs Q e k=>by
 show wpAny_BinOp (c s _ e λu n f=>d _ _ e λv g l=>?_);let⟨t,rfl⟩:=f;let⟨m,rfl⟩:=l;show rule t m _ Q _ (k _ _ #[_,rfl])
def Y0(c:IntMulOk i j)(d:QE prog w A env h a (tu i))(e:QE prog w A env h b (tu j)):QE prog w A env h (.BinOp a .Mult b pos) (tu (i*j)):=C3 (λ_ _ _ _ _ q=>mul_int q c) d e
def O5(c:qq i j)(d:QE prog w A env h a (tu i))(e:QE prog w A env h b (tu j)):QE prog w A env h (.BinOp a .FloorDiv b pos) (tu (i.fdiv j)):=C3 (λ_ _ _ _ _ q=>floordiv_int c.nz q (.inl c.np)) d e
def X8{p:Addr}{its:ι aF}{n:Nat}{u:aF}(d:QE prog w A env h a (· = .ref p))(f:QE prog w A env h b (tu (n:Int)))(c:IsTup h p its.toArray)(hz:its.length<=sizeLine)(g:its[n]?=ψ u)(i:Ab b):QE prog w A env h (.Subscript a b pos) (· = u):=λs Q e k=>by
 subst e;show Subscript_ (d s _ rfl λo D l=>f _ _ rfl λv m q=>?_);obtain rfl:o = .ref p:=l;let⟨t,rfl⟩:=q;let⟨j,y,z,E,F,G⟩:=Ac (qW (xs:=its) g);have B:=Ba;show tD (x:=u) c.typeIs slot_tuple_getitem.lookup
  (XJ (j:=j) (Q:=λr C=>r=u/\Q r C) c ν ν (by rw[aY];show y) (~~~z) #[rfl,k u _ rfl]) (i _ _)
end
def zf:Heap:={objs:=(mt [])}
section
variable{s:aJ}{L l f:Addr}
def LR(b:Addr):zf.get? b=ξ:=by simp[zf,Heap.get?]
def Vv(J:s.heap.Ns L m)(K:s.heap.IsList l vs.toArray)(a:kz.length=vs.length)(M:vs.length<64)(O:s.z=f+1)(j:∃o,s.heap.get? f=ψ o)(y:f≠L)
  (d:∀(i:Nat)(v:aF)(k:Int),vs[i]?=ψ v->kz[i]?=ψ k->∀(h:Heap)(tk:Nat),(∀b o,b≠L->s.heap.get? b=ψ o->h.get? b=ψ o)->h.Ns L m ->
   Δ prog w A.in1.in1 (call (.ref f) [v]) (λu s'=>∃h' wm t',s' = {s with heap:=h',toks:=wm}/\u = .int k t'/\∀b o,h.get? b=ψ o->h'.get? b=ψ o) (λ_ _=>False) {s with heap:=h,toks:=tk})
  (q:∀D h' tk out c,(∀b o,b≠L->s.heap.get? b=ψ o->h'.get? b=ψ o)->h'.Ns L m->s.z<=D->h'.get? D=ψ (seqObj "list" out c)->KskOut χ kz vs out.toList->Q (.ref D) {s with heap:=h',toks:=tk}):
  Δ prog w A (call (.builtin "sorted") [.ref l] [(gW "key",.ref f)]) Q E s:=by
 have F:Fr zf L s.heap m:=#[J,λb o e=>(by rw[LR] at e;cases e),dL _];have B:∀{h:Heap}{own:ι (Addr×Obj)},News zf L h (LF zf s.heap L++own)->∀b o,b≠L->s.heap.get? b=ψ o->h.get? b=ψ o:=λ{h own} N b o n e=>
  (N (b,o) (dY _ (FE n (LR b) e))).1
 show ksk_sorted (kz:=kz) (f:=.ref f) (b:=χ) F (Tv (g:=zf) (h:=s.heap) (L:=L)) K a M (ksk_s1 _ _) (λx=>ksk_l1 _ _) (λx=>ksk_t1 f x) (λi v k P R h tk own C N=>?_) λD h' tk out c T G U V=>?_
 ·show gM (d i v k P R h tk (B N) C.ns) (λu s' W=>?_) λ_ _ z=>z;let⟨h',wm,t',rfl,rfl,H⟩:=W;show#[h',wm,t',rfl,rfl,#[C.ns.keeps H,λb o e=>(by rw[LR] at e;cases e),dL _],λp I=>#[H _ _ (N p I).1,(N p I).2]]
 ·let⟨o,X⟩:=j;have Y:f<D:=U (f,o) (FE y (LR f) X);show q D h' tk out c (λb o n e=>(G (b,o) (bH _ (FE n (LR b) e))).1) T.ns (by rw[O];show Y) (G _ cT).1 V
end
end
section
open PySem PySem.Spec PyProof.Rows L2
section
variable{P:bP}{w:cS}{K:aH}{mg:Str->Option aF}{base:Heap}
def Cq{x a:Str}{st:Stmt}{f c T:Addr}{h kV b i d ct:aF}{j k:Option Addr}{l:Array (Option aF)}(M:Mod K mg base)(m:mg x=ψ (.ref f))
  (n:K.lookup f=ψ #[h,j,.func (mP x a (BW st) (pF st) (fW st) .none kV b i k d ct),l]) (e:fH K x=ψ (c,T)):d = .ref c:=by
 unfold fH at e;split at e
 ·rename_i q o;have g:=XC M.kin M.glob o;rw[m] at g;cases g;rw[n] at e;dsimp only at e;split at e
  ·split at e
   ·split at e
    ·cases e;rfl
    ·cases e
   ·cases e
  ·cases e
 ·cases e
def jn.okC{x:Str}{st:Stmt}{N g:ι Str}{k:Nat}{F:FD}{t:RS}(Z:jn K mg x st g)(D:jo N g (fW st))
  (G:∀{f:Addr}(i_:aF)(A:cV)(outer:ι Env)(s:aJ)(H:Hp)(E:XK),(∀c T,fH K x=ψ (c,T)->i_ = .ref c)->h9 k (A.deeper (envOfC x (fW st) s.z f i_)) ->
   ro (LM on P w K mg base N x (fW st) f i_ A outer s H E).nox (pF st) t)
  (len:∀ds Q,F ds Q->ds.length=g.length) (i:∀ds Q,F ds Q->t {nx:=λ_=>Q .non,rt:=Q} (dM N ds)):FnAt P w K mg base x g (k+1) F:=by
 let⟨f,fd,a,b,c⟩:=Z.ex;let⟨oc,od,kV,o,I,J,i_,L,qm,rfl,B,O⟩:=a.ex;have j:Mod K mg base->lm P w K mg base on (k+1) f (mP x x (BW st) (pF st) (fW st) .none kV o I J i_ L) g (ub K F):=λM=>
  A6 B O D (λn H Q E ⟨_,ds,l,r,h,_⟩=>by rw[<-r.length];show len ds l h) λA outer s H n Q E q ⟨R,ds,l,r,h,kk⟩=>
   #[_,(G i_ A outer s H E (λc T e=>Cq M b B e) q).nox,#[dM N ds,_,Fz (X:=(LM on P w K mg base N x (fW st) f i_ A outer s H E).nox) R r,i ds l h,λg' Y' u y k U=>kk .non .non u y U.same .non,λd v u y k V W=>kk d v u y V W,λ_ _ _ z=>z.elim,λ_ _ _ z=>z.elim]]
 show#[f,_,#[λn H Q E ⟨_,ds,l,r,h,_⟩=>by rw[<-r.length];show len ds l h,λA outer s H m Y n Q E q C hb r hs=>(j C.mod).run A outer s H m Y n Q E q C hb r hs],.all c,a.kp,b]
end
structure ui(K:aH)(mg:Str->Option aF)(base:Heap)(x:Str)(c T:Addr):Prop where
 tab:fH K x=ψ (c,T)
 hd:TK base c T
 blt:base.BuiltinsAt mg T
 ne:mainGlobals≠T
section
variable{s:aJ}
def Rl{c:Addr}{t:Tok}(e:h.get? c=ψ oc)(a:oc.data = .fields vs)(b:vs[1]?=ψ (.str q t)):gw P w H h c (KJ c q):=
 #[#[oc,vs,t,e,a,b],#[_,e],λf g ⟨oc,vs,t,e,d,v⟩ k=>#[oc,vs,t,k _ e,d,v]]
def Hl{pos a:Pos}{c d:aF}(l:ι aF)(e:TriplesOk l)(h:codeAmong a (l++[rawInt pos.line,rawInt pos.col,c])=ψ d):codeAmong a l=ψ d\/(d=c/\a.col=pos.col):=by
 fun_induction TriplesOk l with
 |case1=>
  erw[cC,codeAmong,rawInt] at h;split at h
  ·rename_i b;cases h;show .inr #[rfl,?_];simp at b;lia
  ·cases h
 |case2 g t i u x rest f=>
  erw[bZ,codeAmong] at h⊢;split at h
  ·rename_i b;rw[Ω b];show .inl h
  ·rename_i b;rw[υ b];show f e h
 |case3 l j k=>show e.elim
def Tl{c T:Addr}(so:c_ X a Z H)(I:Inv X Γ Z H s)(W:ui X.K X.mg X.base x c T)(hx:x∈wD)(jv:X.env.code = .ref c)
  (yg:defaultsOf params X.env=([],[])) (nv:closureFor scope X.env=pure kf) (uv:X.env.qual ++ "<lambda>" = xG f8.col)
  (h:∀H2 h' f c' uo tk,Inv X Γ Z H2 {s with heap:=h',toks:=tk}->cc H H2->h'.objs.size=f+1->H2 f=ξ->s.z<=f->h'.get? f=ψ (vH "<lambda>" (xG f8.col) params body scope kf ((X.mg "__name__").getD .none) c' uo)->h'.CodeRec (.ref c') (xG f8.col) ->
   Q (.ref f) {s with heap:=h',toks:=tk}):Θ X (eval (.Lambda params body scope f8) X.env) Q E s:=by
 let⟨l,m,ok⟩:=so.tabs x c T hx W.tab;have hP:s.heap.get? T=ψ (sR l):=I.hok T _ m;have hg:s.heap.Ns mainGlobals X.mg:=I.mod.glob.keeps I.bk;show PySem.W.kla_eval yg ?_;rw[uv];cases hn:codeAmong f8 l.toList with
 |none=>
  show PySem.W.kla_makeFunction nv I.ok.glob hg jv (W.hd.keeps I.bk) hP ok.ok hn W.ne (W.blt.keeps I.bk) λc' uo h' tk zp O jj yu A=>?_;let⟨c2,P,R,t,e2,F,G,J⟩:=id yu;cases e2;have y:∀b o,H b=ψ o->(∀L,o≠.tbl L)->b≠T:=λb o q n z=>by subst z;rw[m] at q;cases q;show n _ rfl
  have B:H c'=ξ:=I.hok.fresh O;have U:T≠c':=cX m B;have M:∀b o,b≠T->s.heap.get? b=ψ o->(h'.push (vH "<lambda>" (xG f8.col) params body scope kf ((X.mg "__name__").getD .none) c' uo)).get? b=ψ o:=λb o n e=>aN _ (zp b o n e);have size:s.z<=h'.objs.size:=dC O (kF jj);have i:∀b o,H b=ψ o->b≠T->f6 (f6 H c' (KJ c' (xG f8.col))) T (.tbl (l ++ (mt [rawInt f8.line,rawInt f8.col,.ref c']))) b=ψ o:=λb o q n=>by
   rw[cQ n,cQ (cX q B)];show q
  have codeAt:f6 (f6 H c' (KJ c' (xG f8.col))) T (.tbl (l ++ (mt [rawInt f8.line,rawInt f8.col,.ref c']))) c'=ψ (KJ c' (xG f8.col)):=by rw[cQ (Ne.symm U),eV]
  have C:oz H (f6 (f6 H c' (KJ c' (xG f8.col))) T (.tbl (l ++ (mt [rawInt f8.line,rawInt f8.col,.ref c'])))):=λb L q=>by
   by_cases j:b=T
   ·subst j;rw[m] at q;cases q;show#[_,eV,λ_=>#[?_,λpos V z=>?_]]
    ·rw[gQ];show TriplesOk_snoc _ _ _ _ ok.ok
    ·rw[gQ] at z;rcases Hl (pos:=f8) (c:=.ref c') _ ok.ok z with z | ⟨rfl,zc⟩
     ·let⟨d,e1,e3⟩:=ok.code pos V z;show#[d,e1,i d _ e3 (y d _ e3 λ_ z=>by cases z)]
     ·show#[c',rfl,by rw[zc];show codeAt]
   ·show#[(mt []),by rw[rH];show i b _ q j,λk=>by rw[rH];show k.mono λd g z=>i d _ z (y d _ z λ_ z=>by cases z)]
  have N:cc H (f6 (f6 H c' (KJ c' (xG f8.col))) T (.tbl (l ++ (mt [rawInt f8.line,rawInt f8.col,.ref c'])))):=#[λb o q nt=>i b o q (y b o q λL z=>by subst z;show nt),C];have Y:ls X.prog X.w (f6 (f6 H c' (KJ c' (xG f8.col))) T (.tbl (l ++ (mt [rawInt f8.line,rawInt f8.col,.ref c'])))) (h'.push (vH "<lambda>" (xG f8.col) params body scope kf ((X.mg "__name__").getD .none) c' uo)):=λb u q=>by
   by_cases j:b=T
   ·subst j;rw[eV] at q;cases q;show aN _ A
   ·rw[cQ j] at q;by_cases hc:b=c'
    ·subst hc;rw[eV] at q;cases q;show Rl (aN _ F) G J
    ·rw[cQ hc] at q;show(I.hok b u q).stay (λd v ut e=>M d v ?_ e) (λd e=>i d _ e (y d _ e λ_ z=>by cases z)) λd xs e=>i d _ e (y d _ e λ_ z=>by cases z);rcases ut with rfl |z
     ·show j
     ·show y d _ z λ_ z=>by cases z
  have un:Un X.fs [] H (f6 (f6 H c' (KJ c' (xG f8.col))) T (.tbl (l ++ (mt [rawInt f8.line,rawInt f8.col,.ref c'])))) s.heap (h'.push (vH "<lambda>" (xG f8.col) params body scope kf ((X.mg "__name__").getD .none) c' uo)):=by
   have neT:∀b,H b=ξ->b≠T:=λb n z=>(by subst z;rw[m] at n;cases n);show#[λb o e n _ _=>M b o (neT b n) e,λb o e n _ _=>#[o.slots,M b o (neT b n) e],λb o e n _=>?_,λb o e _=>?_,λb xs q=>N.get b _ q trivial,λb o u q=>N.get b _ q trivial,λb L q=>N.tbl q]
   ·rw[cQ (neT b n),cQ (bO (bF (aZ e) O))];show n
   ·by_cases j:b=T
    ·subst j;show#[_,aN _ A]
    ·show#[o,M b o j e]
  show h _ _ h'.objs.size c' uo tk (I.un un Y) N (nD ..) ?_ size (bQ _ rfl) #[c',P,R,t,rfl,aN _ F,G,J];have fr:H h'.objs.size=ξ:=I.hok.fresh size;rw[cQ (Ne.symm (cX m fr)),cQ (lE jj)];show fr
 |some V=>
  let⟨c',rfl,t9⟩:=ok.code f8 V hn;obtain⟨⟨P,R,t,F,G,J⟩,_⟩:=I.hok c' _ t9;show PySem.W.kla_makeFunctionHit nv I.ok.glob hg jv (W.hd.keeps I.bk) hP ok.ok hn (W.blt.keeps I.bk) λuo h' tk hk D=>?_;show h H _ h'.objs.size c' uo tk (I.kept λb o e=>aN _ (hk b o e)) (cc.refl H) (nD ..) (I.hok.fresh D) D (bQ _ rfl) #[c',P,R,t,rfl,aN _ (hk _ _ F),G,J]
end
def Et{α β:Type}{g:α->β}:∀{l1 l0:ι β},l1.Perm l0->∀l2:ι α,l0=l2.map g->∃l3:ι α,l3.Perm l2/\l1=l3.map g:=by
 intro l1 l0 h
 induction h with
 |nil=>intro l2 e;show#[[],by rw[List.map_eq_nil_iff.mp e.symm],rfl]
 |cons x p n=>
  intro l2 e;cases l2 with
  |nil=>cases e
  |cons a l2=>
   let⟨d,f⟩:=uI e;let⟨l3,i,c⟩:=n l2 f;show#[a::l3,i.cons a,by rw[aM,c,d]]
 |swap x y l=>
  intro l2 e
  match l2,e with
  |a::b::l2,e=>
   let⟨d,f⟩:=uI e;let⟨c,j⟩:=uI f;show#[b::a::l2,TF ..,by simp[d,c,j]]
 |trans s u k m=>
  intro l2 e;let⟨l3,i,c⟩:=m l2 e;let⟨o,q,j⟩:=k l3 c;show#[o,q.trans i,j]
def W4{h:Heap}{L:Addr}{m c:Str->Option aF}(a:h.Ns L m)(b:h.Ns L c):m=c:=a.eq_nsMap.trans b.eq_nsMap.symm
abbrev pr2(p:Int×Int):D:=.tup [.int p.1,.int p.2]
def Bq(j:Nat)(c:RE):RA:=λa Q=>c a λx=>∃(B:Int)(fs:ι (Int×Int)),a[j]?=ψ (ψ (.d (.int B)))/\x = .lst (fs.map pr2)/\fs.length<64/\(∀f∈fs,qq B f.2/\MulOk f.1 (B.fdiv f.2)) /\
 ∀b:ι (Int×Int),b.Perm fs->b.Pairwise (λp q=>p.1*B.fdiv p.2<=q.1*B.fdiv q.2)->Q (b.map pr2)
def _root_.L2.Inv.frame{Z:St}{s:aJ}(I:Inv X Γ Z H s)(h:s.heap.Ns X.env.locals m)(d:h'.Ns X.env.locals m)(k:∀b o,b≠X.env.locals->s.heap.get? b=ψ o->h'.get? b=ψ o):Inv X Γ Z H {s with heap:=h',toks:=tk}:=by
 have f:∀b u,H b=ψ u->b≠X.env.locals:=λb u e z=>by rw[z,I.free] at e;cases e
 show I.step (g':=s.gens) (d':=s.drawn) (ch:=[]) (λ_ z=>nomatch z) (λb o n _ _ e _=>k b o n e) (λb o n _ _ e _=>#[o.slots,k b o n e]) (λ_ _ _ _ n=>n) (λb o _ e=>?_) (λ_ _ e=>e) (λ_ _ _ e=>e) (λb w e=>#[(mt []),by rw[e];simp]) (λy i=>?_) (λb u e=>?_) I.bare
 ·by_cases g:b=X.env.locals
  ·subst g;let⟨j,_,_,l,_⟩:=d;show#[j,l]
  ·show#[o,k b o g e]
 ·rw[W4 i h];show d
 ·show(I.hok b u e).stay (λc v a q=>k c v ?_ q) (λ_ q=>q) λ_ _ q=>q;rcases a with rfl |a
  ·show f c u e
  ·show f c _ a
theorem WI{K:aH}{H:Hp}:∀(l:ι ((Int×Int)×aF)),(∀x∈l,∃v,RelV v x.2/\ig K H (pr2 x.1) v)->∃ws:ι V,c6 ws (l.map (·.2))/\a_ K H (l.map λx=>pr2 x.1) ws
 | [],_=>#[[],.nil,.nil]
 |x::l,h=>by
  let⟨ws,a,b⟩:=WI l λy c=>h y (bH _ c);let⟨v,r1,r2⟩:=h x cT;show#[v::ws,.cons r1 a,.cons r2 b]
def Tk{x y:Str}{l:ι (Str×Addr)}{c:Addr}(h:l.lookup y=ψ c):∀z∈[(x,NameKind.local),(y,gP)],z.2=gP->∃c,l.lookup z.1=ψ c:=λz m e=>by
 rcases aP.mp m with rfl |m
 ·cases e
 ·cases bE.mp m;show#[c,h]
section
variable{X:Cx}{e:Expr}{te:RE}{p pos kp f8:Pos}{x y dn:Str}{c T:Addr}{k j:Nat}{params:Arguments}{scope:Scope}{p1 p2 p3 p4 p5 p6 p7 p8 p9:Pos}{n1 n2:Nat}
def Nv(hr:h9 (k+3) X.A)(wa:X.mg "sorted" = ξ)(W:ui X.K X.mg X.base dn c T)(hdn:dn∈wD)(jv:X.env.code = .ref c)(h:DB X e te)
  (uv:X.env.qual ++ "<lambda>" = xG f8.col) (v4:Gl X "sorted":=by rfl) (yg:defaultsOf params X.env=([],[]):=by rfl) (hfree:∀z∈scope.names,z.2 = .free->∃c,X.env.cells.lookup z.1=ψ c)
  (hs:starEach [e] X.env=[(χ,eval e X.env)]:=by rfl) (hn:starEach [] X.env=[]:=by rfl)
  (qw:∀(q:Str)(body:Expr)(cl:ι (Str×Addr))(pm cd ct v:aF),bindArgs (PySem.W.kla_fn "<lambda>" q params body scope cl pm cd ct) #[[v],[]]=pure [(x,v)]:=by intro _ _ _ _ _ _ _;rfl)
  (v9:scope.names.lookup x=ψ .local:=by rfl) (hco:scope.isCoroutine=χ:=by rfl) (yi:scope.isGenerator=χ:=by rfl) (hk:scope.kind = .function:=by rfl) (ke:∀z∈scope.names,z.2≠.cell:=by decide)
  (hy:scope.names.lookup y=ψ .free:=by rfl) (hyN:X.N[j]?=ψ y:=by rfl) (hyk:X.env.kindOf y=ψ .cell:=by rfl)
  (hdx:(x == ("__debug__":Str))=χ:=by decide) (hdy:(y == ("__debug__":Str))=χ:=by decide) (hdc:(y == ("__classdict__":Str))=χ:=by decide):
  DO X (.Call (.Name "sorted" p) [e] [#[ψ "key",.Lambda params (.BinOp (.Subscript (.Name x p1) (.Constant (.int 0) n1 p2) p3) .Mult (.BinOp (.Name y p4) .FloorDiv (.Subscript (.Name x p5) (.Constant (.int 1) n2 p6) p7) p8) p9) scope f8,kp]] pos) (Bq j te):=by
 intro Γ s Z H Q I hh;let⟨E,P,so,q,kq⟩:=hh;show eP (lU I v4 wa boot_sorted ?_);show callWith_kw (h8 (pX h hs hn pos Γ s Z H (λvs H1=>∃(B:Int)(fs:ι (Int×Int))(v:V),vs=[v]/\cc H H1/\jh X.K H1 (.lst (fs.map pr2)) v/\E[j]?=ψ (ψ (.d (.int B)))/\fs.length<64/\(∀f∈fs,qq B f.2/\MulOk f.1 (B.fdiv f.2)) /\
   ∀gs:ι (Int×Int),gs.Perm fs->gs.Pairwise (λp q=>p.1*B.fdiv p.2<=q.1*B.fdiv q.2)->P (gs.map pr2)) I
  #[E,_,so,q,λd v H1 hx s1 r1=>?_]) λus s1 ⟨vs,H1,I1,r1,q1⟩=>?_) (by rw[hs,hn];rfl) (by rw[hs];rfl)
 ·let⟨B,fs,G,rfl,J,e3,e4⟩:=hx;show#[B,fs,v,rfl,s1,r1,G,J,e3,e4]
 let⟨B,fs,v,rfl,k9,rb,hB,t4,hok,hP⟩:=q1;let⟨M,nv,hcl1,hcl2⟩:=JO hfree;show kws_cons (Tl (so.ext k9) I1 W hdn jv yg nv uv λH2 h2 f U uo tk F xq hsz hf0 U_ hfo yu=>kws_nil ?_);have l9:c_ X E Z H2:=(so.ext k9).ext xq;let⟨l,vs,rfl,hq,rr⟩:=(rb.same xq).lst;let⟨u,rfl,rx⟩:=vals1 r1;cases rx;let⟨C,rv,pl,hz⟩:=F.list hq;let⟨m,hm,hl⟩:=id F.loc;show Θ X (call (.builtin "sorted") [.ref l] [(gW "key",.ref f)]) (EP X Γ Z Q) X.xe {s1 with heap:=h2,toks:=tk};have lf:=rr.length;have li:=rv.length;rw[aG] at lf;have nL:∀b u,H2 b=ψ u->b≠X.env.locals:=λb u e z=>by rw[z,F.free] at e;cases e
 have fL:f≠X.env.locals:=λz=>by
  have h1:X.env.locals<s1.z:=I1.lt;rw[<-z] at h1;show Ψ (bF h1 U_) (iC _)
 have Y:∀(i:Nat)(g:Int×Int)(u:aF),fs[i]?=ψ g->C[i]?=ψ u->∃a ts,u = .ref a/\H2 a=ψ (.tup [.int g.1,.int g.2])/\c6 [.int g.1,.int g.2] ts/\IsTup h2 a ts.toArray:=λi g u eg eu=>by
  let⟨v,G,J⟩:=rr.get (i:=i) (d:=pr2 g) (by rw[bJ,eg];rfl);let⟨u',f1,f2⟩:=rv.get G;rw[eu] at f1;cases f1;cases J with
  |tup ha ra=>
   cases f2;have ev:_=[V.int g.1,V.int g.2]:=a_.ints_inv (ns:=[g.1,g.2]) ra;subst ev;let⟨ts,g1,g2,_⟩:=F.tuple (ju.of (K:=X.K) ha);show#[_,ts,rfl,ha,g1,g2]
 let⟨vB,eB,rB⟩:=l9.rel j _ hB;have eB':=ig.int_inv rB;subst eB';let⟨uB,rBu,look⟩:=hl j y _ hyN eB (.inr (.inl hyk));let⟨tB,rfl⟩:=rBu;obtain⟨O,ecy,G_⟩:∃O,X.env.cells.lookup y=ψ O/\h2.IsCell O (ψ (.int B tB)):=by
  rcases look with⟨z,_⟩ | ⟨_,c,G,J⟩
  ·rw[hyk] at z;cases z
  ·show#[c,G,J]
 have HE:M.lookup y=ψ O:=by
  let⟨c3,e3⟩:=hcl2 (y,.free) (jR hy) rfl;have:=hcl1 y c3 e3;rw[ecy] at this;cases this;show e3
 have cyL:O≠X.env.locals:=F.cne y O ecy;show Vv (kz:=fs.map λg=>g.1*B.fdiv g.2) hm pl.isList (by rw[aG];lia) ν hsz #[_,hfo] fL (λi v kk hv v6 R xt L ns3=>?_) λD h4 tk4 out c4 kp4 ns4 hD hDo ko=>?_
 ·-- a key
  obtain⟨g,eg,rfl⟩:∃g,fs[i]?=ψ g/\kk=g.1*B.fdiv g.2:=by
   rw[bJ] at v6;cases e:fs[i]? with
   |none=>rw[e] at v6;cases v6
   |some g=>rw[e] at v6;cases v6;show#[g,rfl,rfl]
  let⟨a,ts,rfl,ha,ht,tup⟩:=Y i g v eg hv;let⟨S_,yo⟩:=hok g (bA eg);cases ht with
  |cons t1 ht=>
   cases ht with
   |cons t2 ht=>
    cases ht;let⟨k1,rfl⟩:=t1;let⟨k2,rfl⟩:=t2;show Tj (x:=x) (s:={s1 with heap:=R,toks:=xt}) hr.in1.in1.depth (L f _ fL hfo) ?_ (F.ok.mod.nolimit.keeps λb o e=>L b o (bO (bF (aZ e) (dC F.ok.bsz F.ok.above))) (F.bk b o e)) (qw _ _ _ _ _ _ _) v9 hco yi hk ke λh5 tk5 ns5 kp5=>?_
    ·let⟨c2,oc,vs2,t2,J,vd,hd2,hv2⟩:=yu;show#[c2,oc,vs2,t2,J,L c2 oc (λz=>by
      let⟨o',es,ep,e',d',_⟩:=hm;rw[<-z] at e';rw[vd] at e';cases e';rw[hd2] at d';cases d') vd,hd2,hv2]
    ·have body:QE X.prog X.w (X.A.in1.in1.deeper (oA (xG f8.col) scope R.objs.size f (.ref U) M)) (oA (xG f8.col) scope R.objs.size f (.ref U) M) h5 (.BinOp (.Subscript (.Name x p1) (.Constant (.int 0) n1 p2) p3) .Mult (.BinOp (.Name y p4) .FloorDiv (.Subscript (.Name x p5) (.Constant (.int 1) n2 p6) p7) p8) p9) (tu (g.1*B.fdiv g.2)):=by
      have tup5:IsTup h5 a [AI g.1 k1,AI g.2 k2].toArray:=by
       let⟨o,G,J⟩:=tup;show#[o,kp5 a o (L a o (nL a _ ha) G),J]
      have F_:h5.IsCell O (ψ (.int B tB)):=by
       let⟨o,G,J⟩:=G_;show#[o,kp5 O o (L O o cyL G),J]
      have nx:∀{pz:Pos},QE X.prog X.w (X.A.in1.in1.deeper (oA (xG f8.col) scope R.objs.size f (.ref U) M)) (oA (xG f8.col) scope R.objs.size f (.ref U) M) h5 (.Name x pz) (· = .ref a):=X9 hk v9 ns5 η hdx;have int:∀{i:Int}{t:Tok}{e:Expr},QE X.prog X.w (X.A.in1.in1.deeper (oA (xG f8.col) scope R.objs.size f (.ref U) M)) (oA (xG f8.col) scope R.objs.size f (.ref U) M) h5 e (· = .int i t)->QE X.prog X.w (X.A.in1.in1.deeper (oA (xG f8.col) scope R.objs.size f (.ref U) M)) (oA (xG f8.col) scope R.objs.size f (.ref U) M) h5 e (tu i):=λhq s Q e k=>hq s Q e λu tk hu=>k u tk #[_,hu];show Y0 yo.ok (int (X8 (n:=0) nx C4 tup5 (show 2<=sizeLine by decide) rfl λ_ _=>rfl)) (O5 S_ (int (O6 hk hy HE F_ hdy hdc)) (int (X8 (n:=1) nx C4 tup5 (show 2<=sizeLine by decide) rfl λ_ _=>rfl)))
     show body _ _ rfl λu tk6 hu=>?_;let⟨t6,rfl⟩:=hu;show#[h5,tk6,t6,rfl,rfl,kp5]
 ·-- what is told
  let⟨ps,pp,eo,srt⟩:=ko;have ez:(fs.map λg=>g.1*B.fdiv g.2).zip C=(fs.zip C).map λz=>(z.1.1*B.fdiv z.1.2,z.2):=by
   rw[List.zip_map_left];rfl
  let⟨l3,p3,e3⟩:=Et pp (fs.zip C) ez;have pf:(l3.map (·.1)).Perm fs:=by
   have:=p3.map (·.1);rw[List.map_fst_zip ν] at this;show this
  have so':(l3.map (·.1)).Pairwise (λp q=>p.1*B.fdiv p.2<=q.1*B.fdiv q.2):=by
   rw[e3] at srt;rw[fP] at srt⊢;show srt.imp λ{a b} h=> ~~~h
  have eout:out.toList=l3.map (·.2):=by rw[eo,e3,cP];rfl
  have mem:∀z∈l3,∃v,RelV v z.2/\ig X.K H2 (pr2 z.1) v:=λz hz=>by
   let⟨i,hi,ei⟩:=gE (p3.mem_iff.mp hz);have k8:i<fs.length/\i<C.length:=(by rw[QU] at hi;lia);rw[List.getElem_zip] at ei;let⟨a,ts,G,ha,_,_⟩:=Y i fs[i] C[i] (aL k8.1) (aL k8.2);show#[.ref a,?_,?_]
   ·rw[<-ei];show G
   ·rw[<-ei];show .tup ha (a_.ints (ns:=[fs[i].1,fs[i].2]))
  let⟨ws,V1,R1⟩:=WI l3 mem;have I4:Inv X Γ Z H2 {s1 with heap:=h4,toks:=tk4}:=F.frame hm ns4 kp4;have hD0:H2 D=ξ:=F.hok.fresh hD;have lw:=V1.length;have l3l:l3.length=fs.length:=by have:=pf.length_eq;simpa using this
  have I5:=F.trackO (a:=D) (w:=.lst ws) I4 hD hD0 #[by rw[fK];simp at lw;lia,out.toList,c4,by rw[eout];show V1,~~~hDo];show#[.ref D,_,I5,rfl,kq _ _ _ H2 (by have:=hP _ pf so';rw[cP] at this;show this) (k9.trans xq) hD0 R1]
end
structure ou(K K':aH):Prop where
 get:∀b o,K.lookup b=ψ o->o.data≠.fields (mt [])->K'.lookup b=ψ o
 of:∀b o,K'.lookup b=ψ o->K.lookup b=ψ o
section
variable{K K':aH}
def ou.ns(z:ou K K'){a:Addr}{x:Str}{r:Option aF}(e:jM K a x=ψ r):jM K' a x=ψ r:=by
 unfold jM at e⊢;cases q:K.lookup a with
 |none=>rw[q] at e;cases e
 |some o=>
  rw[q] at e;let⟨c,d,b,f⟩:=o;cases b with
  |dict g n=>rw[z.get a _ q λy=>by cases y];show e
  |_=>cases e
def ou.ns'(z:ou K K'){a:Addr}{x:Str}{r:Option aF}(e:jM K' a x=ψ r):jM K a x=ψ r:=by
 unfold jM at e⊢;cases q:K'.lookup a with
 |none=>rw[q] at e;cases e
 |some o=>rw[q] at e;rw[z.of a _ q];show e
def ou.code(z:ou K K'){a:aF}{q:Str}(e:nJ K a q=ζ):nJ K' a q=ζ:=by
 unfold nJ at e⊢;split at e
 ·rename_i c;cases w:K.lookup c with
  |none=>rw[w] at e;cases e
  |some o=>
   rw[w] at e;let⟨d,f,b,g⟩:=o;cases b with
   |fields h=>
    rw[z.get c _ w λy=>by cases y;cases e];show e
   |_=>cases e
 ·cases e
def ou.fn(z:ou K K'){x a:Str}{st:Stmt}{f:Addr}{d:lM}(F:uh K x a st f d):uh K' x a st f d:=by
 let⟨e,g,kV,c,h,i,j,k,l,rfl,m,n⟩:=F.ex;have b:=z.get f _ m λy=>by cases y
 show#[#[e,g,kV,c,h,i,j,k,l,rfl,b,z.code n],?_];unfold lQ;erw[b]
def ou.def(z:ou K K'){mg:Str->Option aF}{x:Str}{st:Stmt}{d:ι Str}(Z:jn K mg x st d):jn K' mg x st d:=by
 let⟨f,e,a,b,c⟩:=Z.ex;show#[f,e,z.fn a,b,c]
def ou.tab'(z:ou K K'){x:Str}{r:Addr×Addr}(e:fH K' x=ψ r):fH K x=ψ r:=by
 unfold fH at e⊢;split at e
 ·rename_i f a;rw[z.ns' a];fail;split at e
  ·rename_i b;rw[z.of _ _ b];fail;split at e
   ·rename_i c g;split at e
    ·rename_i d;rw[z.of _ _ d];show e
    ·cases e
   ·cases e
  ·cases e
 ·cases e
def ou.tab(z:ou K K'){x:Str}{r:Addr×Addr}(e:fH K x=ψ r):fH K' x=ψ r:=by
 unfold fH at e⊢;split at e
 ·rename_i f a;rw[z.ns a];fail;split at e
  ·rename_i b;rw[z.get _ _ b λy=>by cases y];fail;split at e
   ·rename_i c g;split at e
    ·rename_i h _ d;rw[z.get _ _ d λy=>by cases y;cases e];show e
    ·cases e
   ·cases e
  ·cases e
 ·cases e
end
def tab_mk{K:aH}{x:Str}{f c P:Addr}{i b:aF}{j d:Option Addr}{h:lM}{k g:Array (Option aF)}{vs:Array aF}(a:jM K mainGlobals x=ψ (ψ (.ref f)))(l:K.lookup f=ψ ⟨i,j,.func h,k⟩)(e:h.code = .ref c)
  (m:K.lookup c=ψ #[b,d,.fields vs,g]) (v:vs[11]?=ψ (.ref P)):fH K x=ψ (c,P):=by
 unfold fH;rw[a];fail;rw[l];fail;rw[e];fail;rw[m];fail;rw[v]
def sC(K:aH):ι Addr:=wD.filterMap λx=>(fH K x).map (·.2)
def kT(K:aH):aH:=K.filter λe=>!(sC K).contains e.1
theorem uN{p:Addr->Bool}:∀(K:aH)(b:Addr),(K.filter λe=>p e.1).lookup b=if p b then K.lookup b else ξ
 | [],b=>by simp
 | (a,o)::K,b=>by
  have f:=uN (p:=p) K b;by_cases d:p a
  ·rw[rX (by show d)];by_cases c:b=a
   ·subst c;simp[kA,d]
   ·rw[kA,kA,beq_eq_false_iff_ne.mpr c];show f
  ·rw[rW (by show d),f];by_cases c:b=a
   ·subst c;simp[d]
   ·rw[kA,beq_eq_false_iff_ne.mpr c]
def YA(K:aH)(mg:Str->Option aF)(base:Heap):Prop:=∀x c T,x∈wD->fH K x=ψ (c,T)->ui K mg base x c T
def J9{K:aH}{h:Heap}(a:K.In h)(c:∀b∈sC K,h.get? b=ψ (sR (mt []))):ou K (kT K):=by
 show#[λb o e n=>?_,λb o e=>?_]
 ·unfold kT;rw[uN (p:=λb=>!(sC K).contains b)];have d:b∉sC K:=λm=>by
   have:=c b m;rw[a b o e] at this;cases this;show n rfl
  simp[d,e]
 ·unfold kT at e;rw[uN (p:=λb=>!(sC K).contains b)] at e;split at e
  ·show e
  ·cases e
def Xs{K:aH}{b:Addr}(m:b∈sC K):(kT K).lookup b=ξ:=by
 unfold kT;rw[uN (p:=λb=>!(sC K).contains b)];simp[m]
def Cc:b∈sC l↔∃x c,x∈wD/\fH l x=ψ (c,b):=by
 unfold sC;rw[nY];constructor
 ·rintro⟨x,m,e⟩;obtain⟨⟨c,T⟩,a,d⟩:=fY.mp e;cases d;show#[x,c,m,a]
 ·rintro⟨x,c,m,e⟩;show#[x,m,by rw[e];rfl]
def Og{P:bP}{w:cS}{K:aH}{mg mb:Str->Option aF}{k:Nat}{fa a:Addr}{fd:lM}{x:Str}{f:aJ}{vs:ι aF}{ns:ι Int}
  (KX:K.In f.heap) (A:f.heap.Ns mainGlobals mg) (g:f.heap.Ns builtinsNs mb) (hbb:∀x:Str,x≠"__name__"->mb x=bootBuiltins x) (L:f.heap.NoLimit) (hg:f.gens = (mt []))
  (M:f.heap.get? a=ψ {cls:=.type "list",data:=.seq vs.toArray}) (hi:IntsAre vs ns) (hl:ns.length<=63) (hr:h9 k callerA)
  (hbm:∃bm ob,mg "__builtins__" = ψ (.ref bm)/\bm≠builtinsNs/\f.heap.get? bm=ψ ob/\ob.cls = .type "module"/\ob.dict=ψ builtinsNs/\ob.data = .plain)
  (hT:∀x c T,x∈wD->fH K x=ψ (c,T)->TK f.heap c T/\f.heap.get? T=ψ (sR (mt [])))
  (F:∀(base:Heap)(K':aH),ou K K'->K'.In base->base.Ns mainGlobals mg->YA K' mg base->lm P w K' mg base on k fa fd [x] (ub K' (Nc 63))) (qw:∀(s:aJ)(u:aF),BindsTo s fd #[[u],[]] [(x,u)]):
  codeAny (model P w) callerA (.call (.ref fa) #[[.ref a],[]]) (λr s'=>r = .ok (.ret (.bool ζ))/\OldK f.heap s'.heap/\s'.os=f.os/\AllBare s'.gens) f:=by
 have rv:=HA hi;have N:=hi.length;have l:∀b∈sC K,f.heap.get? b=ψ (sR (mt [])):=λb m=>by
  let⟨x,c,m1,e⟩:=Cc.mp m;show(hT x c b m1 e).2
 have Z:ou K (kT K):=J9 KX l;have na:a∉sC K:=λm=>by
  have:=l a m;rw[M] at this;cases this
 have C:∀H:Hp,(∀b u,H b=ψ u->(b∈sC K/\u = .tbl (mt []))\/(b=a/\K.lookup a=ξ/\∃o xs,u = .frz o (.lst xs)))->(∀b∈sC K,H b=ψ (.tbl (mt [])))->r6 (kT K) H a (ns.map V.int)->ls P w H f.heap ->
   codeAny (model P w) callerA (.call (.ref fa) #[[.ref a],[]]) (λr s'=>r = .ok (.ret (.bool ζ))/\OldK f.heap s'.heap/\s'.os=f.os/\AllBare s'.gens) f:=by
  intro H hO hH hS O;have nq:∀{b:Addr}{o:Obj},f.heap.get? b=ψ o->H b=ξ->(XL f.heap H).get? b=ψ o:=λe n=>Ta e n;have y3:∀{b:Addr}{o:Obj},f.heap.get? b=ψ o->o.data≠.fields (mt [])->b≠a->H b=ξ:=λ{b o} e d n=>by
   cases q:H b with
   |none=>rfl
   |some u=>
    rcases hO b u q with⟨m,_⟩ | ⟨e',_⟩
    ·have:=l b m;rw[e] at this;cases this;show(d rfl).elim
    ·show(n e').elim
  have G:∀{b:Addr}{o:Obj},f.heap.get? b=ψ o->(∀xs n,o.data≠.seq xs n)->b≠a:=λ{b o} e d z=>by
   subst z;rw[M] at e;cases e;show d _ _ rfl
  have B:∀{b:Addr}{m:Str->Option aF},f.heap.Ns b m->(XL f.heap H).Ns b m:=λ{b m} ⟨o,es,ep,e,d,r⟩=>#[o,es,ep,nq e (y3 e (by rw[d];intro y;cases y) (G e (by rw[d];intro _ _ y;cases y))),d,r];have Q:(kT K).In (XL f.heap H):=λb o e=>nq (KX b o (Z.of b o e)) (by
   cases q:H b with
   |none=>rfl
   |some u=>
    rcases hO b u q with⟨m,_⟩ | ⟨e',n,_⟩
    ·rw[Xs m] at e;cases e
    ·subst e';have:=Z.of b o e;rw[n] at this;cases this)
  have hM:Mod (kT K) mg (XL f.heap H):=#[Q,B A,#[mb,B g,hbb],let ⟨mc,h1,h2⟩:=L;#[mc,B h1,h2]];have e0:vi P w (kT K) mg (XL f.heap H) callerA [] f H:=#[rfl,hM,λb o e=>Yj e,KU (Nx _ _),trivial,λb g=>Ψ (show b∈([]:ι Addr) from g) η,O,.of_eq hg];have tw:YA (kT K) mg (XL f.heap H):=λx c T m e=>by
   let⟨hd,R⟩:=hT x c T m (Z.tab' e);show#[e,?_,?_,λz=>?_]
   ·let⟨o,y9,U,tf,I,tg,inF,W,tt,j,X,Y,e4,r⟩:=hd;show#[o,y9,U,tf,I,tg,inF,W,tt,nq j (y3 j (by rw[Y];intro y;cases y;cases e4) (G j (by rw[Y];intro _ _ y;cases y))),X,Y,e4,r]
   ·let⟨bm,ob,b1,b2,J,b4,b5,b6⟩:=hbm;show#[bm,ob,b1,b2,λz=>?_,λz=>?_,nq J (y3 J (by rw[b6];intro y;cases y) (G J (by rw[b6];intro _ _ y;cases y))),b4,b5,b6]
    ·let⟨o,es,ep,j,d,_⟩:=A;rw[<-z,J] at j;cases j;rw[b6] at d;cases d
    ·rw[z,R] at J;cases J;cases b6
   ·let⟨o,es,ep,j,d,_⟩:=A;rw[z,R] at j;cases j;cases d
  have tin:kn (kT K) H:=λx c T m e=>#[(mt []),hH T (Cc.mpr #[x,c,m,Z.tab' e]),#[trivial,λpos cv z=>by cases z]];show oD ((F _ _ Z Q (B A) tw).run callerA [] f H #[[.ref a],[]] [.ref a] [.ref a] (λv _=>v = .bl ζ) (λ_ _ _=>False) hr e0 (qw f (.ref a)) (.cons rfl .nil)
   #[tin,[.lst (ns.map .int)],λd=>d = .bl ζ,.cons (.lst hS .ints) .nil,#[ns,rfl,hl,rfl],λd v H' e _ r=>by subst e;show r.bl_inv]) λr s' h=>?_
  cases r with
  |error e=>show mV h
  |ok fl=>
   cases fl with
   |next=>show mV h
   |brk=>show mV h
   |cont=>show mV h
   |ret u=>
    let⟨v,H',os,bare,un,D,r',q⟩:=h;have q':v = .bl ζ:=q;subst q';obtain rfl:u=JL ζ:=r';have as:∀b o,f.heap.get? b=ψ o->asItWas f.heap s'.heap b o:=λb o e=>by
     cases q:H b with
     |none=>show .inl (un.keep b o e q (by intro z;show Ψ (show b∈([]:List Addr) from z) η) η)
     |some u=>
      rcases hO b u q with⟨m,rfl⟩ | ⟨_,_,ob,xs,rfl⟩
      ·let⟨E,X⟩:=un.tbls b _ q;have Y:s'.heap.get? b=ψ (sR ((mt [])++E)):=D b _ X;let⟨x,c,m1,e4⟩:=Cc.mp m;let⟨hd,R⟩:=hT x c b m1 e4;rw[e] at R;cases R;show .inr (.inl #[(hd.tab e).isCodeTable,rfl,(mt []),E,rfl,Y])
      ·have z2:=un.frzs b ob _ q;let⟨j,_⟩:=O b _ q;let⟨X,_⟩:=D b _ z2;rw[e] at j;cases j;show .inl X
    show#[rfl,#[as,λb o e=>un.there b o e η],os,bare]
 cases hk:K.lookup a with
 |some o=>
  have e:=KX a o hk;rw[M] at e;cases e;show C (λb=>if b∈sC K then ψ (.tbl (mt [])) else ξ) (λb u z=>?_) (λb m=>Ω m) (.inr #[_,vs.toArray,_,Z.get a _ hk (by intro y;cases y),rfl,rfl,rfl,by rw[aY,N,fK];lia,~~~rv]) (λb u z=>?_)
  ·by_cases g:b∈sC K
   ·have i:=(Ω g).symm.trans z;cases i;show .inl #[g,rfl]
   ·have i:=(υ g).symm.trans z;cases i
  ·by_cases g:b∈sC K
   ·have i:=(Ω g).symm.trans z;cases i;show l b g
   ·have i:=(υ g).symm.trans z;cases i
 |none=>
  show C (λb=>if b∈sC K then ψ (.tbl (mt [])) else if b=a then ψ (.frz {cls:=.type "list",data:=.seq vs.toArray} (.lst (ns.map V.int))) else ξ) (λb u z=>?_) (λb m=>Ω m) (.inl #[{cls:=.type "list",data:=.seq vs.toArray},?_]) (λb u z=>?_)
  ·by_cases g:b∈sC K
   ·have i:=(Ω g).symm.trans z;cases i;show .inl #[g,rfl]
   ·have i:=(υ g).symm.trans z;by_cases g:b=a
    ·have i:=(Ω g).symm.trans i;cases i;show .inr #[g,hk,_,_,rfl]
    ·have i:=(υ g).symm.trans i;cases i
  ·show(if a∈sC K then _ else _)=_;rw[υ na,Ω rfl]
  ·by_cases g:b∈sC K
   ·have i:=(Ω g).symm.trans z;cases i;show l b g
   ·have i:=(υ g).symm.trans z;by_cases g:b=a
    ·have i:=(Ω g).symm.trans i;cases i;subst g;show#[M,by rw[aG,fK];lia,vs,_,rv,M]
    ·have i:=(υ g).symm.trans i;cases i
def A0(q:bP)(K:aH):Prop:=∀x∈wD,(∃d,(recsOf q).find? (λe=>e.name == x)=ψ d)\/jM K mainGlobals x=ψ ξ
def lamIs{q:bP}{K:aH}(a:(∃d,(recsOf q).find? (λe=>e.name == ("rising":Str))=ψ d)\/jM K mainGlobals "rising" = ψ ξ)(b:(∃d,(recsOf q).find? (λe=>e.name == ("framed_rising":Str))=ψ d)\/jM K mainGlobals "framed_rising" = ψ ξ)
  (c:(∃d,(recsOf q).find? (λe=>e.name == ("laid_triangles":Str))=ψ d)\/jM K mainGlobals "laid_triangles" = ψ ξ):A0 q K:=λx m=>by
 erw[wD,aP,dN,or_false] at m;rcases m with rfl |rfl |rfl
 ·show a
 ·show b
 ·show c
def jn.okLT{P:bP}{w:cS}{K:aH}{mg:Str->Option aF}{x:Str}{st:Stmt}{d:ι Str}{k:Nat}{F:FD}(Z:jn K mg x st d)
  (h:∀(base:Heap)(K':aH)(f:Addr)(fd:lM),ou K K'->YA K' mg base->uh K' x x st f fd->lm P w K' mg base on k f fd d (ub K' F)):
  ∃f fd,mg x=ψ (.ref f)/\(∀us:ι aF,us.length=d.length->bindArgs fd #[us,[]]=pure (d.zip us))/\∀(base:Heap)(K':aH),ou K K'->K'.In base->base.Ns mainGlobals mg->YA K' mg base->lm P w K' mg base on k f fd d (ub K' F):=by
 let⟨f,fd,a,b,c⟩:=Z.ex;show#[f,fd,b,c,λbase K' z _ _ e=>h base K' f fd z e (z.fn a)]
def walk_lawT{l:PySem.W.OpenLaw}{q:bP}{i:ι Str}{D:(Str->Option aF)->Heap->Prop}{B:cS->Heap->Prop}{d:DefRec}{K:Params->aH}{x:Str}{k:Nat}
  (E:l.most=ψ 63) (y:d.params.defaults=[]) (z:h9 k callerA)
  (H:∀(w:cS)(h:Heap),B w h->(K w.params).In h) (I:d.name = "law") (J:∀w:cS,A0 q (K w.params))
  (F:∀(w:cS)(mg:Str->Option aF)(h:Heap),(K w.params).In h->h.Ns mainGlobals mg ->
   ∃f fd,mg "law" = ψ (.ref f)/\(∀us:ι aF,us.length=[x].length->bindArgs fd #[us,[]]=pure ([x].zip us)) /\
    ∀(base:Heap)(K':aH),ou (K w.params) K'->K'.In base->base.Ns mainGlobals mg->YA K' mg base->lm l.prog w K' mg base on k f fd [x] (ub K' (Nc 63))):
  PySem.W.WalkO q i D B l.row.toRowW d [] (λf vs=>PySem.call f vs):=by
 show Att.attach_call E y λw R U mg V X o Z cd L a vs ns G Y ho ut jv n M j v N=>?_;have A:=H w _ Y;rw[I] at n;let⟨f,fd,C,O,P⟩:=F w mg _ A G.T.g;rw[n] at C;cases C;show Og A G.T.g G.T.b G.T.builtins G.T.nolimit N M j v z G.T.bmain (λx c T m e=>?_) P λs u=>.of_eq (O [u] rfl);rcases J w x m with⟨d',z⟩ |Q
 ·show PySem.W.tab_of G.T A z e
 ·unfold fH at e;rw[Q] at e;cases e
section
variable{P:bP}{w:cS}{K:aH}{mg:Str->Option aF}{base:Heap}{x:Str}{st:Stmt}{N ps:ι Str}{k:Nat}{F:FD}{t:RS}
def jn.mkD(Z:jn K mg x st ps)(a:∀ds Q,F ds Q->t {nx:=λ_=>Q .non,rt:=Q} (dM N ds))
  (c:∀{f:Addr}{i_:aF}{A:cV}{outer:ι Env}{s:aJ}{H:Hp}{E:XK},N.Nodup->h9 k (A.deeper (envOfC x (fW st) s.z f i_)) ->
   ro (LM on P w K mg base N x (fW st) f i_ A outer s H E).nox (pF st) t)
  (b:jo N ps (fW st):=by show#[rfl,rfl,rfl,θ,rfl,θ,θ]) (len:∀ds Q,F ds Q->ds.length=ps.length:=by walk_at "len"):FnAt P w K mg base x ps (k+1) F:=
 Z.ok b (λ_ _ _ _ _ _=>c b.nd) len a
def L5{a:Str}{f:Addr}{c:lM}(e:uh K x a st f c)(len:∀ds Q,F ds Q->ds.length=ps.length)(b:∀ds Q,F ds Q->t {nx:=λ_=>Q .non,rt:=Q} (dM N ds))
  (g:∀{i_:aF}{A:cV}{outer:ι Env}{s:aJ}{H:Hp}{E:XK},N.Nodup->h9 k (A.deeper (envOfC a (fW st) s.z f i_)) ->
   ro (LM on P w K mg base N a (fW st) f i_ A outer s H E).nox (pF st) t)
  (d:jo N ps (fW st):=by show#[rfl,rfl,rfl,θ,rfl,θ,θ]):lm P w K mg base on (k+1) f c ps (ub K F):=
 A7 e d (λ_ _ _ _ _ _=>g d.nd) len b
def def_mk{h:Heap}{f:Addr}{j:aF}{m g:Option Addr}{n:Array (Option aF)}{kV d i e ct:aF}(X:K.In h)(G:h.Ns mainGlobals mg)(a:jM K mainGlobals x=ψ (ψ (.ref f)))
  (l:K.lookup f=ψ #[j,m,.func (mP x x (BW st) (pF st) (fW st) .none kV d i g e ct),n]) (c:nJ K e x=ζ) (k:lQ K (.ref f)=ζ)
  (b:∀us:ι aF,us.length=ps.length->bindArgs (mP x x (BW st) (pF st) (fW st) .none kV d i g e ct) #[us,[]]=pure (ps.zip us)):jn K mg x st ps:=
 #[_,_,G6 (st:=st) l c k,XC X G a,b]
end
section
variable{p pos:Pos}{t:RA}
def bG(C:FnAt X.prog X.w X.K X.mg X.base x ps k F)(a:h9 n X.A)(b:DA X (e::es) t)(c:k<=n:=by decide)(d:Gl X x:=by rfl)
  (f:(x == ("__debug__":Str))=χ:=by decide) (g:starEach (e::es) X.env=(χ,eval e X.env)::starEach es X.env:=by rfl) (h:(backTo pos (starEach es X.env)).any (·.1)=χ:=by rfl):
  DE X (.Call (.Name x p) (e::es) [] pos) (cH F t):=Rz C (a.mono c) b d f g h
def cZ:DB X (.Constant (.int i) j pos) (rC (.int i)):=DE.bor fM
def eb{t:RE}(h:DE X e t):DB X e t:=DE.bor h
end
section
variable{P:bP}{w:cS}{K:aH}{mg:Str->Option aF}{base:Heap}{x:Str}{st:Stmt}{N ps:ι Str}{k:Nat}{F:FD}{t:RS}{lc lt:Addr}
def jn.mkC(Z:jn K mg x st ps)(W:ui K mg base x lc lt)(a:∀ds Q,F ds Q->t {nx:=λ_=>Q .non,rt:=Q} (dM N ds))
  (c:∀{f:Addr}{i_:aF}{A:cV}{outer:ι Env}{s:aJ}{H:Hp}{E:XK},N.Nodup->h9 k (A.deeper (envOfC x (fW st) s.z f i_))->i_ = .ref lc ->
   ro (LM on P w K mg base N x (fW st) f i_ A outer s H E).nox (pF st) t)
  (b:jo N ps (fW st):=by show#[rfl,rfl,rfl,θ,rfl,θ,θ]) (len:∀ds Q,F ds Q->ds.length=ps.length:=by walk_at "len"):FnAt P w K mg base x ps (k+1) F:=
 Z.okC b (λ_ _ _ _ _ _ d e=>c b.nd e (d _ _ W.tab)) len a
end
abbrev jn.W{K:aH}{mg:Str->Option aF}{x:Str}{st:Stmt}{a:ι Str}(_:jn K mg x st a)(P:bP)(w:cS)(base:Heap)(k:Nat)(F:FD):Prop:=FnAt P w K mg base x a k F
section
variable{X:Cx}{x:Str}{p q r pos:Pos}{c:Int}{j:Nat}
def kc(i:Nat)(a:X.N[i]?=ψ x:=by rfl)(b:sx X.env.scope x:=by walk_at "vis")(d:(x == ("__debug__":Str))=χ:=by decide)(e:(x == ("__classdict__":Str))=χ:=by decide):
  DE X (.Subscript (.Name x p) (.Constant (.int c) j q) r) (r2 g7 (bD i) (rC (.int c))):=jX (c7 i a b d e) cZ
def ir(i:Nat)(a:X.N[i]?=ψ x:=by rfl)(b:sx X.env.scope x:=by walk_at "vis")(d:(x == ("__debug__":Str))=χ:=by decide)(e:(x == ("__classdict__":Str))=χ:=by decide):
  DB X (.Subscript (.Name x p) (.Constant (.int c) j q) r) (r2 g7 (bD i) (rC (.int c))):=eb (kc i a b d e)
def iy(d:n9 X (binaryOp o) f)(e:DB X a ta)(g:DB X b tb):DB X (.BinOp a o b pos) (r2 f ta tb):=eb (fU d e g)
def jd(h:DE X e te):ro X [.Return (ψ e) pos] (fE te):=dE (pU h)
end
mutual
inductive vn(G H:Hp):D->V->Prop
 |non {v:V}:vn G H .non v
 |bl {b:Bool} {v:V}:vn G H (.bl b) v
 |int {i:Int} {v:V}:vn G H (.int i) v
 |str {x:Str} {v:V}:vn G H (.str x) v
 |tup {a:Addr} {vs:List V} {ds:List D} (h:H a=ψ (.tup vs)) (r:vo G H ds vs):vn G H (.tup ds) (.ref a)
 |lst {a:Addr} {o:Obj} {vs:List V} {ds:List D} (h:H a=ψ (.frz o (.lst vs))) (g:G a=ξ):vn G H (.lst ds) (.ref a)
inductive vo(G H:Hp):List D->List V->Prop
 |nil:vo G H [] []
 |cons {d:D} {v:V} {ds:List D} {vs:List V} (h:vn G H d v) (t:vo G H ds vs):vo G H (d::ds) (v::vs)
end
inductive t7:D->Prop
 |non:t7 .non
 |bl {b:Bool}:t7 (.bl b)
 |int {i:Int}:t7 (.int i)
 |str {x:Str}:t7 (.str x)
 |nil:t7 (.tup [])
 |cons {d:D} {ds:List D} (h:t7 d) (t:t7 (.tup ds)):t7 (.tup (d::ds))
def frR(d:D):aH->Hp->Hp->V->Prop:=λ_ a H v=>vn a H d v
def M6(G:Hp)(d:D):aH->Hp->Hp->V->Prop:=λK _ H v=>ig K G d v/\c5 G H
def Q3(G:Hp)(d:D):aH->Hp->Hp->V->Prop:=λ_ a H v=>cc a G/\vn G H d v
def cz(t:RE):RE:=λa Q=>t a λd=>t7 d/\Q d
def rFr(i:Nat):RE:=λa Q=>match a[i]? with
 |some (ψ (.mem ζ d R))=>R=frR d/\Q d
 |_=>False
def frzN(i:Nat)(a:En):En:=match a[i]? with
 |some (ψ (.own b))=>a.set i (ψ (.mem ζ (.lst b) (frR (.lst b))))
 |_=>a
def Y4(t u:RS):RS:=λE a=>t {nx:=u E,rt:=E.rt} a
def W6(G:Hp):Option S->Option S
 |some (.d x)=>ψ (.mem ζ x (M6 G x))
 |y=>y
def rSetN(j:Nat)(F:FD)(t:RA):RS:=λE a=>t a λb=>F b λd=>∀G,E.nx ((a.map (W6 G)).set j (ψ (.mem ζ d (Q3 G d))))
def rClr(j:Nat)(Pt:D->Prop)(t:RS):RS:=λE a=>∃d b G c,a[j]?=ψ (ψ (.mem b d (Q3 G d)))/\Pt d/\c.length=a.length /\
 (∀i x,c[i]?=ψ (ψ x)->(i=j/\x = .mem χ d (Q3 G d))\/∃y,x = .mem ζ y (M6 G y)/\a[i]?=ψ (ψ x))/\t E c
def Pth1(k:Int)(d:D):Prop:=∃a b,d = .tup a/\my a k=ψ (.lst b)
def Pth2(k l:Int)(d:D):Prop:=∃a b c,d = .tup a/\my a k=ψ (.tup b)/\my b l=ψ (.lst c)
def Wx:R22:=λx y Q=>match x,y with
 | .lst a,.lst c=>a.length=c.length/\match ma (jc 8) a c with
  |some b=>Q (.bl !b)
  |none=>False
 |_,_=>False
def M5(K:h9 k X.A):n9 X (compareOp .NotEq) Wx:=by
 intro Γ s Z H x y v u Q I L M N;let⟨d,e,P,r1,r2,q,kk⟩:=N;have hu:=K.un;unfold Wx at q;split at q
 ·rename_i g i;let⟨O,q⟩:=q;split at q
  ·rename_i b h;let⟨a,vs,rfl,R,n⟩:=r1.lst;let⟨c,ws,rfl,T,o⟩:=r2.lst;cases L;cases M;let⟨f,w,U,_⟩:=I.list R;let⟨z,B,V,_⟩:=I.list T;have W:g.length=f.length:=n.length.trans w.length;have l2:i.length=z.length:=o.length.trans B.length;have Y:SeqAt.RcNeAt X.A s (.ref a) (.ref c) (!b):=by
    have:=SeqAt.RcNeAt.lists (A:=X.A) (s:=s) (e:=λj=>match g[j]?,i[j]? with |some x,ψ y=>(jc 8 x y).getD χ |_,_=>χ) U.isList V.isList ε ν (λj C D=>?_)
    ·have E:=GW h;erw[aY,<-W] at this;rw[<-O,vZ,beq_self_eq_true,oR] at E;rw[<-E];show this
    ·erw[aY] at C D;have l:g[j]?=ψ (g[j]'ν):=aL _;have m:i[j]?=ψ (i[j]'ν):=aL _;let⟨k,F⟩:=LX h j _ _ l m;rw[l,m];erw[F,nG];let⟨v1,f1,f2⟩:=n.get l;let⟨v2,f3,f4⟩:=o.get m;let⟨u1,G,g4⟩:=w.get f1;let⟨u2,J,g6⟩:=B.get f3;have a1:f.toArray[j]=u1:=by
      have:=aL C;rw[this] at G;simpa using dG G
     have a2:z.toArray[j]=u2:=by
      have:=aL D;rw[this] at J;simpa using dG J
     rw[a1,a2];show(xD I 8 F f2 f4 g4 g6 (by show X.A.units+1+8<cLine;lia)).2
   show Y _ _ _ _ #[.bl _,H,I,rfl,kk _ _ H q (cc.refl H) (.bl _)]
  ·show q.elim
 ·show q.elim
def bi:R22:=λx y Q=>y = .lst [.int 1,.non]/\match x with
 | .int i=>Q (.bl !decide (i=1))
 | .non=>Q (.bl χ)
 |_=>False
structure Row3(r:List D×Int):Prop where
 b_:r.1[2]?=ψ (.int r.2)
 sz:Sz r.1.length
def aj(d:RE):RA:=λa Q=>d a λx=>∃b:ι (ι D×Int),x = .lst (b.map λr=>D.tup r.1)/\b.length<64/\(∀r∈b,Row3 r)/\∀c:ι (ι D×Int),c.Perm b->c.Pairwise (λp q=>p.2<=q.2)->Q (c.map λr=>D.tup r.1)
def rBIx(i:Nat)(c:RE):RE:=λa Q=>match a[i]? with
 |some (ψ (.box χ d))=>c a λe=>match e with
  | .int k=>∃(j:Nat)(b:List D),(k=(j:Int)/\d[j]?=ψ b)/\Q (.lst b)
  |_=>False
 |_=>False
end
section
open PySem PySem.Spec PySem.SetTable PyProof.Rows L2 PySem.W
def S5(c:RE):RA:=λa Q=>c a λx=>∃ns:ι Int,x = .lst (ns.map .int)/\(∀n∈ns,0<=n/\n<4)/\∀b:ι Int,b.Pairwise (· < ·)->(∀n,n∈b↔n∈ns)->Q (b.map .int)
end
section
open PySem PySem.Spec PyProof.Rows L2
inductive Fr3(G H:Hp):List V->List Addr->Prop
 |nil:Fr3 G H [] []
 |cons {p a:Addr} {x y:V} {o:Obj} {us vs:List V} {as:List Addr} (hp:H p=ψ (.tup [x,y,.ref a])) (ha:H a=ψ (.frz o (.lst us))) (g:G a=ξ) (t:Fr3 G H vs as):Fr3 G H (.ref p::vs) (a::as)
def cj(F:FD)(t:RA):RE:=λa Q=>t a λb=>F b λd=>(∃c e f,d = .tup [c,e,.lst f])/\Q d
def aq(G H:Hp)(v:V):Prop:=∃(l:Addr)(o:Obj)(b:ι V)(a:ι Addr),v = .ref l/\H l=ψ (.frz o (.lst b))/\Fr3 G H b a/\a.Nodup/\l∉a
def B7(G:Hp):aH->Hp->Hp->V->Prop:=λ_ a H v=>cc a G/\aq G H v
def rSet3(j:Nat)(F:FD)(t:RA):RS:=λE a=>t a λb=>F b λd=>∀G,E.nx ((a.map (W6 G)).set j (ψ (.mem ζ d (B7 G))))
structure Olds(G:Hp)(ρ ρ0:L2.R2.En):Prop where
 len:ρ0.length=ρ.length
 old:∀(i:Nat)(x:S),ρ0[i]?=ψ (ψ x)->∃y,x = .mem ζ y (M6 G y)/\ρ[i]?=ψ (ψ x)
structure Box3(d:D):Prop where
 ex:∃d0 d1 es xs,d = .tup [d0,d1,.lst (.tup es::xs)]/\t7 d0/\t7 d1/\t7 (.tup (.tup es::xs))
def idR(a:V):aH->Hp->Hp->V->Prop:=λ_ _ _ v=>v=a
def C8(a:En)(b c:Nat)(d:D)(n:Int)(e:V):En:=(a.set b (ψ (.mem ζ d (idR e)))).set c (ψ (.d (.int n)))
def B6(a:En)(b c:Nat)(t u:RS)(E:mh):ι D->ι Int->Prop
 |d::f,n::ns=>∀e,t {nx:=λg=>g=C8 a b c d n e/\B6 a b c t u E f ns,rt:=E.rt} (C8 a b c d n e)
 |_,_=>u E a
def rForC(g h e f:Nat)(t u:RS):RS:=λE a=>∃(G:Hp)(c:ι D)(ns:ι Int)(b:En),a[g]?=ψ (ψ (.mem ζ (.lst c) (B7 G)))/\(a[h]?=ψ (ψ (.d (.lst (ns.map .int))))/\Olds G a b)/\(b[e]?=ψ ξ/\b[f]?=ψ ξ)/\(∀d∈c,Box3 d)/\B6 b e f t u E c ns
end
section
open PySem PyProof.Rows
def VI:mroOf (.type "dict")=pure [.type "dict",.type "object"]:=by rw[mroOf_type];kernel_rfl
def RI:typeLookup (iK "dict") (gW "__new__")=pure (ψ (zH "dict.__new__")):=by rw[rF,mB];kernel_rfl
def nS:TypeCalled "dict" "dict.__new__" "dict.__init__":=#[μ,θ,#[_,_,VI],madeBy_type VI RI θ,θ,by rw[xE];kernel_rfl,PySem.F.slot_dict_init]
def SA(a:aF):checkTypeCall "dict" ⟨[a],[]⟩=pure ():=by kernel_rfl
def VJ(a:aF):checkBuiltinCall "dict.__new__" ⟨[.type "dict",a],[]⟩=pure ():=by kernel_rfl
def FQ:plainId "dict.__new__" = ζ:=θ
def UJ:entryFor table "dict.__new__" = ψ Builtin.«dict.__new__»:=AO (by kernel_rfl)
def rD:plainId "dict.update.loop" = ζ:=θ
def CN:entryFor table "dict.update.loop" = ψ Builtin.«dict.update.loop»:=AO (by kernel_rfl)
section
variable{prog:bP}{w:cS}{s:aJ}
def Yh(i:s.heap.get? a=ψ {cls:=.type "list",data:=.seq xs k,slots:=sl})(n:A.handled=ξ)
  (q:∀h' tk,(∀b o,s.heap.get? b=ψ o->h'.get? b=ψ o)->Q ξ {s with heap:=h',toks:=tk}):Δ prog w A (getAttr? (.ref a) (gW "keys")) Q E s:=by
 have u:typeLookup (.type "list") (gW "keys")=pure ξ:=by rw[rF,mB];kernel_rfl
 have B:=sub_AttributeError;have D:=PySem.F.slot_list_getattribute.lookup;have G:=PySem.F.slot_list_getattribute.bind (.ref a);have H:=am_list_getattr_none;let⟨f,g,d,tk,os⟩:=s;unfold getAttr? getAttrBy?;apply aC;unfold mkText;apply aC;apply wpAny_fresh;apply aO;apply aC;apply qS;unfold getAttrBy;apply gI;unfold getAttrByItsOwn callGetattribute;generalize v:runValue=C
 repeat (any_goals (first |assumption |wp_step))
 subst v;have y:∀t,zG {heap:=f,gens:=g,drawn:=d,toks:=t,os:=os} (.ref a) "list":=λt=>#[_,i,rfl];have z:=PySem.F.args_list_getattribute_2 (.ref a) (.str (gW "keys") tk);show codeAny _ _ (Code.call (.builtin "list.__getattribute__") #[[.ref a,.str (gW "keys") tk],[]]) _ {heap:=f,gens:=g,drawn:=d,toks:=tk+1,os:=os};obtain⟨h,j⟩:∃h:Result->aJ->Prop,h=λr l=>∃h' c e,r = .error (.ref e)/\l = {heap:=h',gens:=g,drawn:=d,toks:=c,os:=os}/\f.NewAttrErr h' e (.ref a) (gW "keys"):=#[_,rfl];show oD (uU (R:=h) PySem.F.slot_list_getattribute.plain am_entry_list_getattribute (PySem.F.slot_list_getattribute.check _ _ _ _ _ _ _ _ (y _) z (meets_getattribute_miss_list a xs k sl (gW "keys") tk u μ μ prog w A h {heap:=f,gens:=g,drawn:=d,toks:=tk+1,os:=os} #[i,n,λh' c e N=>by rw[j];show#[h',c,e,rfl,rfl,N]]))) λr l m=>?_;rw[j] at m;let⟨h',c,e,rfl,rfl,N⟩:=m;let⟨I,J,K⟩:=N.there;have q:=q h' c N.keeps;show wpAny _ _ (getattributeRaised _ _ _ _ _ _ _) _ _ _;unfold getattributeRaised
 repeat (any_goals (first |assumption |wp_step))
def wA:Obj:={cls:=.type "dict",data:=.dict (mt [])}
def Sh(a:aF)(h:Q₁ (.ref s.z) {s with heap:=s.heap.push wA}):
  codeAny (model prog w) A (.call (.builtin "dict.__new__") #[[.type "dict",a],[]]) (wants Q₁ E) s:=by
 apply qX;show wpAny _ A.in1 (checkBuiltinCall "dict.__new__" #[[.type "dict",a],[]] >>= λ_=>again (.builtin "dict.__new__" #[[.type "dict",a],[]])) _ _ s;apply aC;show kL (VJ a) (aO #[kH FQ _,gF UJ ?_]);rw[fN FQ _];unfold Builtin.«dict.__new__»;have b:=nS.sub;have c:=VI;let⟨e,g,d,f,os⟩:=s;fail
 repeat (any_goals (first |assumption |wp_step))
def putAll(its:ι (ι ij×Addr×aF)):ι (ι ij×Addr×aF):=its.foldl (λa x=>storedH a x.1 x.2.1 x.2.2) []
def putAll_snoc(its:ι (ι ij×Addr×aF))(x:ι ij×Addr×aF):putAll (its++[x])=storedH (putAll its) x.1 x.2.1 x.2.2:=by unfold putAll;rw[sL];rfl
def Jw{xs:ι (ι ij×Addr×aF)}{k:ι ij}{a:Addr}{v:aF}{y:ι ij×Addr×aF}(h:y∈storedH xs k a v):(∃z∈xs,z.1=y.1/\z.2.1=y.2.1)\/y=(k,a,v):=by
 unfold storedH at h;split at h
 ·let⟨z,b,rfl⟩:=bK.mp h;show .inl #[z,b,?_];unfold putAt;split <;> show#[rfl,rfl]
 ·rcases bV.mp h with h |h
  ·show .inl #[y,h,rfl,rfl]
  ·show .inr (bE.mp h)
def Ji(its:ι (ι ij×Addr×aF)):(putAll its).length<=its.length:=by
 have b:∀(l a:ι (ι ij×Addr×aF)),(l.foldl (λa x=>storedH a x.1 x.2.1 x.2.2) a).length<=a.length+l.length:=by
  intro l
  induction l with
  |nil=>intro a;simp
  |cons x l c=>
   intro a;have:=c (storedH a x.1 x.2.1 x.2.2);have:(storedH a x.1 x.2.1 x.2.2).length<=a.length+1:=(by unfold storedH;split <;> simp);erw[mJ,aQ];lia
 have:=b its [];simpa [putAll] using this
structure xz(prog:bP)(w:cS)(h0:Heap)(S I:Addr)(u:aF)(x:List ij×Addr×aF):Prop where
 ex:∃p,u = .ref p/\(p≠S/\p≠I)/\h0.IsTuple p (mt [.ref x.2.1,x.2.2])
 ne:x.2.1≠S/\x.2.1≠I
 key:(tupleKind (gA prog w)).is h0 x.1 x.2.1
def Nr{I l S:Addr}(hh:A.in1.handled=ξ)(nI:l≠I)(hu:A.in1.units<cLine)(X:S≠I)(H:S≠l)(q:its.length=items.size)(m:its.length<=sizeLine)
  (hi:∀(i:Nat)(u:aF)(x:ι ij×Addr×aF),items[i]?=ψ u->its[i]?=ψ x->xz prog w h0 S I u x):
  ∀(k i:Nat)(s:aJ),items.size-i=k->i<=items.size->s.heap.IsListIter I l i/\s.heap.IsList l items->s.heap.DictOfH (tupleKind (gA prog w)) S (putAll (its.take i)) ->
   (∀b o,b≠S->b≠I->h0.get? b=ψ o->s.heap.get? b=ψ o) ->
   (∀h' tk,h'.DictOfH (tupleKind (gA prog w)) S (putAll its)->(∀b o,b≠S->b≠I->h0.get? b=ψ o->h'.get? b=ψ o)->R (.ok (.ret .none)) {s with heap:=h',toks:=tk}) ->
   codeAny (model prog w) A (.builtin "dict.update.loop" #[[.ref S,.ref I,.int i 0,.none],[]]) R s:=by
 have W:=Walks.list (prog:=prog) (w:=w) (A:=A.in1) hh I l nI items;have C:∀{b:Addr},b≠I->b∉[I]:=λh=> ~~~h
 have Y:∀{h:Heap}{x:ι ij×Addr×aF},(∀b o,b≠S->b≠I->h0.get? b=ψ o->h.get? b=ψ o)->x.2.1≠S->x.2.1≠I->(tupleKind (gA prog w)).is h0 x.1 x.2.1->(tupleKind (gA prog w)).is h x.1 x.2.1:=by
  rintro h x f c a ⟨o,its,n,h1,E,J,h4⟩;show#[o,its,n,f _ o c a h1,E,J,h4]
 have L':∀(i:Nat)(y:ι ij×Addr×aF),y∈putAll (its.take i)->(y.2.1≠S/\y.2.1≠I)/\(tupleKind (gA prog w)).is h0 y.1 y.2.1:=by
  intro i
  induction i with
  |zero=>intro y d;rw[pN] at d;cases d
  |succ i F=>
   intro y d;by_cases G:i<its.length
   ·rw[hX,aL G,JJ,putAll_snoc] at d;rcases Jw d with⟨z,hz,e1,e2⟩ |rfl
    ·rw[<-e1,<-e2];show F z hz
    ·have P:=hi i items[i] its[i] (cD ν) (aL G);show#[P.ne,P.key]
   ·rw[eF ν] at d;show F y (by rw[eF ν];show d)
 have move:∀{h h':Heap}{i:Nat},h.DictOfH (tupleKind (gA prog w)) S (putAll (its.take i))->(∀b o,b≠I->h.get? b=ψ o->h'.get? b=ψ o)->(∀b o,b≠S->b≠I->h0.get? b=ψ o->h'.get? b=ψ o)->h'.DictOfH (tupleKind (gA prog w)) S (putAll (its.take i)):=by
  rintro h h' i ⟨o,es,ep,g1,g2,g3,g4,g5,g6⟩ f K;show#[o,es,ep,f S o X g1,g2,g3,g4,λy d=>?_,g6];obtain⟨⟨c,a⟩,k⟩:=L' i y d;show Y K c a k
 intro k
 induction k with
 |zero=>
  intro i s hk G st D f L;have M:i=items.size:=ν
  subst M;show gF CN ?_;rw[fN rD _];show wpAny _ A.in1 (pyNext (.ref I) >>= _) _ _ s;show aC (W.done s _ _ st λh' tk B=>?_);have g:∀b o,b≠S->b≠I->h0.get? b=ψ o->h'.get? b=ψ o:=λb o c a e=>B b o (C a) (f b o c a e);have Z:=move D (λb o m e=>B b o (C m) e) g;rw[<-q,kB] at Z;show wpAny _ A.in1 (yY S [] >>= λ_=>ret dO) _ _ _;unfold yY;show aC (aC (aO (aO (aO (L h' tk Z g)))))
 |succ k F=>
  intro i s hk G st D f L;have jj:i<items.size:=ν
  show gF CN ?_;rw[fN rD _];show wpAny _ A.in1 (pyNext (.ref I) >>= _) _ _ s;show aC (W.item i s _ _ jj st λv h' tk hv cn B=>?_);have g:∀b o,b≠S->b≠I->h0.get? b=ψ o->h'.get? b=ψ o:=λb o c a e=>B b o (C a) (f b o c a e);have D1:=move D (λb o m e=>B b o (C m) e) g;obtain⟨x,hx⟩:∃x,its[i]?=ψ x:=#[its[i]'ν,aL _];have P:=hi i v x hv hx;obtain⟨⟨p,rfl,⟨N,O⟩,o,ho,hc,n,hd⟩,⟨Q,T⟩,U⟩:=P;have xj:=g p o N O ho;let⟨oc,od,oda,qm⟩:=o;dsimp only at hc hd;subst hc hd;show wpAny _ A.in1 (holding [eG p] _ >>= _) _ _ _;show aC (gI (aC (wpAny_tryCatch ?_)));unfold Builtin.Dict.pairItems;generalize V:dictSet=DS
  repeat (any_goals (first |assumption |wp_step))
  subst V;show wpAny_dictSet_heap (s:={s with heap:=h',toks:=tk}) (hsz:=by have:=Ji (its.take i);rw[gH] at this;lia) hu (Y g Q T U) D1 λE D2 sb=>?_;have j:∀b o,b≠S->h'.get? b=ψ o->E.get? b=ψ o:=λb o m e=>(sb.2 b m).trans e;have D3:E.DictOfH (tupleKind (gA prog w)) S (putAll (its.take (i+1))):=by
   rw[hX,hx,JJ,putAll_snoc];show D2
  have ei:rawInt ((i:Int)+1) = .int ((i+1:Nat):Int) 0:=rfl;show wpAny _ A.in1 (again (.builtin "dict.update.loop" #[[.ref S,.ref I,rawInt ((i:Int)+1),.none],[]])) _ _ _;rw[ei];show aO #[kH rD _,F (i+1) _ ν jj #[cn.1.at λo e=>j _ o (Ne.symm X) e,cn.2.at λo e=>j _ o (Ne.symm H) e] D3 (λb o c a e=>j b o c (g b o c a e)) λJ xt D4 rm=>L J xt D4 rm]
def QY(L:A.handled=ξ)(hu:A.units+8<cLine)(M:s.heap.get? l=ψ {cls:=.type "list",data:=.seq items n,slots:=sl})
  (h:its.length=items.size) (hb:its.length<=sizeLine)
  (hi:∀(i:Nat)(u:aF)(x:ι ij×Addr×aF),items[i]?=ψ u->its[i]?=ψ x->(∃p,u = .ref p/\s.heap.IsTuple p (mt [.ref x.2.1,x.2.2]))/\(tupleKind (gA prog w)).is s.heap x.1 x.2.1)
  (q:∀h' tk,h'.DictOfH (tupleKind (gA prog w)) s.z (putAll its)->(∀b o,s.heap.get? b=ψ o->h'.get? b=ψ o)->Q (.ref s.z) {s with heap:=h',toks:=tk}):
  Δ prog w A (call (.type "dict") [.ref l]) Q E s:=by
 let⟨c,tl,Y'⟩:=nS.mro;have X_:=nS.made;have yw:=nS.sub;apply KG;apply qX;show wpAny _ _ (callAny (.type "dict") _) _ _ _;show aO #[IX _ θ,gF AG ?_];rw[IV (DV "dict" [.ref l] []) rfl];have h1:=nS.notType;have h2:=nS.canCreate;have hct:=SA (.ref l)
 repeat (any_goals (first |assumption |wp_step))
 show oD (Sh (.ref l) (E:=E) (Q₁:=λj N=>j = .ref s.z/\N = {s with heap:=s.heap.push wA}) #[rfl,rfl]) λr N g=>?_
 match r,g with
 | .error e,g=>show g
 | .ok (.ret j),g=>
  let⟨rfl,rfl⟩:=g;have k:(s.heap.push wA).get? s.z=ψ wA:=bQ _ rfl;have zS:(s.heap.push wA).objs.size=s.z+1:=nD ..;have C:∀b o,s.heap.get? b=ψ o->(s.heap.push wA).get? b=ψ o:=λb o e=>aN _ e;have O:zG {s with heap:=s.heap.push wA} (.ref s.z) "dict":=#[_,k,rfl];have hli:=nS.init.lookup;have hbi:=nS.init.bind (.ref s.z)
  repeat (any_goals (first |assumption |wp_step))
  generalize s.heap.push wA=h2 at k zS C O;obtain⟨v,P⟩:∃v:Result->aJ->Prop,v=wants (λr T=>r = .none/\∃h' tk,T = {s with heap:=h',toks:=tk}/\h'.DictOfH (tupleKind (gA prog w)) s.z (putAll its)/\(∀b o,s.heap.get? b=ψ o->h'.get? b=ψ o)) E:=#[_,rfl];show oD (uU (R:=v) PySem.F.slot_dict_init.plain PySem.F.entry_dict_init (PySem.F.slot_dict_init.check _ _ _ _ _ _ _ _ O (PySem.F.args_dict_init_2 _ _) ?_)) λr₂ T a=>?_
  ·have V:=C _ _ M;unfold Builtin.«dict.__init__» Builtin.Dict.selfAndRest Builtin.Dict.notOrdered;unfold wA at k;generalize hU:Builtin.Dict.updateCommon=U
   repeat (any_goals (first |assumption |wp_step))
   subst hU;show wpAny _ A.in1.in1 (zT "dict.__init__" s.z (.ref l) [] .none) _ _ _;unfold zT;generalize hG:getAttr? = G;generalize H:pyIter=PI
   repeat (any_goals (first |assumption |wp_step))
   subst hG;show Yh V (by simp[L]) λd W y=>?_
   repeat (any_goals (first |assumption |wp_step))
   subst H;have lt:l<s.z:=aZ M;have m:d.IsList l items:=#[_,y _ _ V,rfl,n,rfl];show yX m ?_;have I:s.z<d.objs.size:=aZ (y _ _ k);have X:(d.push (IE l)).get? d.objs.size=ψ (IE l):=bQ _ rfl;have B:∀b o,d.get? b=ψ o->(d.push (IE l)).get? b=ψ o:=λb o e=>aN _ e;show aO #[kH rD _,?_];show codeAny _ _ (.builtin "dict.update.loop" #[[.ref s.z,.ref d.objs.size,.int ((0:Nat):Int) 0,.none],[]]) v {s with heap:=d.push (IE l),toks:=W};generalize d.push (IE l)=Y at X B;have f:∀{b:Addr}{o:Obj},s.heap.get? b=ψ o->b≠s.z/\b≠d.objs.size:=λe=>#[bO (aZ e),bO (mO (aZ e) I)];have D0:Y.DictOfH (tupleKind (gA prog w)) s.z (putAll (its.take 0)):=#[_,(mt []),_,B _ _ (y _ _ k),#[rfl,rfl,rfl],rfl,by rw[pN];rfl,(λx Z=>by rw[pN] at Z;cases Z),by rw[pN];show .nil];show Nr (A:=A.in1) (h0:=s.heap) (by simp[L]) (bO (mO lt I)) (by show A.units+2<cLine;lia) (bO I) (lE lt) h hb (λi u x e1 e2=>?_) items.size 0 {s with heap:=Y,toks:=W} (BO _) (dL _) #[#[_,X,rfl,rfl],m.at λo e=>B _ o e] D0 (λb o _ _ e=>B b o (y b o (C b o e))) λh' tk D J=>?_
   ·obtain⟨⟨p,rfl,hp⟩,hk⟩:=hi i u x e1 e2;let⟨o,ho,g⟩:=hp;let⟨o2,i2,n2,ph,K⟩:=hk;show#[#[p,rfl,f ho,o,ho,g],f ph,o2,i2,n2,ph,K]
   ·rw[P];show#[rfl,h',tk,rfl,D,λb o e=>J b o (f e).1 (f e).2 e]
  ·rw[P] at a
   match r₂,a with
   | .error e,a=>show a
   | .ok (.ret r),a=>
    let⟨rfl,h',tk,rfl,D,J⟩:=a
    repeat (any_goals (first |assumption |wp_step))
    show q _ _ D J
end
def Ho{xs:ι (ι ij×Addr×aF)}{k:ι ij}(h:k∉xs.map (·.1)):atKey xs k=ξ:=by
 unfold atKey;rw[JE.mpr λx a e=>h (by rw[<-of_decide_eq_true e];show eU a)];rfl
def Bo(h:(its.map (·.1)).Nodup):putAll its=its:=by
 have b:∀(l a:ι (ι ij×Addr×aF)),((a++l).map (·.1)).Nodup->l.foldl (λa x=>storedH a x.1 x.2.1 x.2.2) a=a++l:=by
  intro l
  induction l with
  |nil=>intro a _;simp
  |cons x l c=>
   intro a h;have d:x.1∉a.map (·.1):=by
    rw[aX,sN] at h;show λm=>h.2.2 _ m x.1 η rfl
   have e:storedH a x.1 x.2.1 x.2.2=a++[x]:=by
    unfold storedH;rw[Ho d];rfl
   rw[mJ,e,c _ (~~~h)];simp
 show b its [] h
open PySem.Spec L2 in
def boot_dict:bootBuiltins "dict" = ψ (.type "dict"):=θ
section
open PySem.Spec L2
variable{σ:St}{s:aJ}
abbrev pairD(p:ι Int×D):D:=.tup [.tup (p.1.map .int),p.2]
def Ud(I:Inv X Γ σ H s):∀{m8:ι (ι Int×D)}{vs:ι V}{us:ι aF},a_ X.K H (m8.map pairD) vs->c6 vs us->∃(its:ι (ι ij×Addr×aF))(ws:ι V),its.length=us.length /\
  (∀(i:Nat)(u:aF)(x:ι ij×Addr×aF),us[i]?=ψ u->its[i]?=ψ x->(∃p,u = .ref p/\s.heap.IsTuple p (mt [.ref x.2.1,x.2.2]))/\(tupleKind (gA X.prog X.w)).is s.heap x.1 x.2.1) /\
  its.map (·.1)=m8.map (λp=>p.1.map dR)/\KT H (gT (m8.map (·.1)) ws) its/\a_ X.K H (m8.map (·.2)) ws:=by
 intro m8
 induction m8 with
 |nil=>
  intro vs us r t;cases r;cases t;show#[[],[],rfl,λi u x e=>by simp at e,rfl,.nil,.nil]
 |cons f m8 g=>
  intro vs us r t;cases r with
  |cons r h=>
  cases t with
  |cons t j=>
  let⟨its,ws,k,l,m,q,v⟩:=g h j;cases r with
  | @tup p y _ z r2=>
  cases t;cases r2 with
  | @cons _ Q _ A B r2=>
  cases r2 with
  | @cons _ C _ E r1 r2=>
  cases r2;let⟨b,rfl,a⟩:=Az B;let⟨R,F,G,_⟩:=I.tuple (ju.of (K:=X.K) z);let⟨T,J,rfl,L,M⟩:=c6.two F;cases L;show#[(f.1.map dR,b,J)::its,C::ws,by simp[k],λi u x c d=>?_,by simp[m],.cons #[rfl,a,M] q,.cons r1 v];cases i with
  |zero=>
   cases c;cases d;let⟨o,N,O,n,P⟩:=G;show#[#[p,rfl,o,N,O,n,~~~P],VB I.hok a]
  |succ i=>show l i u x (~~~c) (~~~d)
end
def Jk(c:RE):RE:=λa Q=>c a λx=>∃b:ι (ι Int×D),x = .lst (b.map pairD)/\(b.map (·.1)).Nodup/\Q (.dtt (b.map (·.1)) (b.map (·.2)))
section
open PySem.Spec L2
variable{p pos:Pos}
def Sb(hr:h9 k X.A)(hm:X.mg "dict" = ξ)(hc:X.calm=ζ)(h:DB X e te)(hg:Gl X "dict":=by rfl)(y:starEach [] X.env=[]:=by rfl)(L:starEach [e] X.env=[(χ,eval e X.env)]:=by rfl):
  DE X (.Call (.Name "dict" p) [e] [] pos) (Jk te):=by
 intro Γ s Z H Q I d_;let⟨j,P,st,q,kq⟩:=d_;show eP (lU I hg hm boot_dict ?_);show cN (h8 (pX h L y pos Γ s Z H (λF f=>∃(d:ι (ι Int×D))(v:V),F=[v]/\cc H f/\jh X.K f (.lst (d.map pairD)) v/\(d.map (·.1)).Nodup/\P (.dtt (d.map (·.1)) (d.map (·.2)))) I
  #[j,_,st,q,λx v f hx g r1=>?_]) λM g yj=>?_) (by rw[L,y]) (by rw[y];rfl)
 ·let⟨d,rfl,a1,a2⟩:=hx;show#[d,v,rfl,g,r1,a1,a2]
 let⟨F,f,w,r1,d,v,rfl,k9,rb,nd,hP⟩:=yj;let⟨l,F,rfl,hq,rr⟩:=rb.lst;let⟨u,rfl,rx⟩:=vals1 r1;cases rx;let⟨M,N,pl,hz⟩:=w.list hq;let⟨B,C,G,e2,e3,O,R⟩:=Ud w rr N;have m:M.length<=sizeLine:=by rw[<-N.length];show hz
 let⟨o,n,ho,T,U,E⟩:=pl;let⟨oc,od,oda,qm⟩:=o;dsimp only at T U E;subst T U E;have J:(B.map (·.1)).Nodup:=by
  rw[e3];have:d.map (λp=>p.1.map (dR:Int->ij))=(d.map (·.1)).map λk=>k.map dR:=by rw[cP];rfl
  rw[this];show yA _ (λa b y e=>y (LZ e)) nd
 show QY (w.ok.hd hc) (by have:=hr.un;lia) ho (~~~G) (by rw[G];show m) (λi u x eu ex=>e2 i u x (~~~eu) ex) λh' W D up=>?_;rw[Bo J] at D;let⟨o,es,ep,g1,g2,g3,g4,_,g6⟩:=D;have Y:f g.z=ξ:=w.hok.fresh (aS _);have up1:∀b o,f b=ψ o->f6 f g.z (.dT (gT (d.map (·.1)) C)) b=ψ o:=λb o e=>by rw[cQ (cX e Y)];show e
 have lw:(d.map (·.1)).length=C.length:=by rw[<-R.length];simp
 have I2:Inv X Γ Z (f6 f g.z (.dT (gT (d.map (·.1)) C))) {g with heap:=h',toks:=W}:=
  w.laid (t':=W) up (aS _) #[by rw[zC O,G];show m,beq_eq_false_iff_ne.mpr (Ne.symm (bO w.big)),B,KT.keeps O (λc ys ec=>up1 _ _ ec),o,es,ep,g1,g2,g3,g4,g6]
 let⟨o3,I3⟩:=Inv.freezeT I2 eV;have sm:cc f (f6 (f6 f g.z (.dT (gT (d.map (·.1)) C))) g.z (.frz o3 (.dT (gT (d.map (·.1)) C)))):=cc.fn λb o e=>by
  rw[cQ (cX e Y)];show up1 b o e
 show#[.ref g.z,_,I3,rfl,kq _ _ _ hP (k9.trans sm) (.dtt eV lw (R.keep (.of sm)))]
end
end
section
open PySem PySem.W PySem.Spec PySem.SetTable PyProof.Rows L2
inductive qp(A:cV)(s:aJ):List aF->List aF->Bool->Prop
 |nil:qp A s [] [] χ
 |same {y x:aF} {vs ws:List aF} {b:Bool} (h1:BT A s y x ζ) (t:qp A s vs ws b):qp A s (y::vs) (x::ws) b
 |less {y x:aF} {vs ws:List aF} {b:Bool} (h1:BT A s y x χ) (h2:D8 A s y x b):qp A s (y::vs) (x::ws) b
section
open PySem.SeqAt
open PySem.AutoSeq1 (wpAny_loadPart')
open PySem.MeetsSeq PySem.MeetsSeq2 PySem.MeetsSeq3
def Qf(l b:Addr)(items j:Array aF)(n D:Nat)(F G:Option Addr)(H I:Array (Option aF))(c:Bool)(z:items.size=j.size):
  Meets (Builtin.«tuple.__lt__» #[[.ref l,.ref b],[]])
   (λA R s=>s.heap.get? l=ψ {cls:=.type "tuple",dict:=F,data:=.seq items n,slots:=H}/\s.heap.get? b=ψ {cls:=.type "tuple",dict:=G,data:=.seq j D,slots:=I} /\
    qp A.in1 s items.toList j.toList c/\R (.ok (.ret (.bool c))) s):=
 .of_wp λa w A R s h=>by
  let⟨v,g,d,B,os⟩:=s;let⟨J,K,L,h⟩:=h;have O:=AutoSeq1.sub_tuple_tuple
  wp_walk using vP J,vP K,uF _ (λrest b m=>b.1=ξ/\m=#[v,g,d,B,os]/\∃(f i:ι aF),rest=f.zip i/\qp A.in1 #[v,g,d,B,os] f i c) _
  case turn=>
   rintro⟨y,x⟩ rest b m ⟨o,rfl,f,i,e,q⟩;cases q with
   |nil=>cases e
   | @same M N f i _ k t=>
    rw[hZ] at e;injection e with hyx xk;injection hyx with hy hx;subst hy hx;show aC (k a w _ _ ?_)
    wp_walk
    show#[rfl,rfl,_,_,xk,t]
   | @less M N f i _ k C=>
    rw[hZ] at e;injection e with hyx xk;injection hyx with hy hx;subst hy hx;show aC (k a w _ _ ?_);have u:=λE Q h=>C a w E Q h
    wp_walk using u
    show#[_,rfl,~~~h]
  case fin=>
   rintro⟨P,T⟩ m ⟨o,rfl,f,i,e,q⟩;simp only at o;subst o;cases q with
   |nil=>
    have U:decide (items.size<j.size)=χ:=decide_eq_false ν
    wp_walk
    show#[_,rfl,by simpa [Builtin.Tuple.tupleCompareSizes,z] using h]
   |same k t=>rw[hZ] at e;cases e
   |less k C=>rw[hZ] at e;cases e
  case h=>show#[rfl,rfl,items.toList,j.toList,rfl,L]
end
section
variable{s:aJ}
def Yc{c:Bool}(m:IsTup s.heap l items)(o:IsTup s.heap b io)(z:items.size=io.size)(q:qp A.in1 s items.toList io.toList c)
  (u:A.units<cLine) (h:Q (.bool c) s):Δ prog w A (compareOp .Lt (.ref l) (.ref b)) Q E s:=by
 obtain⟨⟨v,y,d,B⟩,e,f,n,g⟩:=id m;obtain⟨⟨i,C,data2,D⟩,j,k,G,a⟩:=id o;simp only at f g k a;subst f g k a;show richCompare_meets_room (op:=.Lt) #[_,e,rfl] #[_,j,rfl] PySem.F.slot_tuple_lt PySem.F.entry_tuple_lt (PySem.F.args_tuple_lt_2 _ _) (Qf l b items io n G y C B D c z)
  #[e,j,q,show JL c≠Value.notImplemented/\Q (.bool c) s from#[(λx=>nomatch x),h]] u
end
section
variable{s:aJ}
def Qc(h:aF->ι Int)(J:s.heap.get? a=ψ (seqObj "list" vs.toArray n))(h128:vs.length<128)
  (tups:∀h',(∀b o,b≠a->s.heap.get? b=ψ o->h'.get? b=ψ o)->∃fs:ι aF,KatTups h' vs fs/\fs.length=vs.length/\∀f∈fs,∃k t,f = .int k t)
  (ask:∀h',(∀b o,b≠a->s.heap.get? b=ψ o->h'.get? b=ψ o)->∀u v:aF,u∈vs->v∈vs ->
   ∃x ox xs nx y oy ys ny,(u = .ref x/\h'.get? x=ψ ox/\ox.data = .seq xs nx)/\(v = .ref y/\h'.get? y=ψ oy/\oy.data = .seq ys ny)/\∀C:Bool->aJ->Prop,C (jF (h u) (h v)) {s with heap:=h'}->KatLex prog w A ζ (decide (xs.size<ys.size)) C (xs.toList.zip ys.toList) 0 {s with heap:=h'})
  (q:∀h' (out:ι aF) c,out.Perm vs->h'.get? a=ψ (seqObj "list" out.toArray c)->(out.map h).Pairwise (λx y=>jF y x=χ)->(∀b o,b≠a->s.heap.get? b=ψ o->h'.get? b=ψ o)->P (.done (.ret .none)) {s with heap:=h'}):
  Δ prog w A (Builtin.«list.sort» #[[.ref a],[]]) P E s:=by
 by_cases K:vs.length<64
 ·have L:∀i,i<vs.length->(vs.map h).getD i []=h (vs.getD i dO)/\vs.getD i dO∈vs:=λi m=>by
   rw[dF,dF,bJ,aL m];show#[rfl,qB m]
  show Fx J (nss:=vs.map h) η K tups (λh' hh i j C m M c=>?_) λh' p c N hg W Y=>?_
  ·rw[(L i m).1,(L j M).1] at c;let⟨x,ox,xs,nx,y,oy,ys,ny,g1,g2,g3⟩:=ask h' hh _ _ (L i m).2 (L j M).2;show#[x,ox,xs,nx,y,oy,ys,ny,g1,g2,g3 C c]
  ·have Z:(p.map λi=>vs.getD i dO).Perm vs:=by
    have:=N.map λi=>vs.getD i dO
    rwa [range_getD] at this
   show q h' _ c Z hg ?_ Y;have e:(p.map λi=>(vs.map h).getD i [])=(p.map λi=>vs.getD i dO).map h:=by
    rw[cP];show kY λi m=>(L i (cM.mp (N.mem_iff.mp m))).1
   rw[<-e];show W
 have lt:a<s.z:=aZ J;rw[RH];apply aC;show listItems_at J rfl ?_;apply aC;show zM J rfl ?_ (by rw[aY,fK];lia) (dL _);obtain⟨H,yp⟩:∃H,(s.heap.update a (fA λ_=>((mt []):Array aF))).get? a=ψ (seqObj "list" (mt []) H):=#[_,vL J λ_=>(mt [])];have up1:∀b o,b≠a->s.heap.get? b=ψ o->(s.heap.update a (fA λ_=>((mt []):Array aF))).get? b=ψ o:=λb o B e=>(eD _ _ (Ne.symm B)).trans e;generalize s.heap.update a (fA λ_=>((mt []):Array aF))=D at yp up1;apply aC;show GG yp rfl ?_;apply aC;show WV ?_ (by show vs.length<=_;rw[fK];lia);apply aC;show uO ?_ (dL _);apply gI;show Δ prog w A _ P E {s with heap:=(D.push (seqObj "tuple" vs.toArray 0)).push (seqObj "list" (mt []) 0)};have U:∀b o,b≠a->s.heap.get? b=ψ o->((D.push (seqObj "tuple" vs.toArray 0)).push (seqObj "list" (mt []) 0)).get? b=ψ o:=λb o B e=>aN _ (aN _ (up1 b o B e));have V:((D.push (seqObj "tuple" vs.toArray 0)).push (seqObj "list" (mt []) 0)).get? a=ψ (seqObj "list" (mt []) H):=aN _ (aN _ yp);generalize (D.push (seqObj "tuple" vs.toArray 0)).push (seqObj "list" (mt []) 0)=g at U V;have fin:∀(out:ι aF)(d:SortSt),(arrOf d).map (·.2)=out.toArray->failedOf d=ξ->out.Perm vs->(out.map h).Pairwise (λx y=>jF y x=χ) ->
   Δ prog w A (do
    let sorted:=(arrOf d).map (·.2)
    let l:=(<-seqEpoch a) != H
    rT (.ref a) λ_=>sorted
    if let some e:=failedOf d then rule "list.sort.comparison-raised";throw e
    if l then rule "list.sort.modified";raiseError "ValueError" "list modified during sort"
    ret .none) P E {s with heap:=g}:=by
  intro out d D hf N W;have hlen:=N.length_eq;fail;apply aC;show GG (s:={s with heap:=g}) V rfl ?_;rw[D];apply aC;show zM (s:={s with heap:=g}) V rfl ?_ (dL _) (by show out.toArray.size<=_;rw[aY,fK];lia);obtain⟨c,hc⟩:∃c,(g.update a (fA λ_=>out.toArray)).get? a=ψ (seqObj "list" out.toArray c):=#[_,vL V λ_=>out.toArray];have rm:∀b o,b≠a->g.get? b=ψ o->(g.update a (fA λ_=>out.toArray)).get? b=ψ o:=λb o B e=>(eD _ _ (Ne.symm B)).trans e;generalize g.update a (fA λ_=>out.toArray)=h3 at hc rm;rw[hf];erw[bne_self_eq_false,aR,if_false];show aO (q h3 out c N hc W λb o B e=>rm b o B (U b o B e))
 fail;have c2:¬vs.toArray.size<2:=by rw[aY];lia
 rw[υ c2,υ c2];let⟨fs,f1,f2,f3⟩:=tups g U;apply aC;show kat_kind (s:={s with heap:=g}) (T:=.type "int") f1 ν (λv hv=>?_) μ ?_
 ·let⟨k,t,rfl⟩:=f3 v hv;show Looks.now
 have hT:(iK "int" != iK "tuple")=ζ:=μ
 rw[hT];have lz:(vs.toArray.zip vs.toArray).size=vs.length:=η
 have F:∀x∈(vs.toArray.zip vs.toArray).toList,x.1=x.2/\x.1∈vs:=λx I=>by
  rw[NB] at I;show mem_zip_self (~~~I)
 apply aC;show gM (Go (κ:=tuples' ζ) (O:=Oh) (k:=λx=>h x.1) (G:=λx=>x.1∈vs) (X:=vs.toArray.zip vs.toArray) (s:={s with heap:=g}) (st:=TN (tuples' ζ) (vs.toArray.zip vs.toArray) (mt []) 7 ξ) (Q:=λ_ d=>(arrOf d).Perm (vs.toArray.zip vs.toArray)/\failedOf d=ξ/\oO Oh (λx=>h x.1) (arrOf d) 0 (vs.toArray.zip vs.toArray).size)
  (λx y st Q gx gy Y hq=>?_) #[λx I=>(F x I).2] #[rfl,rfl,rfl,oG _] ν ν λd D g h3=>#[D,g,h3]) ?_ λ_ _ e=>e
 ·rw[lt'_eq];show bS (tI ?_);rw[Y];show bS (GN (qS ?_));obtain⟨a1,ox,xs,nx,a2,oy,ys,ny,⟨ex,hx1,hx3⟩,⟨ey,hy1,hy3⟩,kl⟩:=ask g U x.1 y.1 gx gy;rw[ex,ey];show kat_lt (s:={s with heap:=g}) hx1 hx3 hy1 hy3 (kl _ #[rfl,cR hq])
 ·rintro⟨⟨⟩,d⟩ s' ⟨rfl,R,hf,hsr⟩;have pl:=lJ.mp R;have hz:(arrOf d).size=vs.length:=by rw[R.size_eq,lz]
  have same:∀x∈(arrOf d).toList,x.1=x.2/\x.1∈vs:=λx I=>F x (pl.mem_iff.mp I);have Z:((arrOf d).toList.map (·.2)).Perm vs:=by
   have:=pl.map (·.2);rw[NB] at this;simpa [NM] using this
  show fin ((arrOf d).toList.map (·.2)) d (NA.mp (by rw[Array.toList_map])) hf Z ?_;rw[cP];show fP.mpr (dJ.mpr λi j m M jw=>?_);rw[bX] at m M;have q:=hsr i j ν ν ν;have H:b_ (arrOf d) i=(arrOf d)[i]:=by simp[b_,fR,m]
  have e2:b_ (arrOf d) j=(arrOf d)[j]:=by simp[b_,fR,M]
  have q:jF (h (b_ (arrOf d) j).1) (h (b_ (arrOf d) i).1)=χ:=q;rw[H,e2] at q;have s1:=(same (arrOf d)[i] η).1;have s2:=(same (arrOf d)[j] η).1;rw[s1,s2] at q;show q
end
mutual
inductive kj:Nat->D->D->Prop
 |int {n:Nat} (i j:Int):kj (n+1) (.int i) (.int j)
 |tup {n:Nat} {xs ys:List D} (h:jq n xs ys):kj (n+1) (.tup xs) (.tup ys)
inductive jq:Nat->List D->List D->Prop
 |nil {n:Nat}:jq n [] []
 |cons {n:Nat} {x y:D} {xs ys:List D} (h:kj n x y) (t:jq n xs ys):jq n (x::xs) (y::ys)
end
def iU:Nat->D->ι Int
 | 0,_=>[]
 |_+1,.int i=>[i]
 |n+1,.tup a=>a.flatMap (iU n)
 |_+1,_=>[]
theorem VG:∀{a b:ι Int}(r r':ι Int),a.length=b.length->jF (a++r) (b++r')=if a=b then jF r r' else jF a b
 | [],[],r,r',_=>by simp
 | [],_::_,_,_,h=>by cases h
 |_::_,[],_,_,h=>by cases h
 |x::a,y::b,r,r',h=>by
  show(if x=y then jF (a++r) (b++r') else decide (x<y))=if x::a=y::b then jF r r' else(if x=y then jF a b else decide (x<y));by_cases e:x=y
  ·subst e;rw[Ω rfl,Ω rfl,VG r r' (~~~h)];by_cases c:a=b
   ·rw[Ω c,Ω (by rw[c])]
   ·rw[υ c,υ λz=>c (uI z).2]
  ·rw[υ e,υ e,υ λz=>e (uI z).1]
def E2{a b:ι Int}{r c:ι Int}(h:a.length=b.length):(a++r=b++c)↔(a=b/\r=c):=#[λe=>List.append_inj e h,λ⟨d,f⟩=>by rw[d,f]]
structure ShOk(n:Nat)(d e:D):Prop where
 len:(iU n d).length=(iU n e).length
 eq:jc n d e=ψ (decide (iU n d=iU n e))
structure D_(n:Nat)(ds es:List D):Prop where
 lens:ds.length=es.length
 len:(ds.flatMap (iU n)).length=(es.flatMap (iU n)).length
 eq:ma (jc n) ds es=ψ (decide (ds.flatMap (iU n)=es.flatMap (iU n)))
mutual
theorem kj.ok:∀{n:Nat}{d e:D},kj n d e->ShOk n d e
 |_,_,_,.int i j=>#[rfl,by simp[jc,iU]]
 |_,_,_,.tup h=>let k:=h.ok;#[k.len,by rw[jc];show k.eq]
theorem jq.ok:∀{n:Nat}{ds es:ι D},jq n ds es->D_ n ds es
 |_,_,_,.nil=>#[rfl,rfl,rfl]
 |_,_,_,.cons h t=>by
  have a:=h.ok;have b:=t.ok;show#[by simp[b.lens],by simp[a.len,b.len],?_];rw[ma,a.eq,b.eq,dA,dA];erw[E2 a.len,oH]
end
section
variable{σ:St}{s:aJ}
def Q0(I:Inv X Γ σ H s)(f:A.units+n<cLine)(lt:∀{d e:D}{v u:V}{x y:aF},kj n d e->ig X.K H d v->ig X.K H e u->RelV v x->RelV u y->D8 A s x y (jF (iU n d) (iU n e))):
  ∀{ds es:ι D}{vs us:ι V}{its ik:ι aF},jq n ds es->a_ X.K H ds vs->c6 vs its->a_ X.K H es us->c6 us ik->qp A s its ik (jF (ds.flatMap (iU n)) (es.flatMap (iU n))):=by
 intro ds
 induction ds with
 |nil=>
  intro es vs us its ik h r1 b r2 c;cases h;cases r1;cases r2;cases b;cases c;show .nil
 |cons d ds g=>
  intro es vs us its ik h r1 b r2 c;cases h with
  | @cons _ _ i _ _ h t=>
  cases r1 with
  |cons r1 j=>
  cases r2 with
  |cons r2 l=>
  cases b with
  |cons b m=>
  cases c with
  |cons c o=>
  have a:=h.ok;have e:=(xD I n a.eq r1 r2 b c f).2;rw[dA,dA,VG _ _ a.len];by_cases k:iU n d=iU n i
  ·rw[decide_eq_true k] at e;rw[Ω k];show .same e (g t j m l o)
  ·rw[decide_eq_false k] at e;rw[υ k];show .less e (lt h r1 r2 b c)
def Z3(I:Inv X Γ σ H s):∀(n:Nat){A:cV}{d e:D}{v u:V}{x y:aF},A.units+2*n<cLine->kj n d e->ig X.K H d v->ig X.K H e u->RelV v x->RelV u y->D8 A s x y (jF (iU n d) (iU n e)):=by
 intro n
 induction n with
 |zero=>intro A d e v u x y _ h;cases h
 |succ n B=>
  intro A d e v u x y N h r1 r2 f g;cases h with
  |int i j=>
   rw[r1.int_inv] at f;rw[r2.int_inv] at g;let⟨t,rfl⟩:=f;let⟨C,rfl⟩:=g;intro c w E Q h;show(PyProof.Rows.lt_int ?_:Δ c w A (compareOp .Lt (.int i t) (.int j C)) Q E s);have e:jF (iU (n+1) (.int i)) (iU (n+1) (.int j))=decide (i<j):=by
    show(if i=j then χ else decide (i<j))=_;by_cases k:i=j
    ·rw[Ω k];show(decide_eq_false ν).symm
    ·rw[υ k]
   rw[e] at h;show h
  |tup h=>
   cases r1 with
   | @tup a O _ F l=>
   cases r2 with
   | @tup b P _ G m=>
   cases f;cases g;let⟨J,o,L,_⟩:=I.tuple (ju.of (K:=X.K) F);let⟨R,z,M,_⟩:=I.tuple (ju.of (K:=X.K) G);intro c w E Q q;show Yc (A:=A) L M (by rw[aY,aY,<-o.length,<-z.length,<-l.length,<-m.length,h.ok.lens]) ?_ ν q;show Q0 I (by show A.units+1+n<cLine;lia) (λh=>B (by show A.units+1+2*n<cLine;lia) h) h l o m z
def kat_rest(I:Inv X Γ σ H s)(g:A.units+2*n<cLine):
  ∀{ds es:ι D}{vs us:ι V}{its ik:ι aF}{i:Nat},jq n ds es->a_ X.K H ds vs->c6 vs its->a_ X.K H es us->c6 us ik->C (jF (ds.flatMap (iU n)) (es.flatMap (iU n))) s->KatLex prog w A ζ χ C (its.zip ik) (i+1) s:=by
 intro ds
 induction ds with
 |nil=>
  intro es vs us its ik i h r1 b r2 f c;cases h;cases r1;cases r2;cases b;cases f;show Ay c
 |cons d ds j=>
  intro es vs us its ik i h r1 b r2 f c;cases h with
  | @cons _ _ l _ _ h t=>
  cases r1 with
  |cons r1 m=>
  cases r2 with
  |cons r2 o=>
  cases b with
  |cons b q=>
  cases f with
  |cons f u=>
  have a:=h.ok;have e:=(xD I n a.eq r1 r2 b f (A:=A) ν).2;rw[dA,dA,VG _ _ a.len] at c;rw[hZ];show Dx (e _ _ _ _ ?_);by_cases k:iU n d=iU n l
  ·rw[decide_eq_true k];rw[Ω k] at c;show kat_yes (j t m q o u c)
  ·rw[decide_eq_false k];rw[υ k] at c;show kat_no (kat_one _ _ (Z3 I n g h r1 r2 b f prog w _ _ c))
def Qu(p q:D):Prop:=∃i j a b,p = .tup (.int i::a)/\q = .tup (.int j::b)/\jq 5 a b
def Ra(I:Inv X Γ σ H s)(T:A.units+12<cLine)(N:Qu p q)(r1:ig X.K H p v)(r2:ig X.K H q u)(D:RelV v x)(E:RelV u y):
  ∃a oa xs na b ob ys nb,(x = .ref a/\s.heap.get? a=ψ oa/\oa.data = .seq xs na)/\(y = .ref b/\s.heap.get? b=ψ ob/\ob.data = .seq ys nb)/\∀C:Bool->aJ->Prop,C (jF (iU 6 p) (iU 6 q)) s->KatLex prog w A ζ (decide (xs.size<ys.size)) C (xs.toList.zip ys.toList) 0 s:=by
 let⟨i,j,F,G,rfl,rfl,h⟩:=N;cases r1 with
 | @tup a U _ J f=>
 cases r2 with
 | @tup b V _ L g=>
 cases D;cases E;obtain⟨d,k,⟨oa,M,W,na,O⟩,_⟩:=I.tuple (ju.of (K:=X.K) J);obtain⟨m,l,⟨ob,P,Y,nb,Q⟩,_⟩:=I.tuple (ju.of (K:=X.K) L);show#[a,oa,d.toArray,na,b,ob,m.toArray,nb,#[rfl,M,O],#[rfl,P,Q],λC c=>?_];have Z:d.toArray.size=m.toArray.size:=by
  rw[aY,aY,<-k.length,<-l.length,<-f.length,<-g.length];simp[h.ok.lens]
 rw[decide_eq_false (show ¬d.toArray.size<m.toArray.size by lia)];cases f with
 |cons z f=>
 cases g with
 |cons B g=>
 cases k with
 |cons n k=>
 cases l with
 |cons o l=>
 have R:=(xD I 1 (show jc 1 (.int i) (.int j)=ψ (decide (i=j)) from rfl) z B n o (A:=A) ν).2;rw[z.int_inv] at n;rw[B.int_inv] at o;let⟨t,rfl⟩:=n;let⟨t',rfl⟩:=o;have c:C (if i=j then jF (F.flatMap (iU 5)) (G.flatMap (iU 5)) else decide (i<j)) s:=c;show KatLex prog w A ζ χ C ((_,_)::_) 0 s;show Dx (R _ _ _ _ ?_);by_cases e:i=j
 ·rw[decide_eq_true e];rw[Ω e] at c;show kat_yes (kat_rest I ν h f k g l c)
 ·rw[decide_eq_false e];rw[υ e] at c;show kat_no (oneLt_int c)
def Qg(I:Inv X Γ σ H s):∀(ps:ι D){vs:ι V}{its:ι aF},(∀p∈ps,Qu p p)->a_ X.K H ps vs->c6 vs its->∃fs:ι aF,KatTups s.heap its fs/\fs.length=its.length/\∀f∈fs,∃k t,f = .int k t:=by
 intro ps
 induction ps with
 |nil=>
  intro vs its _ r v;cases r;cases v;show#[[],trivial,rfl,λf b=>by cases b]
 |cons p ps h=>
  intro vs its N r v;cases r with
  |cons c l=>
  cases v with
  |cons m n=>
  let⟨fs,o,u,w⟩:=h (λq y=>N q (bH _ y)) l n;let⟨i,j,E,F,rfl,_,_⟩:=N p (cT ..);cases c with
  | @tup a vs _ c d=>
  cases m;obtain⟨its,e,⟨G,z,A,J,B⟩,_⟩:=I.tuple (ju.of (K:=X.K) c);cases d with
  |cons C d=>
  cases e with
  |cons g e=>
  rw[C.int_inv] at g;let⟨t,rfl⟩:=g;show#[_,KatTups.cons z A B rfl o,by simp[u],λf b=>by
   rcases aP.mp b with rfl |b
   ·show#[_,_,rfl]
   ·show w f b]
end
def WC(d:RE):RA:=λa Q=>d a λx=>∃b:ι D,x = .lst b/\(b.length<128/\∀p∈b,∀q∈b,Qu p q)/\∀c:ι D,c.Perm b->c.Pairwise (λx y=>jF (iU 6 y) (iU 6 x)=χ)->Q c
section
variable{p pos:Pos}
def Dj(hr:h9 k X.A)(wa:X.mg "sorted" = ξ)(h:DB X e te)(v4:Gl X "sorted":=by rfl)(hs:starEach [e] X.env=[(χ,eval e X.env)]:=by rfl)(hn:starEach [] X.env=[]:=by rfl):
  DO X (.Call (.Name "sorted" p) [e] [] pos) (WC te):=by
 intro Γ s Z H Q I d_;let⟨j,P,st,q,kq⟩:=d_;have R:=hr.units;show eP (lU I v4 wa boot_sorted ?_);show iE (h8 (pX h hs hn pos Γ s Z H (λvs E=>∃(n:ι D)(v:V),vs=[v]/\cc H E/\jh X.K E (.lst n) v/\(n.length<128/\∀p∈n,∀q∈n,Qu p q)/\∀qs:ι D,qs.Perm n->qs.Pairwise (λx y=>jF (iU 6 y) (iU 6 x)=χ)->P qs) I
  #[j,_,st,q,λx v E hx w r1=>?_]) λus w ⟨vs,E,F,r1,q1⟩=>?_) (by rw[hs,hn]) (by rw[hn];rfl)
 ·let⟨n,rfl,L,M⟩:=hx;show#[n,v,rfl,w,r1,L,M]
 obtain⟨n,v,rfl,k9,rb,⟨t4,hN⟩,hP⟩:=q1;let⟨l,vs,rfl,hq,T⟩:=rb.lst;let⟨u,rfl,rx⟩:=vals1 r1;cases rx;let⟨f,U,pl,hz⟩:=F.list hq;have l1:=T.length;have l2:=U.length;show qI PX MM LV (LH _) ?_;unfold Builtin.«sorted»;show aC (m:=checkCount "sorted" 1 1 _) (aO ?_);apply aC;show collect_list pl.isList ?_ (by rw[fK];lia);apply aC;show uO ?_ (by rw[fK];lia);generalize V_:(w.heap.push (seqObj "list" (mt []) 0)).update w.z (fA (· ++ f.toArray))=C;have k1:∀b o,w.heap.get? b=ψ o->C.get? b=ψ o:=λb o e=>by rw[<-V_,HF _ _ _ _ (bO (aZ e))];show aN _ e
 have big:w.z<=C.objs.size:=by rw[<-V_,NF,size_push'];show pQ _
 show wpAny _ _ _ _ _ {w with heap:=C.push (seqObj "list" f.toArray 0)};have hL:(C.push (seqObj "list" f.toArray 0)).get? C.objs.size=ψ (seqObj "list" f.toArray 0):=bQ _ rfl;have W:∀b o,w.heap.get? b=ψ o->(C.push (seqObj "list" f.toArray 0)).get? b=ψ o:=λb o e=>aN _ (k1 b o e);generalize C.push (seqObj "list" f.toArray 0)=h2 at hL W;have kk:∀h':Heap,(∀b o,b≠C.objs.size->h2.get? b=ψ o->h'.get? b=ψ o)->∀b o,w.heap.get? b=ψ o->h'.get? b=ψ o:=λh' N b o e=>N b o (bO (bF (aZ e) big)) (W b o e);have ex:∀u,u∈f->∃p∈n,∃v,ig X.K E p v/\RelV v u:=λu R=>by
  let⟨i,Y⟩:=List.getElem?_of_mem R;have lp:i<n.length:=by have:=(cE.mp Y).1;lia
  let⟨v,e1,e2⟩:=T.get (i:=i) (d:=n[i]) (aL lp);let⟨u',G,f2⟩:=U.get e1;rw[Y] at G;cases G;show#[n[i],qB _,v,e2,f2]
 obtain⟨B,yk⟩:∃B:aF->D,∀u,u∈f->B u∈n/\∃v,ig X.K E (B u) v/\RelV v u:=
  #[λu=>if h:u∈f then Classical.choose (ex u h) else .non,λu h=>by
   fail;rw[dif_pos h];show Classical.choose_spec (ex u h)]
 have kdOf:∀{p:D}{v:V}{u:aF},u∈f->ig X.K E p v->RelV v u->B u=p:=λR r1 r2=>by
  let⟨_,v',r3,r4⟩:=yk _ R;have:=r4.inj r2;subst this;show ig.det F r3 r1
 show aC (gI (iG slot_list_sort #[_,hL,rfl] entry_list_sort ?body (EO _)))
 case body=>
  show Qc (s:={w with heap:=h2}) (λu=>iU 6 (B u)) hL ν (λh' N=>?_) (λh' N u v xm hv=>?_) λh3 g c g1 g2 g3 g4=>?_
  ·show Qg (F.kept (t':=w.toks) (kk h' N)) n (λp hp=>hN p hp p hp) T U
  ·let⟨m1,v1,L,M⟩:=yk u xm;let⟨m2,v2,b1,b2⟩:=yk v hv;show Ra (F.kept (t':=w.toks) (kk h' N)) (by first |lia | (show X.A.units+1+12<cLine;lia) | (show X.A.units+1+1+12<cLine;lia)) (hN _ m1 _ m2) L b1 M b2
  have kp:=kk h3 g4;have mem:∀u∈g,u∈f:=λu h=>g1.mem_iff.mp h;obtain⟨J,hv,hr2⟩:∃J:ι V,c6 J g/\a_ X.K E (g.map B) J:=by
   clear g1 g2 g3
   induction g with
   |nil=>show#[[],.nil,.nil]
   |cons u g ih=>
    let⟨J,i1,i2⟩:=ih λx hx=>mem x (bH _ hx);let⟨_,v,L,M⟩:=yk u (mem u (cT ..));show#[v::J,.cons M i1,.cons L i2]
  have e:f.map B=n:=by
   apply NJ (by rw[aG];lia);intro i k1 W;let⟨v,e1,e2⟩:=T.get (i:=i) (d:=n[i]) (aL W);let⟨u,G,f2⟩:=U.get e1;have Y:i<f.length:=(~~~k1);have eu:f[i]=u:=(by rw[aL Y] at G;show dG G);rw[NL,eu];show kdOf (bA G) e2 f2
  have O:(g.map B).Perm n:=by
   have:=g1.map B
   rwa [e] at this
  have srt:(g.map B).Pairwise (λx y=>jF (iU 6 y) (iU 6 x)=χ):=by
   have z:(g.map λu=>iU 6 (B u))=(g.map B).map (iU 6):=(by rw[cP];rfl);rw[z,fP] at g3;show g3
  have lo:=g1.length_eq;have lw:=hv.length;have I4:=F.laid (a:=C.objs.size) (o:=.lst J) (h':=h3) (t':=w.toks) kp big #[by rw[lw,fK];lia,_,c,hv,g2];show#[_,rfl,aO #[_,rfl,.ref C.objs.size,_,I4,rfl,kq _ _ _ E (hP _ O srt) k9 (F.hok.fresh big) hr2]]
end
end
section
open PySem PySem.Spec PyProof.Rows L2
abbrev e_(i:Int):RE:=rC (.int i)
abbrev f_(i:Nat)(k:Int):RE:=r2 g7 (bD i) (rC (.int k))
abbrev ap(d:D):Option S:=ψ (.d d)
def pY:RS:=
 dQ (fZ 4 (r2 zJ (bD 2) (bD 3)))
 (dQ (fZ 2 (bC 3))
 (fZ 3 (bC 4)))
def yV:RS:=
 dQ (fZ 2 (rCB Hu (aE (bC 0) aV)))
 (dQ (fZ 3 (rCB Hu (aE (bC 1) aV)))
 (dQ (KC (fJ (r2 (AK ζ) (bD 3) (e_ 0))) pY)
 (fE (bC 2))))
def Fm(a:FD):RS:=
 dQ (mQ (fJ (r2 (AK χ) (bD 1) (e_ 0))) ((λ_ _=>False)) iV)
 (dQ (fZ 2 (cH a (aE (bC 0) (aE (bC 1) aV))))
 (dQ (mQ (fJ (r2 (tY λi j=>decide (i<j)) (bD 1) (e_ 0))) (fZ 2 (r1 LO (bD 2))) iV)
 (fE (iJ (aE (r2 vT (bD 0) (bD 2)) (aE (r2 vT (bD 1) (bD 2)) aV))))))
def CY:RS:=
 dQ (mQ (fJ (r2 (tY λi j=>decide (i<j)) (bD 1) (r1 qC (bD 0)))) (fE (r2 g7 (bD 0) (bD 1))) iV)
 (fE (e_ 0))
def IQ:RS:=
 fE (Vc (r1 (DN "int") (bC 0)) (Ve (r1 (DN "bool") (bC 0))))
def Mc(a:FD):RS:=
 fE (cH a (aE (r2 pT (r2 rN (f_ 0 0) (f_ 1 1)) (r2 rN (f_ 1 0) (f_ 0 1))) (aE (r2 rN (f_ 0 1) (f_ 1 1)) aV)))
def Fk(a:FD):RS:=
 fE (cH a (aE (r2 qL (r2 rN (f_ 0 0) (f_ 1 1)) (r2 rN (f_ 1 0) (f_ 0 1))) (aE (r2 rN (f_ 0 1) (f_ 1 1)) aV)))
def rQ:RS:=
 O8 0 1 (aE (bC 1) (aE (r2 zJ (bD 0) (bD 1)) aV))
def CZ:RS:=
 dQ (fZ 0 (rCB Hu (aE (bC 0) aV)))
 (dQ (fZ 1 (rCB Hu (aE (bC 1) aV)))
 (dQ (KC (fJ (r2 (tY λi j=>decide (j<i)) (bD 1) (e_ 0))) rQ)
 (fE (bC 0))))
def FT(a:FD):RS:=
 dQ (fZ 2 (cH a (aE (bC 0) (aE (bC 1) aV))))
 (fE (iJ (aE (r2 vT (bD 0) (bD 2)) (aE (r2 vT (bD 1) (bD 2)) aV))))
def Fj:RS:=
 fE (r2 (tY λi j=>decide (i<j)) (r2 rN (f_ 0 0) (f_ 1 1)) (r2 rN (f_ 1 0) (f_ 0 1)))
def xR(a:FD):RS:=
 fE (r2 rN (bD 0) (r2 vT (bD 1) (cH a (aE (bC 0) (aE (bC 1) aV)))))
def Md:RS:=
 dQ (fZ 3 (r2 rN (r2 qL (f_ 1 0) (f_ 0 0)) (r2 qL (f_ 2 1) (f_ 0 1))))
 (dQ (fZ 4 (r2 rN (r2 qL (f_ 1 1) (f_ 0 1)) (r2 qL (f_ 2 0) (f_ 0 0))))
 (fE (r2 qL (bD 3) (bD 4))))
def qF:RS:=
 Mb 1
def BD(a:FD):RS:=
 dQ (KC (Vb (fJ (r2 (tY λi j=>decide (j<i)) (r1 qC (bD 1)) (e_ 1))) (fJ (r2 (tY λi j=>decide (i<=j)) (cH a (aE (r2 g7 (bD 1) (r1 LO (e_ 2))) (aE (r2 g7 (bD 1) (r1 LO (e_ 1))) (aE (bC 2) aV)))) (e_ 0)))) qF)
 (tQ 1 (bC 2))
def IR(a:FD):RS:=
 dQ (lW 1 (nQ aV))
 (dQ (jS (riL (bC 0)) (cJ 2) (BD a))
 (fE (RX (bD 1) rE (CV (r1 LO (e_ 1))))))
def WF(c:FD):RS:=
 dQ (fZ 1 ((λa Q=>(WD (bD 0)) a λb=>Q (.lst b))))
 (fE (r2 vS (cH c (aE (bC 1) aV)) (cH c (aE ((λa Q=>(WB (bD 1)) a λb=>Q (.lst b))) aV))))
def IS(a:FD):RS:=
 fZ 3 (cH a (aE (cH a (aE (bC 3) (aE (bC 4) aV))) (aE (bC 5) aV)))
def WG(b:FD)(c:FD):RS:=
 dQ (fZ 2 (cH b (aE (bC 1) aV)))
 (dQ (mQ (fJ (r2 (tY λi j=>decide (i<j)) (r1 qC (bD 2)) (e_ 3))) (fE (rC .non)) iV)
 (dQ (fZ 3 (bC 0))
 (dQ (jS (riL (bC 2)) (nX 2 (fX (cJ 4) (fX (cJ 5) nW))) (IS c))
 (fE (iJ (aE (r2 vT (bD 0) (bD 3)) (aE (r1 Am ((λa Q=>(mE (riL (bC 2)) 2 [3] (nX 2 (fX (cJ 0) (fX (cJ 1) nW))) (iJ (aE (r2 vT (bD 0) (bD 2)) (aE (r2 vT (bD 1) (bD 2)) aV)))) a λd=>Q (.lst d)))) aV)))))))
def FY(a:FD):RS:=
 fE (cH a (aE (f_ 0 3) (aE (f_ 0 1) aV)))
def DF(a:FD):RS:=
 fE (cH a (aE (f_ 0 4) (aE (f_ 0 2) aV)))
def IN:RS:=
 dQ (fZ 2 (e_ 0))
 (dQ (mQ (fJ (r2 (tY λi j=>decide (j<i)) (r1 qC (bD 0)) (e_ 0))) (fZ 2 (r2 g7 (bD 0) (r2 zJ (bD 1) (rCB YL (aE (e_ 63) (aE (r1 qC (bD 0)) aV)))))) iV)
 (dQ (fZ 3 (r2 pT (r2 zJ (bD 2) (r2 Hv (e_ 10) (e_ 18))) (r2 rN (e_ 48271) (r2 pT (bD 1) (e_ 1)))))
 (fE (r2 zJ (r2 rN (bD 3) (bD 3)) (e_ 2147483647)))))
def tR(a:FD):RS:=
 fZ 1 (cH a (aE (bC 1) (aE (bC 2) aV)))
def xP(a:FD):RS:=
 dQ (fZ 1 (e_ 1))
 (dQ (jS (riL (bC 0)) (cJ 2) (tR a))
 (fE (bC 1)))
def FZ(a:FD):RS:=
 fE (cH a (aE (f_ 0 2) (aE (f_ 0 1) aV)))
def GE(a:FD):RS:=
 fE (cH a (aE (f_ 0 4) (aE (f_ 0 3) aV)))
def GC:RS:=
 dQ (mQ (fJ (r2 (tY λi j=>decide (i<j)) (f_ 2 0) (f_ 3 0))) (tQ 1 (iJ (aE (bC 2) (aE (bC 3) aV)))) iV)
 (mQ (fJ (r2 (tY λi j=>decide (i<j)) (f_ 3 0) (f_ 2 0))) (tQ 1 (iJ (aE (bC 3) (aE (bC 2) aV)))) iV)
def QK:RS:=
 dQ (lW 1 (nQ aV))
 (dQ (jS (IT (bC 0) (r2 vS (RX (bD 0) (CV (e_ 1)) rE) (RX (bD 0) rE (CV (e_ 1))))) (nX 2 (fX (cJ 2) (fX (cJ 3) nW))) GC)
 ((λE a=>(fE (bC 1)) E (oP 1 a))))
def tT:RS:=
 ZE 1 (bC 4) (bC 3)
def tU:RS:=
 jS (Vi (aE (r2 g7 (f_ 3 0) (e_ 0)) (aE (r2 g7 (f_ 3 1) (e_ 0)) aV))) (cJ 4) tT
def tV(a:FD):RS:=
 jS (riL (cH a (aE (bC 2) aV))) (cJ 3) tU
def xS(b:FD):RS:=
 dQ (Ma 1)
 (dQ (jS (riL (bC 0)) (cJ 2) (tV b))
 ((λE a=>(fE (bC 1)) E (oP 1 a))))
def QL:RS:=
 fE (r2 qL (r2 g7 (f_ 0 1) (e_ 0)) (r2 g7 (f_ 0 0) (e_ 0)))
def MP(a:FD):RS:=
 dQ (fZ 3 (f_ 0 0))
 (dQ (fZ 4 (cH a (aE (bC 0) aV)))
 (dQ (fZ 5 (r2 rN (r2 qL (r2 g7 (f_ 0 1) (e_ 1)) (f_ 3 1)) (r2 qL (bD 1) (f_ 3 0))))
 (fE (r2 rN (r2 pT (r2 rN (f_ 3 1) (bD 4)) (bD 5)) (r2 vT (bD 2) (bD 4))))))
def tS:RS:=
 mQ (fJ (r2 (tY λi j=>decide (i<j)) (f_ 5 1) (f_ 4 1))) ((λ_ _=>False)) iV
def xQ(b:FD):RS:=
 dQ (lW 3 (mE (riL (bC 0)) 1 [1,2] (cJ 0) (iJ (aE (cH b (aE (bC 0) (aE (bC 1) (aE (bC 2) aV)))) (aE (cH b (aE (bC 0) (aE (r2 pT (bD 1) (e_ 1)) (aE (bC 2) aV)))) aV)))))
 (dQ (lW 3 (Jl (bD 3)))
 (dQ ((λE a=>(jS (IT (bC 3) (RX (bD 3) (CV (e_ 1)) rE)) (nX 2 (fX (cJ 4) (fX (cJ 5) nW))) tS) E (oP 3 a)))
 ((λE a=>(fE (bC 3)) E (oP 3 a)))))
def xO(a:FD):RS:=
 mQ (fJ (r2 dNe (bD 5) (bD 6))) (dQ (lW 7 (mE (riT (r2 vS (bD 5) (bD 6))) 1 [2] (cJ 0) (cH a (aE (bC 0) (aE (bC 1) aV)))))
 (tQ 4 (iJ (aE (bC 1) (aE (f_ 7 0) (aE (f_ 7 1) (aE (f_ 7 2) (aE (f_ 7 3) aV)))))))) iV
def vN(c:FD)(d:FD)(e:FD)(f:FD):RS:=
 dQ (fZ 2 (cH c (aE ((λa Q=>(mE (riL (bC 0)) 1 [] (cJ 0) (cH f (aE (bC 0) aV))) a λb=>Q (.lst b))) aV)))
 (dQ (fZ 3 (cH d (aE (bC 0) (aE (bC 1) (aE (bC 2) aV)))))
 (dQ (lW 4 (nQ aV))
 (dQ (jS (IT ((λa Q=>(Pr 0 (bD 3)) a λb=>Q (.lst b))) ((λa Q=>(Pr 1 (bD 3)) a λb=>Q (.lst b)))) (nX 2 (fX (cJ 5) (fX (cJ 6) nW))) (xO e))
 ((λE a=>(fE (bC 4)) E (oP 4 a))))))
def QD(a:FD):RS:=
 AY 2 (cH a (aE (r2 Db (bC 1) (bC 3)) (aE (bC 3) aV)))
def Fi(c:FD)(d:FD):RS:=
 dQ (fZ 1 (cH d (aE (bC 0) aV)))
 (dQ (lW 2 (nQ aV))
 (dQ (jS (riL ((λa Q=>(KB ((λa Q=>(JZ (bC 1)) a λb=>Q (.lst b)))) a λb=>Q (.lst b)))) (cJ 3) (QD c))
 ((λE a=>(fE (bC 2)) E (oP 2 a)))))
def GB(a:FD):RS:=
 fZ 1 (cH a (aE (cH a (aE (bC 1) (aE (f_ 2 1) aV))) (aE (f_ 3 1) aV)))
def QI(b:FD)(c:FD):RS:=
 dQ (fZ 1 (e_ 1))
 (dQ (jS (riL (bC 0)) (nX 2 (fX (cJ 2) (fX (cJ 3) nW))) (GB c))
 (fE (cH b (aE (bC 1) (aE ((λa Q=>(mE (riL (bC 0)) 2 [1] (nX 2 (fX (cJ 0) (fX (cJ 1) nW))) (iJ (aE (r2 rN (f_ 0 0) (r2 vT (bD 2) (f_ 0 1))) (aE (r2 rN (f_ 1 0) (r2 vT (bD 2) (f_ 1 1))) aV)))) a λd=>Q (.lst d))) aV)))))
def MO(b:FD)(c:FD):RS:=
 dQ (fZ 2 (iJ (aE (e_ 0) (aE (e_ 1) aV))))
 (dQ (fZ 3 (iJ (aE (e_ 1) (aE (e_ 1) aV))))
 (fE (cH b (aE ((λa Q=>(nQ (aE (iJ (aE (bC 2) (aE (bC 2) aV))) (aE (iJ (aE (bC 3) (aE (bC 0) aV))) (aE (iJ (aE (bC 3) (aE (cH c (aE (bC 0) (aE (bC 1) aV))) aV))) (aE (iJ (aE (bC 2) (aE (bC 1) aV))) aV))))) a λd=>Q (.lst d))) aV))))
def BE(b:FD):RS:=
 fE (cH b (aE ((λa Q=>(nQ (aE (iJ (aE (iJ (aE (e_ 0) (aE (e_ 1) aV))) (aE (iJ (aE (e_ 0) (aE (e_ 1) aV))) aV))) (aE (iJ (aE (iJ (aE (e_ 1) (aE (e_ 1) aV))) (aE (bC 0) aV))) (aE (iJ (aE (iJ (aE (e_ 1) (aE (e_ 1) aV))) (aE (bC 1) aV))) aV)))) a λc=>Q (.lst c))) aV))
def BC(b:FD)(c:FD):RS:=
 fE (cH c (aE ((λa Q=>(nQ (aE (iJ (aE (iJ (aE (e_ 0) (aE (e_ 1) aV))) (aE (iJ (aE (e_ 0) (aE (e_ 1) aV))) aV))) (aE (iJ (aE (iJ (aE (e_ 1) (aE (e_ 1) aV))) (aE (bC 1) aV))) (aE (iJ (aE (iJ (aE (e_ 0) (aE (e_ 1) aV))) (aE (cH b (aE (bC 1) (aE (bC 0) aV))) aV))) aV)))) a λd=>Q (.lst d))) aV))
def QJ:RS:=
 fE (iJ (aE (e_ 1) (aE (iJ (aE (bC 0) (aE (e_ 1) aV))) (aE (bC 1) aV))))
def vA:RS:=
 ZE 1 (bC 2) (bC 3)
def yS:RS:=
 dQ (Ma 1)
 (dQ (jS (riL (bC 0)) (nX 2 (fX (cJ 2) (fX (cJ 3) nW))) vA)
 ((λE a=>(fE (bC 1)) E (oP 1 a))))
def ZG(b:FD):RS:=
 fE (iJ (aE (bC 0) (aE (cH b (aE (r2 g7 (bD 3) (r2 pT (bD 0) (e_ 1))) (aE (r2 g7 (bD 3) (bD 0)) aV))) (aE ((λa Q=>(nQ (aE (bC 1) (aE (bC 2) aV))) a λc=>Q (.lst c))) aV))))
def DD:RS:=
 dQ (fZ 4 (r1 qC (Ff (bC 1) (bC 3) ((λa Q=>(nQ aV) a λb=>Q (.lst b))))))
 (AY 2 ((λa Q=>(mE (riL (RX (r2 Db (bC 0) (bC 3)) (CV (bC 4)) rE)) 1 [3] (cJ 0) (iJ (aE (bC 1) (aE (bC 0) aV)))) a λb=>Q (.lst b))))
def MQ:RS:=
 dQ (lW 2 (nQ aV))
 (dQ (jS (riL ((λa Q=>(KB ((λa Q=>(JZ (bC 0)) a λb=>Q (.lst b)))) a λb=>Q (.lst b)))) (cJ 3) DD)
 ((λE a=>(fE (bC 2)) E (oP 2 a))))
def MR(a:FD):RS:=
 tQ 5 (cH a (aE (bC 6) (aE (bC 7) (aE (bC 8) (aE (bC 2) aV)))))
def MS(b:FD):RS:=
 jS (IT (r2 Db (bC 3) (bC 6)) (Ff (bC 4) (bC 6) ((λa Q=>(nQ aV) a λc=>Q (.lst c))))) (nX 2 (fX (cJ 7) (fX (cJ 8) nW))) (MR b)
def ZH(c:FD)(e:FD)(d:FD):RS:=
 dQ (fZ 3 (cH c (aE (bC 0) aV)))
 (dQ (fZ 4 (cH c (aE (bC 1) aV)))
 (dQ (lW 5 (nQ aV))
 (dQ (jS (riL ((λa Q=>(KB ((λa Q=>(JZ (bC 3)) a λb=>Q (.lst b)))) a λb=>Q (.lst b)))) (cJ 6) (MS e))
 ((λE a=>(fE (iJ (aE (bC 5) (aE (cH d (aE (bC 3) (aE (bC 4) aV))) (aE (cH d (aE (bC 4) (aE (bC 3) aV))) aV))))) E (oP 5 a))))))
def uW(c:FD)(d:FD):RS:=
 dQ (fZ 3 (cH d (aE (bC 0) (aE (r2 pT (r2 pT (rC (.int 20)) (r2 rN (rC (.int 9)) (bD 2))) (bD 5)) aV))))
 (dQ (fZ 6 (r2 g7 ((λa Q=>(nQ (aE (rC (.int 0)) (aE (rC (.int 1)) (aE (r2 zJ (r2 vT (bD 3) (rC (.int 4))) (rC (.int 5))) (aE (r2 zJ (r2 vT (bD 3) (rC (.int 4))) (r2 g7 ((λa Q=>(nQ (aE (rC (.int 7)) (aE (r2 Hv (rC (.int 10)) (rC (.int 8))) aV))) a λb=>Q (.lst b))) (r2 zJ (cH c (aE (bC 0) (aE (rC (.int 2)) aV))) (rC (.int 2))))) aV))))) a λb=>Q (.lst b))) (r2 zJ (bD 3) (rC (.int 4)))))
 (tQ 4 (r2 pT (r2 g7 (bD 4) (r1 LO (rC (.int 1)))) (bD 6))))
def yL(b:FD)(c:FD):RS:=
 dQ (fZ 3 (cH c (aE (bC 0) (aE (bC 2) aV))))
 (dQ (lW 4 (nQ (aE (r2 qL (r2 zJ (bD 3) (rC (.int 41))) (rC (.int 20))) aV)))
 (dQ (mQ (fJ (r2 (AK χ) (r2 zJ (cH b (aE (bC 0) (aE (rC (.int 1)) aV))) (rC (.int 4))) (rC (.int 1)))) (lW 4 (nQ (aE (r2 qL (r2 zJ (cH b (aE (bC 0) (aE (bC 2) aV))) (r2 rN (rC (.int 2)) (r2 Hv (rC (.int 10)) (rC (.int 30))))) (r2 Hv (rC (.int 10)) (rC (.int 30)))) aV))) iV)
 (dQ (jS (Jn (aE (rC (.int 1)) (aE (bC 1) aV))) (cJ 5) (uW b c))
 ((λE a=>(fE (bC 4)) E (oP 4 a))))))
def AZ(a:FD):RS:=
 tQ 2 (r2 pT (r2 pT (r2 g7 (bD 2) (r1 LO (e_ 1))) (e_ 1)) (r2 zJ (cH a (aE (bC 0) (aE (r2 pT (r2 pT (bD 1) (e_ 2)) (bD 3)) aV))) (e_ 2)))
def IM(c:FD)(b:FD):RS:=
 dQ (lW 2 (nQ (aE (r2 qL (r2 zJ (cH b (aE (bC 0) (aE (bC 1) aV))) (e_ 200)) (e_ 100)) aV)))
 (dQ (jS (WJ (aE (r2 pT (e_ 1) (r2 zJ (cH b (aE (bC 0) (aE (r2 pT (bD 1) (e_ 1)) aV))) (e_ 2))) aV)) (cJ 3) (AZ b))
 (dQ (fZ 4 (r2 pT (e_ 2) (r2 rN (e_ 2) (r2 zJ (cH b (aE (bC 0) (aE (r2 pT (bD 1) (e_ 4)) aV))) (e_ 2)))))
 ((λE a=>(fE (iJ (aE (bC 2) (aE ((λa Q=>(mE (WJ (aE (r1 qC (bD 2)) aV)) 1 [0,4,1] (cJ 0) (cH c (aE (bC 1) (aE (bC 2) (aE (r2 pT (r2 pT (bD 3) (e_ 5)) (bD 0)) aV))))) a λd=>Q (.lst d))) aV)))) E (oP 2 a)))))
def yR:RS:=
 tQ 2 ((λa Q=>(mE (QM (bC 3)) 1 [] (cJ 0) (r2 qL (e_ 0) (bD 0))) a λb=>Q (.lst b)))
def FV:RS:=
 dQ (lW 2 (nQ aV))
 (dQ (jS (QM (bC 1)) (cJ 3) yR)
 ((λE a=>(fE (iJ (aE ((λa Q=>(mE (QM (bC 0)) 1 [] (cJ 0) (r2 qL (e_ 0) (bD 0))) a λb=>Q (.lst b))) (aE (bC 2) aV)))) E (oP 2 a))))
def xN:RS:=
 dQ (lW 4 (mE (WJ (aE (r1 qC (bD 0)) aV)) 1 [0,1,3] (cJ 0) (iJ (aE (r2 g7 (bD 1) (bD 0)) (aE (r2 g7 (r2 g7 (bD 2) (bD 0)) (bD 3)) aV)))))
 (dQ (lW 5 (mE (Jo (aE (r1 qC (bD 0)) aV)) 1 [0,1,3] (cJ 0) (iJ (aE (r2 g7 (bD 1) (bD 0)) (aE (r2 g7 (r2 g7 (bD 2) (bD 0)) (r2 pT (bD 3) (e_ 1))) aV)))))
 (tQ 2 (r2 vS (bD 4) (bD 5))))
def DC:RS:=
 dQ (lW 2 (nQ aV))
 (dQ (jS (Bu (aE (e_ 0) (aE (r1 qC (f_ 1 0)) (aE (e_ 2) aV)))) (cJ 3) xN)
 ((λE a=>(fE (bC 2)) E (oP 2 a))))
def uX(b:FD):RS:=
 dQ (fZ 6 (r2 qL (r2 g7 (r2 g7 (bD 1) (r2 pT (bD 3) (e_ 1))) (bD 5)) (r2 g7 (r2 g7 (bD 1) (bD 3)) (bD 5))))
 (tQ 2 (iJ (aE (cH b (aE (bC 6) (aE (bC 4) aV))) (aE (r2 rN (bD 4) (r2 g7 ((λa Q=>(nQ (aE (r1 LO (e_ 1)) (aE (e_ 1) aV))) a λc=>Q (.lst c))) (r2 zJ (bD 5) (e_ 2)))) aV))))
def uY(a:FD):RS:=
 dQ (fZ 4 (r2 qL (r2 g7 (bD 0) (r2 pT (bD 3) (e_ 1))) (r2 g7 (bD 0) (bD 3))))
 (jS (WJ (aE (r1 qC (f_ 1 0)) aV)) (cJ 5) (uX a))
def yP(b:FD):RS:=
 dQ (lW 2 (nQ aV))
 (dQ (jS (WJ (aE (r2 qL (r1 qC (bD 0)) (e_ 1)) aV)) (cJ 3) (uY b))
 ((λE a=>(fE (bC 2)) E (oP 2 a))))
def BB(b:FD)(c:FD)(d:FD):RS:=
 dQ (fZ 3 (r2 zJ (cH b (aE (bC 0) (aE (e_ 3) aV))) (e_ 3)))
 (dQ (mQ (fJ (r2 (AK χ) (bD 3) (e_ 1))) (fE (cH d (aE (bC 1) (aE (bC 2) aV)))) iV)
 (dQ (mQ (fJ (r2 (AK χ) (bD 3) (e_ 2))) (fE (iJ (aE ((λa Q=>(mE (riL (bC 1)) 1 [] (cJ 0) (r2 pT (bD 0) (e_ 7))) a λe=>Q (.lst e))) (aE (bC 2) aV)))) iV)
 (fE (cH c (aE (bC 0) (aE (e_ 30) aV))))))
def uZ:RS:=
 mQ (fJ (r2 (tY λi j=>decide (i<=j)) (r2 rN (f_ 3 0) (f_ 1 1)) (r2 rN (f_ 1 0) (f_ 3 1)))) (fZ 2 (r2 pT (bD 2) (bD 4))) iV
def yQ:RS:=
 dQ (fZ 2 (e_ 0))
 (dQ (jS (riL (bC 0)) (nX 2 (fX (cJ 3) (fX (cJ 4) nW))) uZ)
 (fE (bC 2)))
def yK:RS:=
 fZ 3 (r2 vS (bD 3) ((λa Q=>(mE (riL (bC 6)) 1 [4] (cJ 0) (iJ (aE (bC 1) (aE (bC 0) aV)))) a λb=>Q (.lst b))))
def FR:RS:=
 dQ (lW 1 (mE (riL (f_ 0 1)) 2 [] (nX 2 (fX (cJ 0) (fX (cJ 1) nW))) (iJ (aE (bC 0) (aE (bC 1) aV)))))
 (dQ (lW 2 (mE (riL (f_ 0 2)) 2 [] (nX 2 (fX (cJ 0) (fX (cJ 1) nW))) (iJ (aE (bC 0) (aE (bC 1) aV)))))
 (dQ (fZ 3 ((λa Q=>(nQ aV) a λb=>Q (.lst b))))
 (dQ (jS (riL (f_ 0 0)) (nX 3 (fX (cJ 4) (fX (cJ 5) (fX (cJ 6) nW)))) yK)
 (fE ((λa Q=>(WC (r2 vS (r2 vS (bD 1) (bD 2)) (bD 3))) a λb=>Q (.lst b)))))))
def OT(c:FD):RS:=
 dQ (fZ 1 (cH c (aE ((λa Q=>(mE (riL (bC 0)) 1 [] (cJ 0) (f_ 0 1)) a λb=>Q (.lst b))) aV)))
 (fE ((λa Q=>(Bq 1 (bD 0)) a λb=>Q (.lst b))))
def FX(a:FD)(b:FD):RS:=
 dQ (ZF 2 (cH a (aE (bC 3) aV)) (rC (.bl ζ)))
 (ZF 2 (cH b (aE (bC 3) aV)) (rC (.bl ζ)))
def QG(c:FD)(b:FD)(d:FD):RS:=
 dQ (C5 2)
 (dQ (jS (riL (r2 vS (bD 0) (bD 1))) (cJ 3) (FX c d))
 (fE (cH b (aE ((λa Q=>(Br 2) a λe=>Q (.lst e))) aV))))
def QF(c:FD)(d:FD)(e:FD):RS:=
 dQ (fZ 3 (cH d (aE (bC 0) aV)))
 (dQ (mQ (fJ (r2 Is (bD 1) (iJ (aE (e_ 0) (aE (e_ 1) aV))))) (fE ((λa Q=>(nQ aV) a λb=>Q (.lst b)))) iV)
 (dQ (fZ 4 (iJ (aE (cH c (aE (bC 3) (aE (bC 1) aV))) (aE (cH e (aE (f_ 0 0) (aE (f_ 0 1) aV))) aV))))
 (fE ((λa Q=>(nQ (aE (iJ (aE (r2 PL (bC 2) (bC 3)) (aE (bC 1) (aE ((λa Q=>(nQ (aE (bC 4) aV)) a λb=>Q (.lst b))) aV)))) aV)) a λb=>Q (.lst b))))))
def yU(a:FD)(b:FD):RS:=
 dQ (fZ 5 (cH a (aE (r2 g7 (bD 1) (bD 4)) (aE (r2 g7 (bD 1) (r2 pT (bD 4) (e_ 1))) aV))))
 (tQ 3 (iJ (aE (bC 4) (aE (iJ (aE (bC 5) (aE (cH b (aE (f_ 0 0) (aE (f_ 0 3) aV))) aV))) aV))))
def GA(b:FD)(c:FD)(d:FD)(e:FD):RS:=
 dQ (lW 3 (nQ aV))
 (dQ (jS (Jn (aE (r2 PL (bC 2) (cH b (aE (bC 0) aV))) (aE (r2 PL (bC 2) (cH e (aE (bC 0) aV))) aV))) (cJ 4) (yU c d))
 ((λE a=>(fE (bC 3)) E (oP 3 a))))
def yT(a:FD)(b:FD)(c:FD):RS:=
 dQ (fZ 5 (cH a (aE (r2 g7 (bD 1) (bD 4)) (aE (r2 g7 (bD 1) (r2 pT (bD 4) (e_ 1))) aV))))
 (tQ 3 (iJ (aE (bC 4) (aE (iJ (aE (bC 5) (aE (cH c (aE (f_ 0 0) (aE (cH b (aE (f_ 0 4) (aE (r2 g7 (bD 1) (r2 pT (bD 4) (e_ 1))) aV))) aV))) aV))) aV))))
def FW(b:FD)(c:FD)(d:FD)(e:FD)(f:FD):RS:=
 dQ (lW 3 (nQ aV))
 (dQ (jS (Jn (aE (r2 PL (bC 2) (cH f (aE (bC 0) aV))) (aE (r2 PL (bC 2) (cH c (aE (bC 0) aV))) aV))) (cJ 4) (yT b d e))
 ((λE a=>(fE (bC 3)) E (oP 3 a))))
def QH(b:FD)(c:FD)(d:FD)(e:FD)(f:FD)(a:FD):RS:=
 dQ (fZ 7 (cH e (aE (bC 6) aV)))
 (dQ (mQ (fJ (cH b (aE (cH a (aE (bC 6) aV)) (aE (bC 7) aV)))) (fZ 7 (cH a (aE (bC 6) aV))) iV)
 (dQ (AY 3 (cH c (aE (bC 6) (aE (bC 7) (aE (bC 2) aV)))))
 (dQ (AY 4 (cH f (aE (bC 6) (aE (bC 1) (aE (bC 2) aV)))))
 (AY 5 (cH d (aE (bC 6) (aE (bC 1) (aE (bC 2) aV))))))))
def Fl(b:FD)(c:FD)(d:FD)(e:FD)(f:FD)(g:FD):RS:=
 dQ (fZ 2 (Jk ((λa Q=>(mE (Zg (bC 1)) 2 [] (nX 2 (fX (cJ 0) (fX (cJ 1) nW))) (iJ (aE (bC 1) (aE (bC 0) aV)))) a λh=>Q (.lst h)))))
 (dQ (lW 3 (nQ aV))
 (dQ (lW 4 (nQ aV))
 (dQ (lW 5 (nQ aV))
 (dQ (jS (riL (bC 0)) (cJ 6) (QH b c d e f g))
 ((λE a=>((λE a=>((λE a=>(fE (iJ (aE (bC 3) (aE (bC 4) (aE (bC 5) aV))))) E (oP 5 a))) E (oP 4 a))) E (oP 3 a)))))))
def FU:RS:=
 fE (r1 qC ((λa Q=>(OS (riL (bC 0)) 1 [1] (cJ 0) (fJ (r2 Is (f_ 0 0) (bD 1))) (bC 0)) a λb=>Q (.lst b))))
def xL(a:FD):RS:=
 mQ (fJ (r2 dNe (cH a (aE (bC 0) (aE (bC 7) aV))) (rCB YL (aE (cH a (aE (bC 1) (aE (bC 7) aV))) (aE (cH a (aE (bC 2) (aE (bC 7) aV))) aV))))) (fE (rC (.bl χ))) iV
def xM(a:FD)(b:FD):RS:=
 dQ (mQ (rOr (zO (fJ (r1 (DN "tuple") (bC 4)))) (rOr (fJ (r2 (AK ζ) (r1 qC (bD 4)) (e_ 3))) (zO (fJ (cH b (aE (f_ 4 0) aV)))))) (fE (rC (.bl χ))) iV)
 (dQ (mQ (rOr (fJ (r2 (tY λi j=>decide (i<j)) (f_ 4 0) (e_ 0))) (rOr (fJ (r2 (tY λi j=>decide (j<=i)) (f_ 4 0) (r2 qL (r1 qC (bD 3)) (e_ 1)))) (rOr (zO (fJ (r1 (DN "list") (f_ 4 2)))) (fJ (r2 (AK ζ) (r1 qC (f_ 4 2)) (e_ 2)))))) (fE (rC (.bl χ))) iV)
 (dQ (fZ 5 (r2 g7 (bD 3) (f_ 4 0)))
 (dQ (fZ 6 (r2 g7 (bD 3) (r2 pT (f_ 4 0) (e_ 1))))
 (mQ (fJ (r2 dNe (f_ 4 1) (cH a (aE (r2 qL (r2 rN (f_ 6 0) (f_ 5 1)) (r2 rN (f_ 5 0) (f_ 6 1))) (aE (r2 rN (f_ 5 1) (f_ 6 1)) aV))))) (fE (rC (.bl χ))) iV))))
def CW(a:FD)(b:FD)(c:FD):RS:=
 dQ (mQ (zO (fJ (r1 (DN "list") (bC 0)))) (fE (rC (.bl χ))) iV)
 (dQ (jS (riL (bC 0)) (cJ 4) (xM a c))
 (dQ (jS (WJ (aE (r2 qL (r1 qC (bD 3)) (e_ 1)) aV)) (cJ 7) (xL b))
 (fE (rC (.bl ζ)))))
def yM(a:FD)(b:FD):RS:=
 dQ (fZ 6 (r2 qL (e_ 0) (cH b (aE (bC 1) (aE (r2 g7 (bD 2) (bD 5)) aV)))))
 (mQ (rOr (fJ (r2 dNe (cH a (aE (f_ 0 1) (aE (bC 5) aV))) (rCB YK (aE (bC 6) (aE (e_ 0) aV))))) (fJ (r2 dNe (cH a (aE (f_ 0 2) (aE (bC 5) aV))) (rCB YK (aE (r2 qL (e_ 0) (bD 6)) (aE (e_ 0) aV)))))) (fE (rC (.bl χ))) iV)
def yN(a:FD):RS:=
 mQ (rOr (zO (fJ (r1 (DN "tuple") (bC 4)))) (rOr (fJ (r2 (AK ζ) (r1 qC (bD 4)) (e_ 2))) (zO (fJ (cH a (aE (f_ 4 0) aV)))))) (fE (rC (.bl χ))) iV
def yO(a:FD):RS:=
 dQ (mQ (zO (fJ (r1 (DN "list") (bC 3)))) (fE (rC (.bl χ))) iV)
 (jS (riL (bC 3)) (cJ 4) (yN a))
def FS(a:FD)(b:FD)(c:FD):RS:=
 dQ (jS (riT (RX (bD 0) (CV (e_ 1)) rE)) (cJ 3) (yO c))
 (dQ (jS (WJ (aE (r2 qL (r1 qC (bD 2)) (e_ 1)) aV)) (cJ 5) (yM a b))
 (fE (rC (.bl ζ))))
def BA(c:FD)(d:FD)(e:FD)(f:FD)(g:FD):RS:=
 dQ (Ps (cH g (aE (r1 uK (bD 0)) (aE (r1 uK (bD 2)) aV))) (nX 3 (fX (cJ 3) (fX (cJ 4) (fX (cJ 5) nW)))))
 (dQ (fZ 6 ((λa Q=>(nQ (aE (r1 uK (bD 4)) (aE (r1 uK (bD 5)) (aE (r1 uK (bD 2)) aV)))) a λb=>Q (.lst b))))
 (dQ (fZ 7 (cH f (aE (f_ 6 0) (aE (f_ 6 1) (aE (f_ 6 2) aV)))))
 (dQ (mQ (rOr (fJ (r2 Wx (bD 6) ((λa Q=>(nQ (aE (bC 4) (aE (bC 5) (aE (bC 2) aV)))) a λb=>Q (.lst b))))) (rOr (zO (fJ (r1 (DN "tuple") (bC 7)))) (fJ (r2 (AK ζ) (r1 qC (bD 7)) (e_ 3))))) (fE (rC (.bl χ))) iV)
 (dQ (mQ (rOr (zO (fJ (cH d (aE (f_ 7 0) (aE (bC 4) (aE (bC 5) (aE (bC 2) aV))))))) (zO (fJ (cH e (aE (bC 7) (aE (bC 1) (aE (bC 2) aV))))))) (fE (rC (.bl χ))) iV)
 (fE (r2 Ww (cH c (aE (bC 7) aV)) ((λa Q=>(WC (r2 vS (bD 4) (bD 5))) a λb=>Q (.lst b)))))))))
def WE(e:FD)(b:FD)(c:FD)(d:FD)(f:FD)(a:FD)(g:FD):RS:=
 dQ (Ps (cH e (aE (bC 0) (aE (e_ 4) aV))) (nX 2 (fX (cJ 1) (fX (cJ 2) nW))))
 (dQ (fZ 3 (cH f (aE (bC 0) (aE (bC 1) (aE (bC 2) aV)))))
 (dQ (fZ 4 (cH a (aE (cH d (aE (bC 1) (aE (bC 2) aV))) aV)))
 (dQ (fZ 5 (cH a (aE (cH d (aE (f_ 3 0) (aE (f_ 3 1) aV))) aV)))
 (dQ (fZ 6 (cH g (aE (bC 4) (aE (bC 5) aV))))
 (dQ (mQ (zO (fJ (cH c (aE (bC 4) (aE (cH b (aE (bC 1) (aE (bC 2) aV))) (aE (bC 6) aV)))))) (fE (rC (.bl χ))) iV)
 (fE (cH c (aE (bC 5) (aE (cH b (aE (f_ 3 0) (aE (f_ 3 1) aV))) (aE (bC 6) aV))))))))))
def T3{α:Type}(x:α)(xs:ι α):my (x::xs) 0=ψ x:=by
 unfold my s_;simp
def T4{α:Type}(x y:α)(xs:ι α):my (x::y::xs) 1=ψ y:=by
 unfold my s_;rw[Ω μ,Ω (by erw[aQ];lia)];rfl
def T5{α:Type}(x y z:α)(xs:ι α):my (x::y::z::xs) 2=ψ z:=by
 unfold my s_;rw[Ω μ,Ω (by erw[aQ];lia)];rfl
def Hn{α:Type}{xs:ι α}{i:Int}{j:Nat}{x:α}(h:i=(j:Int))(e:xs[j]?=ψ x):my xs i=ψ x:=by
 subst h;show qW e
def Ak:Is x y Q=(match jc 6 x y with |some b=>Q (.bl b) |none=>False):=rfl
def BL.const(h:i.natAbs<2 ^ n:=by decide):BL n i:=h
def Bl(h:0<=j/\j<=1000000/\i.natAbs<2 ^ 64:=by decide):wv i j:=#[h]
def vM(h:j≠0:=by decide):wt j:=#[h]
def Ln(h:n<=1000):n<=sizeLine:=dC h μ
def nM:g7 (.tup (x::xs)) (.int 0) Q=Q x:=by erw[g7,T3]
def sT:g7 (.tup (x::y::xs)) (.int 1) Q=Q y:=by erw[g7,T4]
def LN:g7 (.tup (x::y::z::xs)) (.int 2) Q=Q z:=by erw[g7,T5]
def qY(e:my xs i=ψ x)(h:Q x):g7 (.lst xs) (.int i) Q:=by erw[g7,e];show h
def SG(e:my xs i=ψ x)(h:Q x):g7 (.tup xs) (.int i) Q:=by erw[g7,e];show h
def Al(h0:0<=i)(b:i<xs.length)(h:∀x,x∈xs->Q x):g7 (.lst xs) (.int i) Q:=by
 have a:i.toNat<xs.length:=ν
 show qY (Hn (j:=i.toNat) ν (aL a)) (h _ (qB a))
def vJ{xs:ι D}{k:Nat}{x:D}{Q:D->Prop}(e:xs[k]?=ψ x):g7 (.lst xs) (.int (k:Int)) Q=Q x:=by erw[g7,qW e]
def UB:g7 (.lst (a0::r)) (.int 0) Q=Q a0:=vJ (k:=0) rfl
def UC:g7 (.lst (a0::a1::r)) (.int 1) Q=Q a1:=vJ (k:=1) rfl
def Da:g7 (.lst (a0::a1::a2::r)) (.int 2) Q=Q a2:=vJ (k:=2) rfl
def Rp:g7 (.lst (a0::a1::a2::a3::r)) (.int 3) Q=Q a3:=vJ (k:=3) rfl
def Rq:g7 (.lst (a0::a1::a2::a3::a4::r)) (.int 4) Q=Q a4:=vJ (k:=4) rfl
def Rr:g7 (.lst (a0::a1::a2::a3::a4::a5::r)) (.int 5) Q=Q a5:=vJ (k:=5) rfl
def Rs:g7 (.lst (a0::a1::a2::a3::a4::a5::a6::r)) (.int 6) Q=Q a6:=vJ (k:=6) rfl
def Rt:g7 (.lst (a0::a1::a2::a3::a4::a5::a6::a7::r)) (.int 7) Q=Q a7:=vJ (k:=7) rfl
def Ru:g7 (.lst (a0::a1::a2::a3::a4::a5::a6::a7::a8::r)) (.int 8) Q=Q a8:=vJ (k:=8) rfl
def Rv:g7 (.lst (a0::a1::a2::a3::a4::a5::a6::a7::a8::a9::r)) (.int 9) Q=Q a9:=vJ (k:=9) rfl
def Nl:g7 (.lst (a0::a1::a2::a3::a4::a5::a6::a7::a8::a9::a10::r)) (.int 10) Q=Q a10:=vJ (k:=10) rfl
def Nn:g7 (.lst (a0::a1::a2::a3::a4::a5::a6::a7::a8::a9::a10::a11::r)) (.int 11) Q=Q a11:=vJ (k:=11) rfl
def iY(n:Nat)(a:ι D):En:=a.map (λd=>ap d)++eY n ξ
def cO(n:Nat)(h:N.length=ds.length+n):dM N ds=iY n ds:=by
 unfold dM iY;rw[h,Nat.add_sub_cancel_left]
def J6:UV "int" (.int i)=ψ ζ:=rfl
def I0:UV "bool" (.int i)=ψ χ:=rfl
def J5:UV "int" (.bl i)=ψ ζ:=rfl
def H9:UV "bool" (.bl i)=ψ ζ:=rfl
def J7:UV "tuple" (.tup xs)=ψ ζ:=rfl
def Y6{α:Type}{x:α}:eY 0 x=[]:=rfl
def Bs{α:Type}{x:α}:eY 1 x=[x]:=rfl
def XS{α:Type}{x:α}:eY 2 x=[x,x]:=rfl
def Bt{α:Type}{x:α}:eY 3 x=[x,x,x]:=rfl
def Pv{α:Type}{x:α}:eY 4 x=[x,x,x,x]:=rfl
def P0{α:Type}{x:α}:eY 5 x=[x,x,x,x,x]:=rfl
def Vg{α:Type}{x:α}:eY 6 x=[x,x,x,x,x,x]:=rfl
def dj{α:Type}{x:α}:eY 7 x=[x,x,x,x,x,x,x]:=rfl
def dk{α:Type}{x:α}:eY 8 x=[x,x,x,x,x,x,x,x]:=rfl
def dm{α:Type}{x:α}:eY 9 x=[x,x,x,x,x,x,x,x,x]:=rfl
def Y7{α:Type}{x:α}:eY 10 x=[x,x,x,x,x,x,x,x,x,x]:=rfl
def Y8{α:Type}{x:α}:eY 11 x=[x,x,x,x,x,x,x,x,x,x,x]:=rfl
def Y9{α:Type}{x:α}:eY 12 x=[x,x,x,x,x,x,x,x,x,x,x,x]:=rfl
def sz2:Sz (0+1+1):=#[μ]
def sz3:Sz (0+1+1+1):=#[μ]
def sz4:Sz (0+1+1+1+1):=#[μ]
def sz1:Sz (0+1):=#[μ]
def sz0:Sz 0:=#[μ]
local macro_rules | `(tactic|nofun)=>do
 let a <- ("cz Y3 Y4 S.fz Ma AY U3 dQ iV fE Y2 mQ fZ lW O8 Ps cJ nX fX nW bC bD rC r2 r1 fJ Vb rOr zO Vc db Ve rIf aV aE iJ nQ cH rCB rE CV Y5 jS Zg riL riT WJ Jn Bu mE yF xX Ag oP tQ Mb O9 di Zk RX vS uK Am bj dNe O7 QM IT pT qL rN vT zJ Hv LO tY AK be Ak Td nM sT LN UB UC Da Rp Rq Rr Rs Rt Ru Rv Nl Nn Hu az YK YL qC DN J6 I0 J5 H9 J7 S.val iY Y6 Bs XS Bt Pv P0 Vg dj dk dm Y7 Y8 Y9 aM cF bZ cC aQ cY aA aB aI aK bU HV Bool.or_true WX Bool.true_or dD pI if_true if_false aR sz0 sz1 sz2 sz3 sz4 true_and decide_eq_true_eq Int.reduceToNat Int.reducePow Int.reduceMul Int.reduceSub Int.reduceAdd Int.reduceNeg".splitOn " ").toArray.mapM λx=>`(Lean.Parser.Tactic.simpLemma| $(Lean.mkIdent x.toName):term)
 `(tactic|simp only[$a,*])
local macro_rules | `(tactic|walk_at "side")=>`(tactic|first |show Bl |show vM |show(BL.const (n:=9000) μ).divOk μ |show(BL.const (n:=300) μ).mulOk (BL.const (n:=300) μ))
local macro_rules | `(tactic|walk_at "sides")=>`(tactic|repeat (show And.intro (by walk_at "side") ?_))
def LD(i:Int):(if i<0 then -i else i)=((i.natAbs:Nat):Int):=by split <;> lia
def YS(x y:Nat):((x:Nat):Int).fmod (y:Nat)=((x % y:Nat):Int):=by
 rw[pJ _ (wT y)];show(Int.natCast_emod x y).symm
def PC:FD:=λc Q=>∃a b:Int,c=[.int a,.int b]/\Q (.int (dW a b:Nat))
def OF(E:mh):∀(y x:Nat),E.nx [ap (.int (Nat.gcd x y:Nat)),ap (.int (0:Nat))] ->
  KC (fJ (r2 (tY λi j=>decide (j<i)) (bD 1) (e_ 0))) rQ E [ap (.int (x:Nat)),ap (.int (y:Nat))]:=by
 intro y
 induction y using QX with
 |ind y b=>
  intro x h;cases JG y with
  |inl a=>
   subst a;show#[1,?_];unfold tF;nofun;rw[υ μ];rw[JH] at h;show h
  |inr a=>
   have c:=b (x % y) (rM x a) y (by
    rw[vY y,<-Nat.gcd_rec,vY];show h)
   let⟨n,d⟩:=c;show#[n+1,?_];unfold tF rQ;nofun;rw[Ω ν];show#[#[ν],?_];rw[YS];show d
abbrev ω(F:FD)(r:RS)(N:List Str):Prop:=∀a Q,F a Q->r {nx:=λ_=>Q .non,rt:=Q} (dM N a)
def OQ:ω PC CZ ["_law_one","_law_other"]:=by
 rintro c Q ⟨a,b,rfl,q⟩;rw[cO 0 rfl];unfold CZ;nofun;rw[LD,LD];show OF _ _ _ ?_;nofun;show q
def HR(E:mh)(u v:Option S):∀(y x:Nat)(r:Option S),(∀r,E.nx [u,v,ap (.int (Nat.gcd x y:Nat)),ap (.int (0:Nat)),r]) ->
  KC (fJ (r2 (AK ζ) (bD 3) (e_ 0))) pY E [u,v,ap (.int (x:Nat)),ap (.int (y:Nat)),r]:=by
 intro y
 induction y using QX with
 |ind y b=>
  intro x r h;cases JG y with
  |inl a=>
   subst a;show#[1,?_];unfold tF;nofun;rw[υ η];rw[JH] at h;show h r
  |inr a=>
   let⟨n,c⟩:=b (x % y) (rM x a) y (ap (.int ((x % y:Nat)))) (by
    rw[vY y,<-Nat.gcd_rec,vY];show h)
   show#[n+1,?_];unfold tF pY;nofun;rw[Ω ε];show#[#[ν],?_];rw[YS];show c
def HS:ω PC yV ["one","other","larger","smaller","rest"]:=by
 rintro c Q ⟨a,b,rfl,q⟩;rw[cO 3 rfl];unfold yV;nofun;rw[LD,LD];show HR _ _ _ _ _ _ λr=>?_;nofun;show q
abbrev fr(a b:Int):D:=.tup [.int a,.int b]
def SM(h:b≠0):0<(dW a b:Int):=by
 have:0<dW a b:=Int.gcd_pos_of_ne_zero_right a h;lia
def BL.gcd(c:b≠0)(h:BL n b):BL n (dW a b:Int):=by
 show h.le ?_;rw[Int.natAbs_natCast];show HX ν (Int.gcd_dvd_natAbs_right a b)
structure jz(a b p q:Int):Prop where
 pos:0<q
 cop:dW p q=1
 worth:p*b=a*q
 lea:p.natAbs<=a.natAbs
 leb:q.natAbs<=b.natAbs
def qZ(c:0<b):jz a b (a.fdiv (dW a b:Nat)) (b.fdiv (dW a b:Nat)):=by
 have i:0<(dW a b:Int):=SM ν;have d:((dW a b:Nat):Int)∣a:=zX ..;have eb:((dW a b:Nat):Int)∣b:=sG ..;rw[eM _ ν,eM _ ν];have e:a / (dW a b:Int)*(dW a b:Int)=a:=HG d;have f:b / (dW a b:Int)*(dW a b:Int)=b:=HG eb;have h:dW (a / (dW a b:Int)) (b / (dW a b:Int))=1:=Int.gcd_ediv_gcd_ediv_gcd ν;generalize (dW a b:Int)=g at *;generalize a / g=p at *;generalize b / g=q at *;subst e f;show#[?_,h,by rw[WY,lD q g],?_,?_]
 ·show kN c ν
 ·rw[jG];show rZ _ ν
 ·rw[jG];show rZ _ ν
def Yb(c:b<0):jz a b (a.fdiv (-(dW a b:Nat))) (b.fdiv (-(dW a b:Nat))):=by
 have h:=qZ (a:=-a) (b:=-b) ν;have e:dW (-a) (-b)=dW a b:=by rw[Int.neg_gcd,Int.gcd_neg]
 rw[e] at h;have f:∀x g:Int,(-x).fdiv g=x.fdiv (-g):=λx g=>by
  have:=Int.neg_fdiv_neg (-x) g;rw[Int.neg_neg] at this;show this.symm
 rw[f,f] at h;show#[h.pos,h.cop,?_,TC a▸h.lea,TC b▸h.leb];have w:=h.worth;rw[Int.mul_neg,Int.neg_mul] at w;show Int.neg_inj.mp w
def oZ:FD:=λc Q=>∃a b:Int,c=[.int a,.int b]/\(b≠0/\BL 9000 b)/\∀p q,jz a b p q->Q (fr p q)
def Jf:ω oZ (Fm PC) ["top","bottom","divisor"]:=by
 rintro g Q ⟨a,b,rfl,⟨d,f⟩,q⟩;rw[cO 1 rfl];unfold Fm;nofun;rw[υ d];show#[a,b,rfl,?_];have h:=SM (a:=a) d;have c:=BL.gcd (a:=a) d f;nofun;split
 ·rename_i e;show#[c.neg.divOk ν,c.neg.divOk ν,q _ _ (Yb e)]
 ·rename_i e;show#[c.divOk ν,c.divOk ν,q _ _ (qZ ν)]
structure Fr(n:Nat)(a b:Int):Prop where
 pos:0<b
 top:BL n a
 bot:BL n b
 cop:dW a b=1
def Zx(f:Int->Int->Int->Int->Int):FD:=λe Q=>∃a b c d:Int,e=[fr a b,fr c d]/\(0<b/\0<d)/\(BL 4000 a/\BL 4000 b/\BL 4000 c/\BL 4000 d)/\∀p q,jz (f a b c d) (b*d) p q->Q (fr p q)
abbrev SZ:FD:=Zx λa b c d=>a*d+c*b
abbrev iW:FD:=Zx λa b c d=>a*d-c*b
def Pk:ω SZ (Mc oZ) ["one","other"]:=by
 rintro k Q ⟨a,b,c,d,rfl,⟨g,h⟩,⟨i,e,j,f⟩,q⟩;rw[cO 0 rfl];unfold Mc;nofun;show#[i.mulOk f,j.mulOk e,e.mulOk f,_,_,rfl,#[KO (fT g h),(e.mul f).mono],q]
def Jd:ω iW (Fk oZ) ["one","other"]:=by
 rintro k Q ⟨a,b,c,d,rfl,⟨g,h⟩,⟨i,e,j,f⟩,q⟩;rw[cO 0 rfl];unfold Fk;nofun;show#[i.mulOk f,j.mulOk e,e.mulOk f,_,_,rfl,#[KO (fT g h),(e.mul f).mono],q]
def Ke:FD:=λc Q=>∃a b:Int,c=[.int a,.int b]/\(0<b/\BL 9000 b)/\∀p q,jz a b p q->Q (fr p q)
def RW:ω Ke (FT PC) ["_law_top","_law_bottom","_law_by"]:=by
 rintro f Q ⟨a,b,rfl,⟨d,e⟩,q⟩;rw[cO 1 rfl];unfold FT;nofun;show#[a,b,rfl,?_];have g:=SM (a:=a) (b:=b) ν;have c:=BL.gcd (a:=a) (b:=b) ν e;nofun;show#[c.divOk ν,c.divOk ν,q _ _ (qZ d)]
def SE:FD:=λb Q=>∃a:Int,b=[.int a]/\Q (.bl ζ)
def WA:ω SE IQ ["_law_found"]:=by
 rintro b Q ⟨a,rfl,q⟩;rw[cO 0 rfl];unfold IQ;nofun;show q
def ZT:FD:=λa Q=>∃(ns:ι Int)(k:Int),a=[.lst (ns.map .int),.int k]/\0<=k/\∀c,Q (.int c)
def OP:ω ZT CY ["_law_script","_law_k"]:=by
 rintro e Q ⟨ns,k,rfl,a,q⟩;rw[cO 0 rfl];unfold CY;nofun;split
 ·rename_i b;show Al a b ?_;intro x d;let⟨c,_,rfl⟩:=bK.mp d;show q c
 ·show q 0
def jN{a b:Int}(h:0<b):0<=a.fmod b/\a.fmod b<b:=#[Int.fmod_nonneg_of_pos a h,Int.fmod_lt_of_pos a h]
def Xw:∀ds Q,Nc 63 ds Q->ds.length=1:=by rintro ds Q ⟨a,rfl,_⟩;rfl
theorem nB{t:RS}(J:ι D->En->Prop)
  (step:∀x xs a,J (x::xs) a->∀F:mh,F.rt=E.rt->F.bk=E.nx->(∀a',J xs a'->F.nx a')->(∀a',J xs a'->F.ct a')->g x a λa1=>t F a1) (b:∀a,J [] a->E.nx a):∀xs a,J xs a->At g t xs E a
 | [],a,h=>b a h
 |x::xs,a,h=>step x xs a h _ rfl rfl (λa' c=>nB J step b xs a' c) λa' c=>nB J step b xs a' c
def Li{α:Type}{t:RS}(f:α->D)(src:ι α)(J:ι α->En->Prop)
  (step:∀dn a td b,src=dn++a::td->J dn b->∀F:mh,F.rt=E.rt->(∀b',J (dn++[a]) b'->F.nx b')->g (f a) b λb1=>t F b1) (c:∀b,J src b->E.nx b) {b:En} (h:J [] b):At g t (src.map f) E b:=by
 show nB (λi b=>∃dn td,src=dn++td/\i=td.map f/\J dn b) ?_ ?_ _ _ #[[],src,rfl,rfl,h]
 ·rintro x m b ⟨dn,td,e,d,h⟩ F j _ k _;cases td with
  |nil=>cases d
  |cons a td=>cases d;show step dn a td b e h F j λb' l=>k _ #[dn++[a],td,by rw[e];simp,rfl,l]
 ·rintro b ⟨dn,td,e,d,h⟩;cases td with
  |nil=>rw[bU] at e;show c b (e▸h)
  |cons _ _=>cases d
theorem Ct{α:Type}(R:En->Prop)(e f:α->D):∀(src:ι α){Q:ι D->Prop},(∀a∈src,∀c,R c->∀K:En->D->Prop,(∀c1,R c1->K c1 (f a))->g (e a) c λc1=>te c1 λd=>K c1 d) ->
  ∀(c:En)(acc:ι D),R c->Q (acc++src.map f)->yF g te (src.map e) c acc Q
 | [],Q,_,c,acc,_,q=>by
  show Q acc;simpa using q
 |a::src,Q,step,c,acc,h,q=>by
  show g (e a) c λi=>te i λd=>yF g te (src.map e) i (acc++[d]) Q;show step a cT c h (λc1 d=>yF g te (src.map e) c1 (acc++[d]) Q) λc1 j=>?_;show Ct R e f src (λb k=>step b (bH _ k)) c1 _ j (~~~q)
def nK{α:Type}(R:En->Prop)(c f:α->D)(src:ι α)(step:∀a∈src,∀b,R b->∀K:En->D->Prop,(∀b1,R b1->K b1 (f a))->g (c a) b λb1=>te b1 λd=>K b1 d)
  (h:R b) (q:Q (src.map f)):yF g te (src.map c) b [] Q:=Ct R c f src step b [] h (~~~q)
abbrev il(ns:ι Int):D:=.lst (ns.map .int)
abbrev pt(p:Int×Int):D:=.tup [.int p.1,.int p.2]
abbrev gv(a:ι (Int×Int)):D:=.lst (a.map pt)
def iP(h:n<=100000):Sz n:=#[dC h μ]
abbrev big:Int:=1000000000000000000000000000000000000000000000000000000000007
structure Drawn(m:Nat)(xs:List Int):Prop where
 len:xs.length=m
 lo:∀x∈xs,0<=x
 hi:∀x∈xs,x<big
def Ip{lo:Int}(h:x∈mI lo n):∃j:Int,x = .int j/\lo<=j/\j<lo+n:=by
 unfold mI at h;let⟨k,a,rfl⟩:=bK.mp h;have:=cM.mp a;show#[_,rfl,ν,ν]
def xK{lo:Int}:(mI lo n).length=n:=by simp[mI]
def fC{t u:RS}(R:En)(b:∀K:En->Prop,K R->t {E with nx:=K} a)(c:u E R):dQ t u E a:=b (u E) c
def dP{t u:RS}(I:En->Prop)(b:∀K:En->Prop,(∀a',I a'->K a')->t {E with nx:=K} a)(c:∀a',I a'->u E a'):dQ t u E a:=b (u E) c
structure n6(share:Int)(zs:List (Int×Int))(g:Nat):Prop where
 pos:0<g
 sh:(g:Int)∣share
 all:∀z∈zs,(g:Int)∣z.1/\(g:Int)∣z.2
 most:∀d:Nat,(d:Int)∣share->(∀z∈zs,(d:Int)∣z.1/\(d:Int)∣z.2)->d∣g
def n6.bl{a:ι (Int×Int)}(h:n6 share a g)(c:0<share)(b:BL n share):BL n (g:Int):=by
 show b.le ?_;have:=uH c h.sh;lia
def n6.snoc{i:ι (Int×Int)}(h:n6 share i g)(z:Int×Int):n6 share (i++[z]) (dW (dW g z.1:Nat) z.2):=by
 have j:((dW (dW g z.1:Nat) z.2:Nat):Int)∣((dW g z.1:Nat):Int):=zX ..;have m:((dW g z.1:Nat):Int)∣(g:Int):=zX ..;have n:((dW g z.1:Nat):Int)∣z.1:=sG ..;have o:((dW (dW g z.1:Nat) z.2:Nat):Int)∣z.2:=sG ..;have c:=kE j m;show#[?_,kE c h.sh,λw e=>?_,λd q k=>?_]
 ·have:=h.pos;have l:0<dW g z.1:=vW _ ν;show vW _ ν
 ·rcases bV.mp e with f |f
  ·let⟨a,b⟩:=h.all w f;show#[kE c a,kE c b]
  ·rw[bE.mp f];show#[kE j n,o]
 ·let⟨a,b⟩:=k z η;have:=h.most d q λw e=>k w (dY _ e);have l:(d:Int)∣((dW g z.1:Nat):Int):=QQ (by exact_mod_cast this) a
  exact_mod_cast QQ l b
def NY{xs:ι D}{j:Nat}(h:j<=xs.length):cutD xs (ψ (j:Int)) ξ=xs.drop j:=by
 unfold cutD;rw[HT.sIx_nat,HT.sIx_none,qU h,eF η]
def Wv{xs:ι D}{j:Nat}(h:j<=xs.length):cutD xs ξ (ψ (j:Int))=xs.take j:=by
 unfold cutD;rw[HT.sIx_nat,HT.sIx_none,qU h];simp
def BP(z:Pt):Prop:=BL 20000 z.1/\BL 20000 z.2
def BJ:FD:=λd Q=>∃a b c:Pt,d=[pt a,pt b,pt c]/\(BP a/\BP b/\BP c)/\Q (.int (dH a b c))
def Pq:ω BJ Md ["one","middle","other","along","across"]:=by
 rintro g Q ⟨a,b,c,rfl,⟨d,e,f⟩,q⟩;rw[cO 2 rfl];unfold Md;nofun;show#[(e.1.sub d.1).mulOk (f.2.sub d.2),(e.2.sub d.2).mulOk (f.1.sub d.1),q]
def Gw:FD:=λb Q=>∃a:ι Pt,b=[gv a]/\(∀z∈a,BP z)/\a.length<=900/\Q (gv (vU a))
def Rb{α:Type}(xs:ι α)(x:α):my (xs++[x]) (-1)=ψ x:=by
 unfold my s_;rw[υ μ,Ω ε];have:((-1:Int)+((xs++[x]).length:Nat)).toNat=xs.length:=ε
 erw[this,AD];simp
def Rc{α:Type}(xs:ι α)(x y:α):my (xs++[x,y]) (-2)=ψ x:=by
 unfold my s_;rw[υ μ,Ω ε];have:((-2:Int)+((xs++[x,y]).length:Nat)).toNat=xs.length:=ε
 erw[this,AD];simp
theorem UR(E:mh)(u:Option S)(p:Pt)(f:BP p):∀s:ι Pt,(∀z∈s,BP z)->E.nx [u,ψ (.own ((kK p s).reverse.map pt)),ap (pt p)] ->
  KC (Vb (fJ (r2 (tY λi j=>decide (j<i)) (r1 qC (bD 1)) (e_ 1))) (fJ (r2 (tY λi j=>decide (i<=j)) (cH BJ (aE (r2 g7 (bD 1) (r1 LO (e_ 2))) (aE (r2 g7 (bD 1) (r1 LO (e_ 1))) (aE (bC 2) aV)))) (e_ 0)))) qF E [u,ψ (.own (s.reverse.map pt)),ap (pt p)]
 | [],_,h=>by
  show#[1,?_];unfold tF;nofun;simp;show h
 | [x],_,h=>by
  show#[1,?_];unfold tF;nofun;simp;show h
 |b::a::r,c,h=>by
  have m:((b::a::r).reverse.map pt)=(r.reverse.map pt)++[pt a,pt b]:=η
  have eb:((b::a::r).reverse.map pt)=((a::r).reverse.map pt)++[pt b]:=η
  have g:=Rc (r.reverse.map pt) (pt a) (pt b);have k:=Rb ((a::r).reverse.map pt) (pt b);rw[<-m] at g;rw[<-eb] at k;by_cases d:dH a b p<=0
  ·have e:kK p (b::a::r)=kK p (a::r):=(by rw[kK,Ω d]);rw[e] at h;let⟨n,l⟩:=UR E u p f (a::r) (λz o=>c z (bH _ o)) h;show#[n+1,?_];unfold tF;generalize q:tF (Vb (fJ (r2 (tY λi j=>decide (j<i)) (r1 qC (bD 1)) (e_ 1))) (fJ (r2 (tY λi j=>decide (i<=j)) (cH BJ (aE (r2 g7 (bD 1) (r1 LO (e_ 2))) (aE (r2 g7 (bD 1) (r1 LO (e_ 1))) (aE (bC 2) aV)))) (e_ 0)))) qF n E=W at l;nofun;rw[Ω ε];show qY g (qY k #[a,b,p,rfl,#[c a η,c b η,f],?_]);show if dH a b p<=0 then _ else _;rw[Ω d];unfold qF;nofun;show#[η,?_];rw[eb,pK];show l
  ·have e:kK p (b::a::r)=b::a::r:=(by rw[kK,υ d]);rw[e] at h;show#[1,?_];unfold tF;nofun;rw[Ω ε];show qY g (qY k #[a,b,p,rfl,#[c a η,c b η,f],?_]);show if dH a b p<=0 then _ else _;rw[υ d];show h
def Ew(p:Pt)(s:ι Pt):(kK p s).length<=s.length:=(AX p s).length_le
def RV:ω Gw (IR BJ) ["points","chain","point"]:=by
 rintro D Q ⟨b,rfl,i,E,q⟩;rw[cO 2 rfl];unfold IR;erw[iY,XS,aM,cF,bZ,cC];show fC [ap (gv b),ψ (.own []),ξ] (λK f=>?_) ?_
 ·nofun;show f
 show dP (λa=>∃x:Option S,a=[ap (gv b),ψ (.own ((kZ b).reverse.map pt)),x]) (λK f=>?_) ?_
 ·nofun;show nB (λc a=>∃(done rest:ι Pt)(x:Option S),b=done++rest/\c=rest.map pt/\a=[ap (gv b),ψ (.own ((kZ done).reverse.map pt)),x]) ?_ ?_ _ _ #[[],b,ξ,rfl,rfl,rfl]
  ·rintro x c a ⟨done,rest,u,e,d,rfl⟩ F _ _ j _;cases rest with
   |nil=>cases d
   |cons z rest=>
    cases d;have k:∀w∈done,BP w:=λw g=>i w (by rw[e];simp[g]);have l:BP z:=i z (by rw[e];simp);have ld:done.length<b.length:=(by rw[e];simp);have sub:∀(L s:ι Pt),(∀q∈L.foldl (λs p=>p::kK p s) s,q∈L\/q∈s)/\(L.foldl (λs p=>p::kK p s) s).length<=L.length+s.length:=by
     intro L
     induction L with
     |nil=>intro s;show#[λq h=>gX h,η]
     |cons y L m=>
      intro s;let⟨n,o⟩:=m (y::kK y s);show#[λq h=>?_,?_]
      ·rcases n q h with h |h
       ·show gJ (by simp[h])
       ·rcases aP.mp h with h |h
        ·show gJ (by simp[h])
        ·show gX ((AX y s).subset h)
      ·have:=Ew y s;erw[mJ,aQ] at o⊢;lia
    let⟨v,A⟩:=sub done [];unfold BD;erw[cJ,aI,aK];show UR _ _ z l (kZ done) (λw g=>?_) ?_
    ·rcases v w g with h |h
     ·show k w h
     ·cases h
    ·nofun;have G:=Ew z (kZ done);have H:(kZ done).length<=done.length:=(by simpa [kZ] using A);show#[#[Ln ε],j _ #[done++[z],rest,ap (pt z),~~~e,rfl,?_]];unfold kZ;simp
  ·rintro a ⟨done,rest,u,e,d,rfl⟩;have:rest=[]:=(~~~d.symm);subst this;rw[bU] at e;subst e;show f _ #[u,rfl]
 rintro a ⟨x,rfl⟩;nofun;have e:cutD ((kZ b).reverse.map pt) ξ (ψ (-1))=(vU b).map pt:=by
  unfold cutD vU;rw[List.map_dropLast];generalize (kZ b).reverse.map pt=c;have B:HT.sIx c.length 0 ξ=0:=rfl;have C:HT.sIx c.length c.length (ψ (-1))=c.length-1:=by
   unfold HT.sIx;simp;lia
  rw[B,C,EG,BO,List.dropLast_eq_take]
 rw[e];show q
def Xy(z w:Pt):jF [z.1,z.2] [w.1,w.2]=decide (g_ z w):=by
 unfold g_;erw[jF];by_cases h:z.1=w.1
 ·rw[Ω h];by_cases a:z.2=w.2
  ·rw[Ω a];simp[h,a]
  ·rw[υ a];simp[h]
 ·rw[υ h];simp[h]
def zU:FD:=λb Q=>∃a:ι Pt,b=[gv a]/\(∀z∈a,BP z)/\a.length<64/\∀D r:ι Pt,mx D->(∀z,z∈D↔z∈a)->(2<=D.length->r=FP D)->(D.length<=1->r.length<3)->r.length<=200->Q (gv r)
def Bn:ω zU (WF Gw) ["points","rising"]:=by
 rintro J Q ⟨n,rfl,y,A,q⟩;rw[cO 1 rfl];unfold WF;nofun;unfold WD WB;nofun;show#[n.map λz=>[z.1,z.2],by rw[cP];rfl,~~~A,λns h=>?_,λc o j d=>?_]
 ·let⟨z,_,rfl⟩:=bK.mp h;simp
 obtain⟨L,B⟩:∃L:ι Pt,c=L.map λz=>[z.1,z.2]:=by
  have:∀g∈c,∃z:Pt,g=[z.1,z.2]:=λg h=>by
   let⟨z,_,e⟩:=bK.mp ((j g).mp h);show#[z,e.symm]
  clear o j d
  induction c with
  |nil=>show#[[],rfl]
  |cons m c C=>
   let⟨L,e⟩:=C λg h=>this g (bH _ h);let⟨z,E⟩:=this m η;show#[z::L,by rw[e,E];rfl]
 subst B;have inj:∀z w:Pt,[z.1,z.2]=[w.1,w.2]->z=w:=λz w h=>by simp at h;show oN h.1 h.2
 have f:∀z,z∈L↔z∈n:=λz=>by
  have:=j [z.1,z.2];constructor
  ·intro h;let⟨w,k,e⟩:=bK.mp (this.mp (bK.mpr #[z,h,rfl]));rw[<-inj _ _ e];show k
  ·intro h;let⟨w,k,e⟩:=bK.mp (this.mpr (bK.mpr #[z,h,rfl]));rw[<-inj _ _ e];show k
 have s:Hi L:=by
  unfold Hi;show(fP.mp o).imp λ{a b} h=>?_;rw[Xy] at h;simpa using h
 have F:D.lst (pL uE (pL (λz:Pt=>[z.1,z.2]) L))=gv L:=by rw[cP];rfl
 have K:L.length<=63:=by simp at d;lia
 have u:∀z∈L,BP z:=λz l=>y z ((f z).mp l);let⟨D,i⟩:=Sv L s;let⟨G,H⟩:=Do s i.inc i.mem;have v:∀M:ι Pt,(vU M).length<=M.length:=λM=>by
  unfold vU;have:=Tb M;simp;lia
 rw[F];show#[L,rfl,u,ν,L.map pt,rfl,L.reverse,by rw[<-nF],λz l=>u z (gO.mp l),ε,?_];have N:=v L;have I:=v L.reverse;rw[fV] at I;show Sz (((vU L).map pt).length+((vU L.reverse).map pt).length)/\Q (.lst ((vU L).map pt++(vU L.reverse).map pt));show#[#[Ln ε],?_];rw[<-aX];show q D (FP L) i.inc (λz=>(i.mem z).trans (f z)) G H (by unfold FP;simp;lia)
structure m5(share:Int)(cs:List Pt)(m sh:Int)(zs:List Pt):Prop where
 mpos:0<m
 sh_eq:share=m*sh
 cs_eq:cs=zs.map λz=>(m*z.1,m*z.2)
 cop:∀d:Nat,(d:Int)∣sh->(∀z∈zs,(d:Int)∣z.1/\(d:Int)∣z.2)->d=1
structure n_(ps:List Pt)(z:Pt)(T:List Pt):Prop where
 cvx:mf (z::T)
 least:∀q∈T,¬g_ q z
 mem:∀q∈z::T,q∈ps
 left:∀a b,tq (z::T) a b->∀q∈ps,0<=dH a b q
def D7(a:ι Pt):Prop:=∀D,mx D->(∀z,z∈D↔z∈a)->2<=D.length->(FP D).length<3
structure pc(ps:List Pt)(z:Pt)(T:List Pt):Prop where
 out:∀D,mx D->(∀x,x∈D↔x∈ps)->2<=D.length/\FP D=z::T
 len:3<=(z::T).length
def n_.c{T:ι Pt}(R:n_ ps z T):pc ps z T:=by
 show#[λD f e=>#[?_,Bv (L:=ps) f R.cvx R.least (λx d=>(e x).mpr (R.mem x d)) λa b g x d=>R.left a b g x ((e x).mp d)],R.cvx.len];have:=zL (z::T) D R.cvx.nodup λx d=>(e x).mpr (R.mem x d);have:=R.cvx.len;lia
def IY:FD:=λe Q=>∃(a:Int)(b:ι Pt),e=[.int a,gv b]/\(0<a/\BL 9000 a)/\(∀z∈b,BP z)/\b.length<64 /\
 ((∃z T,pc b z T/\∀m c d,m5 a (z::T) m c d->Q (.tup [.int c,.tup (d.map pt)]))\/(D7 b/\Q .non))
def XX:FD:=λe Q=>∃(a:Int)(b:ι Pt),e=[.int a,gv b]/\(0<a/\BL 9000 a)/\(∀z∈b,BP z)/\b.length<64 /\
 ((∃z T,n_ b z T/\∀m c d,m5 a (z::T) m c d->Q (.tup [.int c,.tup (d.map pt)]))\/(D7 b/\Q .non))
def XN:ω IY (WG zU PC) ["share","points","corners","divisor","x","y"]:=by
 rintro ds Q ⟨i,n,rfl,⟨V,bs⟩,W,X,E⟩;rw[cO 4 rfl];unfold WG;erw[iY,Pv,aM,cF,bZ,cC];show dP (λf=>∃r:ι Pt,r.length<=200/\((r.length<3/\Q .non)\/(3<=r.length/\∀m o k,m5 i r m o k->Q (.tup [.int o,.tup (k.map pt)])))/\f=[ap (.int i),ap (gv n),ap (gv r),ξ,ξ,ξ]) (λK l=>?_) ?_
 ·nofun;show#[n,rfl,W,X,λD r L M B G N=>l _ #[r,N,?_,rfl]];rcases E with⟨z,T,R,q⟩ | ⟨Y,q⟩
  ·let⟨Z,e⟩:=R.out D L M;have O:=B Z;rw[e] at O;subst O;show gX #[R.len,q]
  ·show gJ #[?_,q];by_cases P:2<=D.length
   ·rw[B P];show Y D L M P
   ·show G ν
 rintro f ⟨r,N,E,rfl⟩;rcases E with⟨h3,q⟩ | ⟨h3,q⟩
 ·nofun;rw[Ω ε];show q
 show fC [ap (.int i),ap (gv n),ap (gv r),ξ,ξ,ξ] (λK l=>?_) ?_
 ·nofun;rw[υ ε];show l
 show fC [ap (.int i),ap (gv n),ap (gv r),ap (.int i),ξ,ξ] (λK l=>?_) ?_
 ·nofun;show l
 show dP (λf=>∃(g:Nat)(x y:Option S),n6 i r g/\f=[ap (.int i),ap (gv n),ap (gv r),ap (.int g),x,y]) (λK l=>?_) ?_
 ·nofun;show Li pt r (λdone f=>∃(g:Nat)(x y:Option S),n6 i done g/\f=[ap (.int i),ap (gv n),ap (gv r),ap (.int g),x,y]) ?_ ?_ #[i.toNat,ξ,ξ,#[ν,?_,η,λd H _=>?_],?_]
  ·rintro done z rest f e ⟨g,u,v,j,rfl⟩ F _ hn;unfold IS;nofun;show#[_,_,rfl,_,_,rfl,?_];show hn _ #[_,_,_,j.snoc z,rfl]
  ·rintro f ⟨g,u,v,j,rfl⟩;show l _ #[g,u,v,j,rfl]
  ·have:(i.toNat:Int)=i:=ν;rw[this];show Int.dvd_refl _
  ·have:(i.toNat:Int)=i:=ν
   exact_mod_cast (by rw[this];show H:(d:Int)∣(i.toNat:Int))
  ·have:(i.toNat:Int)=i:=ν;rw[this]
 rintro f ⟨g,x,y,j,rfl⟩;have gp:(0:Int)<g:=by have:=j.pos;lia
 have I:BL 9000 (g:Int):=j.bl V bs;obtain⟨k,U⟩:∃k,k=r.map λz=>(z.1 / (g:Int),z.2 / (g:Int)):=#[_,rfl];have C:r=k.map λz=>((g:Int)*z.1,(g:Int)*z.2):=by
  rw[U,cP];symm
  conv=>rhs;rw[<-pM r]
  show kY λz s=>?_;let⟨a,b⟩:=j.all z s;erw[Function.comp,id,uP a,uP b]
 let⟨o,J⟩:=j.sh;have A:i.fdiv g=o:=by
  rw[eM _ ν,J,yZ _ ν]
 nofun;show#[I.divOk ν,?_];show#[iP ε,?_];show nK (λf=>∃a b,f=[a,b,ap (.int g)]) pt (λz=>pt (z.1 / (g:Int),z.2 / (g:Int))) r ?_ #[_,_,rfl] ?_
 ·rintro z s f ⟨a,b,rfl⟩ K' qg;nofun;show#[I.divOk ν,I.divOk ν,?_];rw[eM _ ν,eM _ ν];show qg _ #[_,_,rfl]
 ·have e:pL (λz:Pt=>pt (z.1 / (g:Int),z.2 / (g:Int))) r=k.map pt:=by rw[U,cP];rfl
  rw[A,e];show q g o k #[gp,J,C,λd G B=>?_];have:=j.most (d*g) (by
   rw[J];push_cast;let⟨c,C⟩:=G;show#[c,by rw[C];grind]) λz s=>by
   rw[C] at s;let⟨w,hw,rfl⟩:=bK.mp s;obtain⟨⟨c1,H⟩,c2,e2⟩:=B w hw
   push_cast
   show#[#[c1,by rw[H];grind],c2,by rw[e2];grind]
  have le:=HX j.pos this;have d0:d≠0:=by
   rintro rfl;rw[Nat.zero_mul] at this;have:=Nat.eq_zero_of_zero_dvd this;have:=j.pos;lia
  apply QW ?_ ν;apply TH.mp;intro h;have:2*g<=d*g:=Nat.mul_le_mul_right _ h;have:=j.pos;lia
abbrev jx(k:Int)(z:Pt):Pt:=(k*z.1,k*z.2)
def Mf(c:0<k)(h:jx k a=jx k b):a=b:=by
 erw[jx,mW] at h;show oN (qJ ν h.1) (qJ ν h.2)
def Vq(k:Int)(a b c:Pt):dH (jx k a) (jx k b) (jx k c)=k*k*dH a b c:=by unfold dH jx;fail;grind
def mf.unscl(d:0<k)(h:mf (cs.map (jx k))):mf cs:=by
 show#[~~~h.len,?_,λa b f q g i j=>?_]
 ·show List.Pairwise.of_map (jx k) (λa b m e=>m (by rw[e])) h.nodup
 ·have c:tq (cs.map (jx k)) (jx k a) (jx k b):=by
   let⟨l,r,e⟩:=f;show#[l.map (jx k),r.map (jx k),?_];rw[<-WZ,<-aX,e];simp
  have:=h.strict _ _ c (jx k q) (eU g) (λe=>i (Mf d e)) λe=>j (Mf d e);rw[Vq] at this;show kN (by rw[lD];show this) (fT d d)
def S7:FD:=λc Q=>∃a b:Int,c=[.int a,.int b]/\(0<a/\0<b)/\(BL 8000 a/\BL 8000 b)/\∀l,0<l->a∣l->b∣l->l<=a*b->Q (.int l)
abbrev lo(x:Int):Pt:=(x,x*x)
abbrev hi(a x:Int):Pt:=(x,a-x*x)
abbrev cr(a b:Int×Int):Int:=a.1*b.2-a.2*b.1
def chain(a:Int×Int):ι (Int×Int)->Int
 | []=>0
 |b::r=>cr a b+chain b r
namespace K12
def SI(h:dW q p=1)(d:q∣p*r):q∣r:=by
 have a:q.natAbs∣p.natAbs*r.natAbs:=by rw[<-jG];show jV.mpr d
 show jV.mp (mY h a)
def low_eq(g:0<b)(h:jz a b p q)(h':jz a b p' q'):p=p'/\q=q':=by
 have e:p*q'=p'*q:=by
  have i:=h.worth;have j:=h'.worth;have:(p*q')*b=(p'*q)*b:=δ
  show dZ ν this
 have c:q∣q':=by
  have:q∣p*q':=by rw[e];show zW ..
  show SI (by rw[Int.gcd_comm];show h.cop) this
 have d:q'∣q:=by
  have:q'∣p'*q:=by rw[<-e];show zW ..
  show SI (by rw[Int.gcd_comm];show h'.cop) this
 have k:=uH h'.pos c;have l:=uH h.pos d;have f:q=q':=ν
 subst f;show#[dZ (by have:=h.pos;lia) e,rfl]
end K12
structure z9 where
 a:Int
 b:Int
 c:Int
abbrev ln(l:z9):D:=.tup [.int l.a,.int l.b,.int l.c]
abbrev exc(l:z9)(p:Int×Int)(s:Int):Int:=l.a*p.1+l.b*p.2-l.c*s
def SY:FD:=λc Q=>∃a b:Int,c=[.int a,.int b]/\(0<a/\0<b)/\(BL 8000 a/\BL 8000 b)/\∀l,0<l->a∣l->b∣l->(∀m,a∣m->b∣m->l∣m)->Q (.int l)
def CG:ω SY (xR PC) ["one","other"]:=by
 rintro o Q ⟨a,b,rfl,⟨g,h⟩,⟨i,f⟩,q⟩;rw[cO 0 rfl];unfold xR;nofun;show#[a,b,rfl,?_];have s:=SM (a:=a) (b:=b) ν;have j:=BL.gcd (a:=a) (b:=b) ν f;nofun;have k:BL 8000 (b.fdiv (dW a b:Nat)):=f.fdiv;show#[(j.mono).divOk ν,i.mulOk k,?_];have l:b.fdiv (dW a b:Nat)=b / (dW a b:Nat):=eM _ ν;have e:a*b.fdiv (dW a b:Nat)=(ZZ a b:Nat):=by
  have c:((dW a b:Nat):Int)*(ZZ a b:Nat)=a*b:=by
   have:=Int.gcd_mul_lcm a b;have z:((a*b).natAbs:Int)=a*b:=Int.natAbs_of_nonneg (lB (fT g h));rw[<-z,jG,<-this];push_cast;rfl
  have d:((dW a b:Nat):Int)*(b / (dW a b:Nat))=b:=uP (sG ..);rw[l];show qJ (a:=((dW a b:Nat):Int)) ν ?_;rw[c,Int.mul_left_comm,d]
 rw[e];have n:(0:Int)<(ZZ a b:Nat):=by
  have:ZZ a b≠0:=Int.lcm_ne_zero ν ν;lia
 show q _ n (Int.dvd_lcm_left ..) (Int.dvd_lcm_right ..) λm c d=>Int.coe_lcm_dvd c d
abbrev Sp:=Int×Int×Int×Int
abbrev y7(s:Sp):D:=.tup [fr s.1 s.2.1,fr s.2.2.1 s.2.2.2]
structure InN(N:Int)(s:Sp)(z:Pt):Prop where
 qx:0<s.2.1
 qy:0<s.2.2.2
 dx:s.2.1∣N
 dy:s.2.2.2∣N
 ex:s.1*N=z.1*s.2.1
 ey:s.2.2.1*N=z.2*s.2.2.2
def Fq{N c M p q z:Int}(f:0<q)(b:q∣M)(e:p*N=z*q)(d:N=c*M):z=c*(p*(M / q)):=by
 let⟨u,rfl⟩:=b;rw[yZ _ ν];show dZ (a:=q) ν ?_;rw[<-e,d];grind
def qR{t:RS}(xs:ι D)(J:Nat->En->Prop)(step:∀i x a,xs[i]?=ψ x->J i a->∀F:mh,F.rt=E.rt->F.bk=E.nx->(∀a',J (i+1) a'->F.nx a')->(∀a',J (i+1) a'->F.ct a')->g x a λa1=>t F a1)
  (b:∀a,J xs.length a->E.nx a) (a:En) (h:J 0 a):At g t xs E a:=by
 show nB (λd a=>∃i,i<=xs.length/\d=xs.drop i/\J i a) ?_ ?_ xs a #[0,dL _,rfl,h]
 ·rintro x d a ⟨i,hi,e,c⟩ F j k l m;have f:i<xs.length:=by
   apply Nat.not_le.mp;intro n;rw[jI n] at e;cases e
  rw[jT f] at e;cases e;show step i _ a (aL f) c F j k (λa' h=>l a' #[i+1,ν,rfl,h]) λa' h=>m a' #[i+1,ν,rfl,h]
 ·rintro a ⟨i,hi,e,c⟩;have:i=xs.length:=by
   have:=Φ iM e;simp at this;lia
  subst this;show b a c
def Jm{lo:Int}(h:(mI lo n)[i]?=ψ x):x = .int (lo+i)/\i<n:=by
 unfold mI at h;rw[bJ] at h;by_cases hi:i<n
 ·rw[kX hi] at h;cases h;show#[rfl,hi]
 ·rw[gC (~~~hi)] at h;cases h
def wB{t:RS}(lo:Int)(n:Nat)(J:Nat->En->Prop)(step:∀i a,i<n->J i a->∀F:mh,F.rt=E.rt->F.bk=E.nx->(∀a',J (i+1) a'->F.nx a')->(∀a',J (i+1) a'->F.ct a')->g (.int (lo+i)) a λa1=>t F a1)
  (b:∀a,J n a->E.nx a) (a:En) (h:J 0 a):At g t (mI lo n) E a:=by
 show qR _ J (λi x a e c=>?_) (λa h=>b a (by rwa [xK] at h)) a h;let⟨rfl,hi⟩:=Jm e;show step i a hi c
def V4{ns:ι Int}{i:Int}{Q:D->Prop}(h0:0<=i)(b:i<ns.length)(q:∀v,ns[i.toNat]?=ψ v->Q (.int v)):g7 (il ns) (.int i) Q:=by
 have a:i.toNat<ns.length:=ν
 show qY (Hn (j:=i.toNat) ν (by rw[bJ,aL a];rfl)) (q _ (aL a))
def Tc{ns:ι Int}(a:ns≠[])(q:∀v l,ns=l++[v]->Q (.int v)):g7 (.lst (ns.map D.int)) (.int (-1)) Q:=by
 rcases fS ns with h | ⟨l,v,h⟩
 ·show Ψ h a
 ·have e:ns=l++[v]:= ~~~h
  have:ns.map D.int=l.map D.int++[D.int v]:=by rw[e];simp
  rw[this];show qY ?_ (q v l e);unfold my s_;rw[υ μ,Ω ε];have:((-1:Int)+((l.map D.int++[D.int v]).length:Nat)).toNat=l.length:=ε
  erw[this,AD];simp
def SC:FD:=λa Q=>∃(ns:ι Int)(k:Int),a=[il ns,.int k]/\(0<=k/\k<=100000)/\∀v,0<=v->v<2147483647->Q (.int v)
def VZ:ω SC IN ["_law_script","_law_k","_law_cell","_law_number"]:=by
 rintro u Q ⟨ns,k,rfl,⟨w,y⟩,q⟩;rw[cO 2 rfl];unfold IN;erw[iY,XS,aM,cF,bZ,cC];show fC [ap (il ns),ap (.int k),ap (.int 0),ξ] (λK e=>?_) ?_
 ·nofun;show e
 show dP (λd=>∃c:Int,d=[ap (il ns),ap (.int k),ap (.int c),ξ]) (λK e=>?_) ?_
 ·nofun;split
  ·rename_i h;have z:0<ns.length:=(by simp at h;show h);have i:∃m:Int,(if(((ns.map D.int).length:Nat):Int)<63 then(((ns.map D.int).length:Nat):Int) else 63)=m/\0<m/\m<=ns.length:=by
    show#[_,rfl,?_,?_] <;> (simp;split <;> lia)
   let⟨m,em,j,A⟩:=i;rw[em];let⟨f,l⟩:=jN (a:=k) (b:=m) j;show#[#[ν],V4 f ν λv _=>e _ #[v,rfl]]
  ·show e _ #[_,rfl]
 rintro d ⟨c,rfl⟩;nofun;let⟨f,l⟩:=jN (a:=c) (b:=1000000000000000000) μ;have g:BL 100 (c.fmod 1000000000000000000+48271*(k+1)):=BL.of_lt ν (by
  have:((2 ^ 100:Nat):Int)=1267650600228229401496703205376:=μ
  lia)
 let⟨o,s⟩:=jN (a:=(c.fmod 1000000000000000000+48271*(k+1))*(c.fmod 1000000000000000000+48271*(k+1))) (b:=2147483647) μ;show#[Bl,vM,(BL.const (n:=20) μ).mulOk (n:=20) (BL.of_lt ν ν),g.mulOk g,vM,q _ o s]
structure u9(ts:List Int):Prop where
 len:2<=ts.length/\ts.length<=5
 bl:∀x∈ts,BL 200 x
 step:∀(i:Nat) a b,ts[i]?=ψ a->ts[i+1]?=ψ b->1<=b-a/\b-a<=40
 wide:∀x∈ts,∀y∈ts,y-x<=60
abbrev CO:Int:=10000000000000000000000000000000000000000000000000000000000
structure f9(ts:List Int)(hss:List (List Int))(n:Nat):Prop where
 thr:u9 ts
 len:hss.length=ts.length
 n1:1<=n/\n<=3
 each:∀hs∈hss,hs.length=2*n
 bl:∀hs∈hss,∀x∈hs,BL 210 x
 up:∀hs∈hss,hs.Pairwise (·<=·)
abbrev j6(hss:ι (ι Int)):D:=.lst (hss.map il)
theorem Cu{R:En->Prop}{P:D->Prop}:∀(src:ι D){Q:ι D->Prop}(c:En)(acc:ι D),R c->(∀a∈src,∀c,R c->∀K:En->D->Prop,(∀c1 d,R c1->P d->K c1 d)->g a c λc1=>te c1 λd=>K c1 d) ->
  (∀out:ι D,out.length=src.length->(∀d∈out,P d)->Q (acc++out))->yF g te src c acc Q
 | [],Q,c,acc,_,_,q=>by
  show Q acc;simpa using q [] rfl η
 |a::src,Q,c,acc,h,step,q=>by
  show g a c λf=>te f λd=>yF g te src f (acc++[d]) Q;show step a cT c h (λc1 d=>yF g te src c1 (acc++[d]) Q) λc1 d i j=>?_;show Cu src c1 _ i (λb k=>step b (bH _ k)) λout l m=>?_;have:=q (d::out) (by simp[l]) λx e=>by
   rcases aP.mp e with rfl |e
   ·show j
   ·show m x e
  simpa using this
abbrev ql(w k a b:Int):Int:=a*(w-k)+b*k
def YT{ns:ι Int}{i:Nat}{v:Int}{Q:D->Prop}(e:ns[i]?=ψ v)(q:Q (.int v)):g7 (il ns) (.int (i:Int)) Q:=qY (qW (by rw[bJ,e];rfl)) q
def Ie{hss:ι (ι Int)}{i:Nat}{a:ι Int}{Q:D->Prop}(e:hss[i]?=ψ a)(q:Q (il a)):g7 (j6 hss) (.int (i:Int)) Q:=qY (qW (by rw[bJ,e];rfl)) q
namespace K33
abbrev P2:=Int×Int
abbrev Wd:=Int×P2×P2×P2
abbrev Mv:=Int×P2×P2
abbrev Bit:=Wd×Mv
abbrev g9:=Int×Bit
def vh(w:Wd):D:=.tup [.int w.1,.tup [pt w.2.1,pt w.2.2.1,pt w.2.2.2]]
def mvD(m:Mv):D:=.tup [.int m.1,pt m.2.1,pt m.2.2]
def j_(b:Bit):D:=.tup [vh b.1,mvD b.2]
def iq(e:g9):D:=.tup [.int e.1,j_ e.2]
def AQ(c:f a b=ψ p)(d:ma f xs ys=ψ q):ma f (a::xs) (b::ys)=ψ (p && q):=by rw[ma,c,d]
def w9(n:Nat)(i j:Int):jc (n+1) (.int i) (.int j)=ψ (decide (i=j)):=by rw[jc]
def eqT(n:Nat)(xs a:ι D):jc (n+1) (.tup xs) (.tup a)=ma (jc n) xs a:=by rw[jc]
def ya(n:Nat)(z w:P2):jc (n+2) (pt z) (pt w)=ψ (decide (z=w)):=by
 let⟨a,b⟩:=z;let⟨c,d⟩:=w;rw[eqT,AQ (w9 n a c) (AQ (w9 n b d) rfl)];erw[mW,oH,oR]
def eqW(n:Nat)(z w:Wd):jc (n+4) (vh z) (vh w)=ψ (decide (z=w)):=by
 let⟨s,a,b,c⟩:=z;let⟨d,e,f,g⟩:=w;have h:=AQ (ya n a e) (AQ (ya n b f) (AQ (ya n c g) (show ma (jc (n+2)) [] []=ψ ζ from rfl)));rw[<-eqT] at h;unfold vh;rw[eqT,AQ (w9 (n+2) s d) (AQ h rfl)];erw[mW,oH,oR]
def eqM(n:Nat)(z w:Mv):jc (n+3) (mvD z) (mvD w)=ψ (decide (z=w)):=by
 let⟨s,a,b⟩:=z;let⟨c,d,e⟩:=w;unfold mvD;rw[eqT,AQ (w9 (n+1) s c) (AQ (ya n a d) (AQ (ya n b e) rfl))];erw[mW,oH,oR]
def bn(n:Nat)(z w:Bit):jc (n+5) (j_ z) (j_ w)=ψ (decide (z=w)):=by
 let⟨a,b⟩:=z;let⟨c,d⟩:=w;unfold j_;rw[eqT,AQ (eqW n a c) (AQ (eqM (n+1) b d) rfl)];erw[mW,oH,oR]
def U6(n:Nat)(z w:g9):jc (n+6) (iq z) (iq w)=ψ (decide (z=w)):=by
 let⟨a,b⟩:=z;let⟨c,d⟩:=w;unfold iq;rw[eqT,AQ (w9 (n+4) a c) (AQ (bn n b d) rfl)];erw[mW,oH,oR]
theorem G2{α:Type}(f:D->D->Option Bool)(g:α->D)(h:∀x,f (g x) (g x)=ψ ζ):∀xs:ι α,ma f (xs.map g) (xs.map g)=ψ ζ
 | []=>rfl
 |x::xs=>by rw[aM,AQ (h x) (G2 f g h xs)];rfl
def Nw(os cs:ι g9)(fs:ι P2):jc 9 (.lst [.lst (os.map iq),.lst (cs.map iq),gv fs]) (.lst [.lst (os.map iq),.lst (cs.map iq),gv fs])=ψ ζ:=by
 have l:∀n a b,jc (n+1) (.lst a) (.lst b)=ma (jc n) a b:=λn a b=>by rw[jc]
 have e:∀a:ι g9,jc 8 (.lst (a.map iq)) (.lst (a.map iq))=ψ ζ:=λa=>by
  rw[l,G2 _ _ λx=>by rw[U6 1 x x,decide_eq_true rfl]]
 have p:jc 8 (gv fs) (gv fs)=ψ ζ:=by
  rw[l,G2 _ _ λx=>by rw[ya 5 x x,decide_eq_true rfl]]
 rw[l,AQ (e os) (AQ (e cs) (AQ p rfl))];rfl
abbrev gz(es:ι g9):D:=.lst (es.map iq)
def zN{fs:ι P2}{i:Int}{Q:D->Prop}(h0:0<=i)(b:i<fs.length)(q:∀f,fs[i.toNat]?=ψ f->Q (pt f)):g7 (gv fs) (.int i) Q:=by
 have a:i.toNat<fs.length:=ν
 show qY (Hn (j:=i.toNat) ν (by rw[bJ,aL a];rfl)) (q _ (aL a))
end K33
abbrev qo(s:mG):D:=.tup [pt s.1,pt s.2]
abbrev MT(S:ι mG):D:=.lst (S.map qo)
abbrev OU(R:ι (ι Pt)):D:=.lst (R.map gv)
def VL:Pt->ι Pt->ι (Pt×Pt)
 |_,[]=>[]
 |a,b::r=>(a,b)::VL b r
theorem ZR:∀(a:Pt)(l:ι Pt),nO a l=((VL a l).map λp=>sd p.1 p.2).flatten
 |_,[]=>rfl
 |a,b::r=>by rw[nO,VL,aM,jJ,ZR b r]
theorem Gq:∀(a z:Pt)(r:ι Pt),gL (λu v=>D.tup [u,v]) ((a::r).map pt) ((r++[z]).map pt)=(VL a (r++[z])).map λp=>D.tup [pt p.1,pt p.2]
 |a,z,[]=>rfl
 |a,z,b::r=>by
  have c:=Gq b z r;show D.tup [pt a,pt b]::gL (λu v=>D.tup [u,v]) ((b::r).map pt) ((r++[z]).map pt)=_;rw[c];rfl
theorem Eh:∀(a:Pt)(l:ι Pt),(VL a l).length=l.length
 |_,[]=>rfl
 |a,b::r=>by rw[VL,aQ,Eh b r,aQ]
def Vr(a b:Pt):(sd a b).length<=1:=by unfold sd;split <;> (try split) <;> simp
theorem Gg:∀(l:ι Pt)(a:Pt),(nO a l).length<=l.length
 | [],_=>aS _
 |b::r,a=>by
  have c:=Vr a b;have d:=Gg r b;rw[nO,aU,aQ];lia
theorem Qa:∀g:ι Pt,(rR g).length<=g.length
 | []=>aS _
 |a::r=>by have:=Gg (r++[a]) a;rw[rR];simpa using this
def NE:FD:=λa Q=>∃g:ι Pt,a=[gv g]/\g.length<=100/\Q (MT (rR g))
def XO:ω NE QK ["ring","sides","one","other"]:=by
 rintro J Q ⟨g,rfl,y,q⟩;rw[cO 3 rfl];unfold QK;show fC [ap (gv g),ψ (.own []),ξ,ξ] (λK k=>?_) ?_
 ·nofun;show k
 show dP (λb=>∃u v,b=[ap (gv g),ψ (.own ((rR g).map qo)),u,v]) (λK k=>?_) ?_
 ·have A:∃f:ι (Pt×Pt),gL (λu v=>D.tup [u,v]) (g.map pt) (cutD (g.map pt) (ψ 1) ξ++cutD (g.map pt) ξ (ψ 1))=f.map (λp=>D.tup [pt p.1,pt p.2])/\(f.map λp=>sd p.1 p.2).flatten=rR g/\f.length<=100:=by
   cases g with
   |nil=>show#[[],rfl,rfl,dL _]
   |cons a r=>
    show#[VL a (r++[a]),?_,(ZR a (r++[a])).symm,by rw[Eh];simpa using y];have B:cutD ((a::r).map pt) (ψ 1) ξ=r.map pt:=NY (j:=1) η;have C:cutD ((a::r).map pt) ξ (ψ 1)=[pt a]:=Wv (j:=1) η;rw[B,C,<-Gq a a r];simp
  let⟨f,E,G,n⟩:=A;erw[jS,IT,bC,bD,r2,RX,CV,rE,rC,vS,aA];have o:∀l u:Option Int,(cutD (g.map pt) l u).length<=100:=λl u=>by unfold cutD;rw[gH,fO,aG];lia
  show#[iP (by have:=o (ψ 1) ξ;have:=o ξ (ψ 1);lia),?_];rw[E];show nB (λs b=>∃done c:ι (Pt×Pt),f=done++c/\s=c.map (λp=>D.tup [pt p.1,pt p.2])/\∃u v,b=[ap (gv g),ψ (.own (((done.map λp=>sd p.1 p.2).flatten).map qo)),u,v]) ?_ ?_ _ _ #[[],f,rfl,rfl,_,_,rfl]
  ·rintro x s b ⟨done,c,h,e,u,v,rfl⟩ F L M H N;cases c with
   |nil=>cases e
   |cons p c=>
    rw[aM] at e;injection e with ex e;subst ex e;have dl:((done.map λp=>sd p.1 p.2).flatten).length+1<=101:=by
     have d:done.length<=100:=(by rw[h] at n;simp at n;lia);have:((done.map λp=>sd p.1 p.2).flatten).length<=done.length:=by
      clear h d
      induction done with
      |nil=>show aS _
      |cons z done O=>have:=Vr z.1 z.2;rw[aM,jJ,aU,aQ];lia
     lia
    have m:∀w,w=sd p.1 p.2->F.nx [ap (gv g),ψ (.own (((done.map λp=>sd p.1 p.2).flatten).map qo++w.map qo)),ap (pt p.1),ap (pt p.2)]:=λw I=>by
     show H _ #[done++[p],c,by rw[h];simp,rfl,ap (pt p.1),ap (pt p.2),?_];rw[I,<-aX];congr 4;simp
    unfold GC;nofun;by_cases d:p.1.1<p.2.1
    ·have i:¬p.2.1<p.1.1:=ν;erw[d,i,decide_true,decide_false,if_true,if_false,aR];show#[iP (by rw[aG];lia),?_];show m [p] (by unfold sd;rw[Ω d])
    ·by_cases i:p.2.1<p.1.1
     ·erw[d,i,decide_true,decide_false,if_true,if_false,aR];show#[iP (by rw[aG];lia),?_];show m [(p.2,p.1)] (by unfold sd;rw[υ d,Ω i])
     ·erw[d,i,decide_false,if_false,aR];have:=m [] (by unfold sd;rw[υ d,υ i]);simpa using this
  ·rintro b ⟨done,c,h,e,u,v,rfl⟩;have:c=[]:=(by cases c with |nil=>rfl |cons _ _=>cases e);subst this;rw[bU] at h;show k _ #[u,v,?_];rw[<-h,G]
 rintro b ⟨u,v,rfl⟩;nofun;show q
def CP:ι (Int×ι D)->Int->ι D
 | [],_=>[]
 | (a,b)::r,k=>if a=k then b else CP r k
theorem VH:∀(kvs:ι (Int×ι D))(k:Int)(d:D)(c:Int),CP (putL kvs k d) c=if k=c then CP kvs c++[d] else CP kvs c
 | [],k,d,c=>by erw[putL,CP];split <;> rfl
 | (b,g)::r,k,d,c=>by
  have f:=VH r k d c;unfold putL;by_cases h:b=k
  ·rw[Ω h];subst h;erw[CP];by_cases a:b=c
   ·rw[Ω a,Ω a,Ω a]
   ·rw[υ a,υ a,υ a]
  ·rw[υ h];erw[CP];by_cases a:k=c
   ·have:¬b=c:=λe=>h (e.trans a.symm);rw[υ this,Ω a,f,Ω a,υ this]
   ·rw[υ a,f,υ a]
theorem FA:∀(kvs:ι (Int×ι D))(k:Int)(d:D),(putL kvs k d).map (·.1)=if k∈kvs.map (·.1) then kvs.map (·.1) else kvs.map (·.1)++[k]
 | [],k,d=>by simp[putL]
 | (b,g)::r,k,d=>by
  have c:=FA r k d;unfold putL;by_cases h:b=k
  ·rw[Ω h];subst h;simp
  ·rw[υ h,aM,c];have f:¬k=b:=λe=>h e.symm;by_cases a:k∈r.map (·.1)
   ·rw[Ω a,Ω (by rw[aM];show .tail _ a)];rfl
   ·rw[υ a,υ (by rw[aM,aP];show λz=>z.elim f a)];rfl
theorem UD:∀(kvs:ι (Int×ι D))(c:Int),c∈kvs.map (·.1)->tP (kvs.map (·.1)) (kvs.map λp=>.lst p.2) c=ψ (.lst (CP kvs c))
 | [],_,h=>by cases h
 | (b,d)::r,c,h=>by
  erw[aM,tP,CP];by_cases a:b=c
  ·rw[Ω a,Ω a]
  ·rw[υ a,υ a];rw[aM,aP] at h;show UD r c (h.resolve_left λe=>a e.symm)
theorem Bp:∀(kvs:ι (Int×ι D))(k:Int)(d:D)(n:Nat),kvs.length<=n->(∀p∈kvs,p.2.length<=n)->(putL kvs k d).length<=n+1/\∀p∈putL kvs k d,p.2.length<=n+1
 | [],k,d,n,_,_=>#[by simp[putL],λp b=>by simp[putL] at b;subst b;simp]
 | (f,i)::r,k,d,n,c,b=>by
  unfold putL;have e:=b (f,i) (.head _);by_cases h:f=k
  ·rw[Ω h];show#[~~~sP c,λp a=>?_];rcases aP.mp a with rfl |a
   ·simp;show e
   ·show sP (b p (.tail _ a))
  ·rw[υ h];rw[aQ] at c;have l:n=(n-1)+1:=ν;let⟨j,g⟩:=Bp r k d n ν λp a=>b p (.tail _ a);have m:(putL r k d).length<=r.length+1:=by
    clear j g b e c
    induction r with
    |nil=>simp[putL]
    |cons z r o=>unfold putL;split <;> simp <;> lia
   show#[by rw[aQ];lia,λp a=>?_];rcases aP.mp a with rfl |a
   ·show sP e
   ·show g p a
abbrev Ev:=Int×mG
def l7(s:mG):ι Ev:=(bT (k5 s).toNat).map λk:Nat=>(s.1.1+(k:Int),s)
def kvsOf(E:ι Ev):ι (Int×ι D):=E.foldl (λm e=>putL m e.1 (qo e.2)) []
def Dy(E:ι Ev)(e:Ev):kvsOf (E++[e])=putL (kvsOf E) e.1 (qo e.2):=by unfold kvsOf;rw[sL];rfl
def Ik(E:ι Ev):((kvsOf E).length<=E.length/\∀p∈kvsOf E,p.2.length<=E.length)/\((kvsOf E).map (·.1)).Nodup/\(∀c,c∈(kvsOf E).map (·.1)↔∃e∈E,e.1=c)/\∀c,CP (kvsOf E) c=(E.filter λe=>decide (e.1=c)).map λe=>qo e.2:=by
 show snoc_ind (P:=λE=>((kvsOf E).length<=E.length/\∀p∈kvsOf E,p.2.length<=E.length)/\((kvsOf E).map (·.1)).Nodup/\(∀c,c∈(kvsOf E).map (·.1)↔∃e∈E,e.1=c)/\∀c,CP (kvsOf E) c=(E.filter λe=>decide (e.1=c)).map λe=>qo e.2) ?_ ?_ E
 ·show#[#[aS _,λp h=>by cases h],EJ,λc=>#[λh=>(by cases h),λ⟨e,h,_⟩=>(by cases h)],λc=>rfl]
 ·rintro E e ⟨⟨k,l⟩,i,g,o⟩;rw[Dy];show#[by rw[aU];show Bp _ _ _ _ k l,?_,λc=>?_,λc=>?_]
  ·rw[FA];split
   ·show i
   ·rename_i n;show sN.mpr #[i,kP _ _,λa q b s j=>n (by rw[bE.mp s] at j;show j▸q)]
  ·rw[FA];split
   ·rename_i m;rw[g c];constructor
    ·rintro⟨x,d,rfl⟩;show#[x,dY _ d,rfl]
    ·rintro⟨x,d,rfl⟩;rcases bV.mp d with d |d
     ·show#[x,d,rfl]
     ·rw[bE.mp d];show(g _).mp m
   ·rw[bV,g c,bE];constructor
    ·rintro (⟨x,d,rfl⟩ |rfl)
     ·show#[x,dY _ d,rfl]
     ·show#[e,bI _ (.head _),rfl]
    ·rintro⟨x,d,rfl⟩;rcases bV.mp d with d |d
     ·show .inl #[x,d,rfl]
     ·rw[bE.mp d];show .inr rfl
  ·rw[VH,o c,eO,aX];by_cases f:e.1=c
   ·rw[Ω f];simp[f]
   ·rw[υ f];simp[f]
where
 snoc_ind {α:Type} {P:ι α->Prop} (h0:P []) (hs:∀E e,P E->P (E++[e])) (E:ι α):P E:=by
  have:∀(n:Nat)(E:ι α),E.length=n->P E:=by
   intro n
   induction n with
   |zero=>intro E h;rw[rY.mp h];show h0
   |succ n ih=>
    intro E h;rcases fS E with rfl | ⟨E',e,rfl⟩
    ·cases h
    ·rw[DK] at h⊢;show hs E' e (ih E' (~~~h))
  show this _ E rfl
def Xh(c:Int)(s:mG)(g:0<k5 s):((l7 s).filter λe=>decide (e.1=c)).map (·.2)=if cov c s=ζ then[s] else[]:=by
 have a:∀n:Nat,(((bT n).map λk:Nat=>((s.1.1+(k:Int),s):Ev)).filter λe=>decide (e.1=c)).map (·.2)=if s.1.1<=c/\c<s.1.1+n then[s] else[]:=by
  intro n
  induction n with
  |zero=>rw[υ ν];rfl
  |succ n f=>
   rw[eE,aX,eO,aX,f];by_cases b:s.1.1<=c/\c<s.1.1+n
   ·rw[Ω b,Ω ν];have:¬s.1.1+(n:Int)=c:=ν;simp[this]
   ·by_cases d:s.1.1+(n:Int)=c
    ·rw[υ b,Ω ν];simp[d]
    ·rw[υ b,υ ν];simp[d]
 unfold l7;rw[a];by_cases h:cov c s=ζ
 ·have:=GR.mp h;rw[Ω h,Ω (by unfold k5 at *;lia)]
 ·rw[υ h,υ λk=>h (GR.mpr (by unfold k5 at *;lia))]
theorem Ar(c:Int):∀(S:ι mG),(∀s∈S,0<k5 s)->(((S.map l7).flatten).filter λe=>decide (e.1=c)).map (·.2)=S.filter (cov c)
 | [],_=>rfl
 |s::S,h=>by
  rw[aM,jJ,eO,aX,Ar c S λx a=>h x (.tail _ a),Xh c s (h s (.head _)),nE];split <;> rfl
structure ud(S:List mG)(ks:List Int)(xs:List D):Prop where
 len:ks.length=xs.length
 nodup:ks.Nodup
 mem:∀c,c∈ks↔∃s∈S,cov c s=ζ
 here:∀c∈ks,tP ks xs c=ψ (MT (S.filter (cov c)))
def U0(S:ι mG)(h:∀s∈S,0<k5 s):ud S ((kvsOf (S.map l7).flatten).map (·.1)) ((kvsOf (S.map l7).flatten).map λp=>.lst p.2):=by
 let⟨_,b,d,g⟩:=Ik (S.map l7).flatten;show#[η,b,λc=>?_,λc i=>?_]
 ·rw[d c];have e:=Ar c S h;constructor
  ·rintro⟨x,a,rfl⟩;have:x.2∈(((S.map l7).flatten).filter λe=>decide (e.1=x.1)).map (·.2):=eU (f:=(·.2)) (dU.mpr #[a,decide_eq_true rfl]);rw[e] at this;show#[x.2,(dU.mp this).1,(dU.mp this).2]
  ·rintro⟨s,j,k⟩;have:s∈S.filter (cov c):=dU.mpr #[j,k];rw[<-e] at this;let⟨x,a,_⟩:=bK.mp this;show#[x,(dU.mp a).1,by simpa using(dU.mp a).2]
 ·rw[UD _ c i,g c];congr 2;rw[<-Ar c S h,cP];rfl
namespace K33
def Nk{j:Nat}(h:xs.length<=j):cutD xs (ψ (j:Int)) ξ=[]:=by
 unfold cutD;rw[HT.sIx_nat,NQ h,jI (aS _),XB]
abbrev ky:g9->Int:=λe=>e.1
abbrev Wr(es:ι g9):D:=.lst (es.map λe=>j_ e.2)
def qz(es:ι g9):ι (Int×ι D):=es.foldl (λm e=>putL m e.1 (j_ e.2)) []
def FC(es:ι g9)(e:g9):qz (es++[e])=putL (qz es) e.1 (j_ e.2):=by unfold qz;rw[sL];rfl
structure KvG(es:List g9):Prop where
 sz:(qz es).length<=es.length/\∀p∈qz es,p.2.length<=es.length
 nd:((qz es).map (·.1)).Nodup
 mem:∀c,c∈(qz es).map (·.1)↔∃e∈es,e.1=c
 b_:∀c,CP (qz es) c=(ie ky es c).map λe=>j_ e.2
def Ti(es:ι g9):KvG es:=by
 show Ik.snoc_ind (P:=KvG) ?_ ?_ es
 ·show#[#[aS _,λp h=>by cases h],EJ,λc=>#[λh=>(by cases h),λ⟨e,h,_⟩=>(by cases h)],λc=>rfl]
 ·rintro E e ⟨⟨k,l⟩,i,g,o⟩;show#[by rw[FC,aU];show Bp _ _ _ _ k l,?_,λc=>?_,λc=>?_]
  ·rw[FC,FA];split
   ·show i
   ·rename_i n;show sN.mpr #[i,kP _ _,λa q b s j=>n (by rw[bE.mp s] at j;show j▸q)]
  ·rw[FC,FA];split
   ·rename_i m;rw[g c];constructor
    ·rintro⟨x,d,rfl⟩;show#[x,dY _ d,rfl]
    ·rintro⟨x,d,rfl⟩;rcases bV.mp d with d |d
     ·show#[x,d,rfl]
     ·rw[bE.mp d];show(g _).mp m
   ·rw[bV,g c,bE];constructor
    ·rintro (⟨x,d,rfl⟩ |rfl)
     ·show#[x,dY _ d,rfl]
     ·show#[e,bI _ (.head _),rfl]
    ·rintro⟨x,d,rfl⟩;rcases bV.mp d with d |d
     ·show .inl #[x,d,rfl]
     ·rw[bE.mp d];show .inr rfl
  ·rw[FC,VH,o c,ie,ie,eO,aX];by_cases f:e.1=c
   ·rw[Ω f];simp[ky,f]
   ·rw[υ f];simp[ky,f]
theorem Ky:∀(kvs:ι (Int×ι D))(c:Int),c∉kvs.map (·.1)->tP (kvs.map (·.1)) (kvs.map λp=>.lst p.2) c=ξ
 | [],_,h=>rfl
 | (a,b)::r,c,h=>by
  erw[aM,tP];rw[aM,aP,not_or] at h;rw[υ λe=>h.1 e.symm];show Ky r c h.2
structure xv(es:List g9)(ks:List Int)(xs:List D):Prop where
 len:ks.length=xs.length
 kl:ks.length<=es.length
 nodup:ks.Nodup
 mem:∀c,c∈ks↔∃e∈es,e.1=c
 here:∀c∈ks,tP ks xs c=ψ (Wr (ie ky es c))
 get:∀c,(tP ks xs c).getD (.lst [])=Wr (ie ky es c)
def U8(es:ι g9):xv es ((qz es).map (·.1)) ((qz es).map λp=>.lst p.2):=by
 obtain⟨⟨e,h⟩,f,d,g⟩:=Ti es;have a:∀c∈(qz es).map (·.1),tP ((qz es).map (·.1)) ((qz es).map λp=>.lst p.2) c=ψ (Wr (ie ky es c)):=λc b=>by rw[UD _ c b,g c]
 show#[η,~~~e,f,d,a,λc=>?_];by_cases b:c∈(qz es).map (·.1)
 ·rw[a c b];rfl
 ·rw[Ky _ c b];have:ie ky es c=[]:=iH λn=>b ((d c).mpr (BX n));rw[this];rfl
def Hgt(fs:ι P2)(c:Int)(h:P2):Prop:=∃s t:P2,fs[c.toNat]?=ψ s/\fs[(c+1).toNat]?=ψ t/\jz (t.1*s.2-s.1*t.2) (t.2*s.2) h.1 h.2
def SN{c:Int}(h:e∈ie ky es c):e.1=c:=of_decide_eq_true (dU.mp h).2
end K33
abbrev sp(a b g h:Int):D:=.tup [fr a b,fr g h]
namespace K34
open K33
def aw{a b c:Pt}(h:0<dH a b c):mf [a,b,c]:=by
 have i:dH b c a=dH a b c:=by unfold dH;grind
 have j:dH c a b=dH a b c:=by unfold dH;grind
 have n:a≠b:=λe=>by subst e;unfold dH at h;grind
 have o:a≠c:=λe=>by subst e;unfold dH at h;grind
 have s:b≠c:=λe=>by subst e;unfold dH at h;grind
 show#[η,by simp[n,o,s],λx y k q d f g=>?_];have m:(x=a/\y=b)\/(x=b/\y=c)\/(x=c/\y=a):=by
  let⟨l,r,e⟩:=k
  match l,e with
  | [],e=>simp at e;show .inl #[e.1.symm,e.2.1.symm]
  | [_],e=>simp at e;show .inr (.inl #[e.2.1.symm,e.2.2.1.symm])
  | [_,_],e=>simp at e;show .inr (.inr #[e.2.2.1.symm,e.2.2.2.1.symm])
  | [_,_,_],e=>simp at e
  |_::_::_::_::l,e=>simp at e
 erw[aP,dN,or_false] at d;rcases m with⟨rfl,rfl⟩ | ⟨rfl,rfl⟩ | ⟨rfl,rfl⟩
 ·rcases d with rfl |rfl |rfl
  ·show(f rfl).elim
  ·show(g rfl).elim
  ·show h
 ·rcases d with rfl |rfl |rfl
  ·rw[i];show h
  ·show(f rfl).elim
  ·show(g rfl).elim
 ·rcases d with rfl |rfl |rfl
  ·show(g rfl).elim
  ·rw[j];show h
  ·show(f rfl).elim
def Mm(s t:P2)(b:Bool):ι Pt:=match b with
 |true=>[(0,0),(s.2*t.2,s.1*t.2),(s.2*t.2,t.1*s.2)]
 |false=>[(0,0),(s.2*t.2,t.1*s.2),(0,t.1*s.2-s.1*t.2)]
structure vm(s t:P2):Prop where
 sp:0<s.2
 tp:0<t.2
 lt:s.1*t.2<t.1*s.2
def Qm{s t:P2}(h:vm s t)(b:Bool):mf (Mm s t b):=by
 have sp:0<s.2*t.2:=fT h.sp h.tp;have d:0<t.1*s.2-s.1*t.2:=by have:=h.lt;lia
 have k:=fT sp d;cases b <;> (show aw ?_;unfold dH;fail;grind)
end K34
namespace K33
def w6(p:g9×g9)(h:P2):D:=.tup [.int p.1.1,pt h,.lst [j_ p.1.2,j_ p.2.2]]
inductive pk(fs:List P2):List (g9×g9)->List D->Prop
 |nil:pk fs [] []
 |cons {p:g9×g9} {ps:List (g9×g9)} {h:P2} {ds:List D}:Hgt fs p.1.1 h->pk fs ps ds->pk fs (p::ps) (w6 p h::ds)
def pk.snoc{fs:ι P2}(b:pk fs ps ds)(a:Hgt fs p.1.1 h):pk fs (ps++[p]) (ds++[w6 p h]):=by
 induction b with
 |nil=>show .cons a .nil
 |cons c _ d=>show .cons c d
def pk.len{fs:ι P2}(b:pk fs ps ds):ds.length=ps.length:=by
 induction b with
 |nil=>rfl
 |cons _ _ a=>rw[aQ,aQ,a]
structure uj(os cs:List g9)(fs:List P2)(yz zr:List Int)(rows:List D):Prop where
 nd1:yz.Nodup
 nd2:zr.Nodup
 in1:∀e∈os,ky e∈yz
 in2:∀e∈cs,ky e∈zr
 bx:pk fs (nV ky os cs yz) rows
theorem Gp:∀(xs ys:ι g9),gL (λa b=>D.tup [a,b]) (xs.map λe=>j_ e.2) (ys.map λe=>j_ e.2)=(wW xs ys).map λp=>D.tup [j_ p.1.2,j_ p.2.2]
 | [],_=>by simp
 |_::_,[]=>rfl
 |x::xs,y::ys=>by
  rw[aM,aM,jL,Gp xs ys,hZ,aM]
end K33
namespace K34
open K33
end K34
namespace K33
def drop_nil{α:Type}{l:ι α}(h:l.drop n≠[]):l≠[]:=λe=>h (by rw[e,List.drop_nil])
def Il{es fs:ι g9}(b:cs.Nodup)(d:ds.Nodup)(f:∀e∈es,ky e∈cs)(g:∀e∈es,ky e∈ds):(mZ ky es fs cs).Perm (mZ ky es fs ds):=by
 show YQ _ b d (λc _ h=>?_) (λc _ h=>?_)
 ·let⟨x,a,e⟩:=BX (drop_nil h);show e▸g x a
 ·let⟨x,a,e⟩:=BX (drop_nil h);show e▸f x a
end K33
namespace K34
open K33
end K34
namespace K39
open K34 K33
def zV:FD:=λe Q=>∃(a:ι (Sp×Pt))(N:Int),e=[.lst (a.map λw=>y7 w.1)]/\(0<N/\BL 500 N)/\a.length<64/\(∀w∈a,InN N w.1 w.2/\BL 1000 w.1.1/\BL 1000 w.1.2.2.1) /\
 ∀(c M:Int)(f:Sp×Pt->Pt),0<c->0<M->N=c*M->(∀w∈a,w.2=jx c (f w)) ->
  ((∃z T,pc (a.map f) z T/\∀m b d,m5 M (z::T) m b d->Q (.tup [.int b,.tup (d.map pt)]))\/(D7 (a.map f)/\Q .non))
def Fc:ω zV (QI IY SY) ["spots","share","x","y"]:=by
 rintro ds Q ⟨j,N,rfl,⟨hN,T⟩,U,B,q⟩;rw[cO 3 rfl];unfold QI;erw[iY,Bt,aM,cF,bZ,cC];have f:∀{d:Int},d∣N->BL 500 d:=λ{d} V=>T.le (HX ν (jV.mpr V));show dP (λg=>g=[ap (.lst (j.map λw=>y7 w.1)),ap (.int 1),ξ,ξ]) (λK D=>?_) ?_
 ·nofun;show D _ rfl
 rintro g rfl;show dP (λg=>∃(M:Int)(x y:Option L2.R2.S),(0<M/\M∣N/\∀w∈j,w.1.2.1∣M/\w.1.2.2.2∣M)/\g=[ap (.lst (j.map λw=>y7 w.1)),ap (.int M),x,y]) (λK D=>?_) ?_
 ·nofun;show Li (λw=>y7 w.1) j (λdone g=>∃(M:Int)(x y:Option L2.R2.S),(0<M/\M∣N/\∀w∈done,w.1.2.1∣M/\w.1.2.2.2∣M)/\g=[ap (.lst (j.map λw=>y7 w.1)),ap (.int M),x,y]) ?_ ?_ #[1,ξ,ξ,#[μ,iZ _,η],rfl]
  ·rintro done w rest g e ⟨M,u,v,⟨s,C,m⟩,rfl⟩ F _ W;let⟨I,_,_⟩:=B w (by rw[e];simp);unfold GB;nofun;show#[M,_,rfl,#[s,I.qx],#[(f C).mono,(f I.dx).mono],λl X Y Z l3=>?_];have O:=l3 N C I.dx;show#[l,_,rfl,#[X,I.qy],#[(f O).mono,(f I.dy).mono],λk k0 P k2 k3=>?_];have Mk:=kE Y P;show W _ #[k,_,_,#[k0,k3 N O I.dy,λy o=>?_],rfl];rcases bV.mp o with o |o
   ·show#[kE (m y o).1 Mk,kE (m y o).2 Mk]
   ·rw[bE.mp o];show#[kE Z P,k2]
  ·rintro g ⟨M,u,v,hm,rfl⟩;show D _ #[M,u,v,hm,rfl]
 rintro g ⟨M,x,y,⟨s,C,m⟩,rfl⟩;let⟨c,R⟩:=C;have c0:0<c:=by
  apply Int.not_le.mp;intro h;have:=rK (lB s) h;lia
 have A:BL 500 M:=f #[c,R];have E:N=c*M:=by rw[R,lD]
 nofun;show#[iP ε,?_];show nK (λg=>∃a b,g=[a,b,ap (.int M)]) (λw:Sp×Pt=>y7 w.1) (λw=>pt (w.1.1*(M / w.1.2.1),w.1.2.2.1*(M / w.1.2.2.2))) j ?_ #[_,_,rfl] ?_
 ·rintro w i g ⟨a,b,rfl⟩ K' qg;let⟨I,G,H⟩:=B w i;have d1:=m w i;have p1:=I.qx;have p2:=I.qy;nofun;have J:BL 500 (M.fdiv w.1.2.1):=A.fdiv;have L:BL 500 (M.fdiv w.1.2.2.2):=A.fdiv;show#[((f I.dx).mono (n:=9000) μ).divOk ν,G.mulOk J,((f I.dy).mono (n:=9000) μ).divOk ν,H.mulOk L,?_];rw[eM _ ν,eM _ ν];show qg _ #[_,_,rfl]
 ·have r:=q c M (λw=>(w.1.1*(M / w.1.2.1),w.1.2.2.1*(M / w.1.2.2.2))) c0 s E λw i=>by
   let⟨I,_,_⟩:=B w i;show oN (Fq I.qx (m w i).1 I.ex E) (Fq I.qy (m w i).2 I.ey E)
  show#[M,j.map λw=>(w.1.1*(M / w.1.2.1),w.1.2.2.1*(M / w.1.2.2.2)),by rw[gv,cP];rfl,#[s,A.mono],λz hz=>?_,~~~U,r];let⟨w,i,rfl⟩:=bK.mp hz;let⟨I,G,H⟩:=B w i;have J:BL 500 (M / w.1.2.1):=by rw[<-eM _ (lB I.qx)];show A.fdiv
  have L:BL 500 (M / w.1.2.2.2):=by rw[<-eM _ (lB I.qy)];show A.fdiv
  show#[(G.mul J).mono,(H.mul L).mono]
def SI(h:b∣a*d)(c:dW a b=1):b∣d:=by
 have e:=jV.mpr h;rw[jG] at e;show jV.mp (mY (show PF b.natAbs a.natAbs by rw[Nat.coprime_comm];show c) e)
def Bb(l:jz a b p q):q∣b:=SI (a:=p) #[a,by rw[l.worth,lD]] l.cop
def Lp(d:0<b)(l:jz a b p q):p.natAbs<=a.natAbs:=by
 let⟨k,c⟩:=Bb l;have f:k≠0:=λz=>by rw[z,KN] at c;lia
 have e:a=p*k:=dZ (a:=q) (by have:=l.pos;lia) (by rw[<-l.worth,c];grind);rw[e,jG];show rZ _ ν
abbrev wSp(s t:P2)(b:Bool)(d:P2):ι Sp:=match b with
 |true=>[(0,1,0,1),(1,1,s.1,s.2),(1,1,t.1,t.2)]
 |false=>[(0,1,0,1),(1,1,t.1,t.2),(0,1,d.1,d.2)]
structure rh(p:P2):Prop where
 pos:0<p.2
 top:p.2<=40
 bl:BL 250 p.1
def rh.bot(h:rh p):BL 6 p.2:=BL.of_lt (m:=6) (by have:=h.pos;lia) (by have:=h.top;lia)
def W3{a b c:Pt}{d:ι Pt}(N:m5 M [a,b,c] m sh d):∃p q r,d=[p,q,r]:=by
 have e:=Φ iM N.cs_eq;rw[aG] at e
 match d,e with
 | [p,q,r],_=>show#[p,q,r,rfl]
def Z0{c:Int}(f:0<c)(l:mf [jx c a,jx c b,jx c d])(m:¬g_ (jx c b) (jx c a))(n:¬g_ (jx c d) (jx c a))(h:ps=[a,b,d]):pc ps a [b,d]:=by
 have i:mf [a,b,d]:=mf.unscl f (cs:=[a,b,d]) l;have j:∀{x y:Pt},g_ x y->g_ (jx c x) (jx c y):=λ{x y} k=>by
  rcases k with k | ⟨k,o⟩
  ·show .inl (lP k f)
  ·show .inr #[by show c*x.1=c*y.1;rw[k],lP o f]
 show n_.c #[i,λq e k=>?_,λq e=>by rw[h];show e,λx y g q e=>i.side g (by rw[h] at e;show e)];erw[aP,dN,or_false] at e;rcases e with rfl |rfl
 ·show m (j k)
 ·show n (j k)
def QN{s t d:P2}(l:rh s)(h:rh t)(R:vm s t)(J:b=χ->jz (t.1*s.2-s.1*t.2) (t.2*s.2) d.1 d.2)(q:∀w:Wd,Q (vh w)):zV [.lst ((wSp s t b d).map y7)] Q:=by
 have sp:=l.pos;have v:=h.pos;have g:(0:Int)<1:=μ
 have o:BL 1000 (0:Int):=(BL.const (n:=10) μ).mono;have A:BL 1000 (1:Int):=(BL.const (n:=10) μ).mono;have E:0<s.2*t.2:=fT sp v;have F:BL 500 (s.2*t.2):=(l.bot.mul h.bot).mono;have G:=Qm R b;have lt:=R.lt;have fin:∀(c M:Int)(f:Sp×Pt->Pt)(i j k:Sp×Pt),0<c->[i.2,j.2,k.2]=Mm s t b->(∀w∈[i,j,k],w.2=jx c (f w)) ->
   ∃z T,pc ([i,j,k].map f) z T/\∀m y B,m5 M (z::T) m y B->Q (.tup [.int y,.tup (B.map pt)]):=λc M f i j k u e a=>by
  have C:=a i η;have H:=a j η;have I:=a k η;rw[<-e] at G;show#[f i,[f j,f k],Z0 u (by rw[<-C,<-H,<-I];show G) ?_ ?_ rfl,λm y B N=>?_]
  ·rw[<-C,<-H];cases b <;> (erw[Mm,CJ] at e;rw[e.1,e.2.1];unfold g_;fail;lia)
  ·rw[<-C,<-I];cases b <;> (erw[Mm,CJ] at e;rw[e.1,e.2.2.1];unfold g_;fail;lia)
  ·let⟨K,O,P,rfl⟩:=W3 N;show q (y,K,O,P)
 cases b with
 |true=>
  show#[[((0,1,0,1),(0,0)),((1,1,s.1,s.2),(s.2*t.2,s.1*t.2)),((1,1,t.1,t.2),(s.2*t.2,t.1*s.2))],s.2*t.2,rfl,#[E,F],η,λw a=>?_,λc M f u _ _ D=>.inl (fin c M f _ _ _ u rfl D)];erw[aP,dN,or_false] at a;rcases a with rfl |rfl |rfl
  ·show#[#[g,g,iZ _,iZ _,η,η],o,o]
  ·show#[#[g,sp,iZ _,#[t.2,rfl],η,by fail;grind],A,l.bl.mono]
  ·show#[#[g,v,iZ _,#[s.2,lD ..],η,by fail;grind],A,h.bl.mono]
 |false=>
  have L:=J rfl;have U:d.2∣s.2*t.2:=by rw[lD];show Bb L
  have V:BL 1000 d.1:=by
   have:=Lp (fT v sp) L;show(((h.bl.mul l.bot).sub (l.bl.mul h.bot)).mono:BL 1000 _).le this
  show#[[((0,1,0,1),(0,0)),((1,1,t.1,t.2),(s.2*t.2,t.1*s.2)),((0,1,d.1,d.2),(0,t.1*s.2-s.1*t.2))],s.2*t.2,rfl,#[E,F],η,λw a=>?_,λc M f u _ _ D=>.inl (fin c M f _ _ _ u rfl D)];erw[aP,dN,or_false] at a;rcases a with rfl |rfl |rfl
  ·show#[#[g,g,iZ _,iZ _,η,η],o,o]
  ·show#[#[g,v,iZ _,#[s.2,lD ..],η,by fail;grind],A,h.bl.mono]
  ·show#[#[g,L.pos,iZ _,U,η,by fail;have:=L.worth;grind],o,V]
def XW:FD:=λa Q=>∃s t:P2,a=[pt s,pt t]/\(rh s/\rh t/\vm s t)/\∀w:Wd,Q (vh w)
def Uw:ω XW (BE zV) ["lean","steeper"]:=by
 rintro e Q ⟨s,t,rfl,⟨a,c,R⟩,q⟩;rw[cO 0 rfl];unfold BE;nofun;show QN (b:=ζ) (d:=(0,1)) a c R (λz=>by cases z) q
def Uu:ω XW (BC iW zV) ["lean","steeper"]:=by
 rintro f Q ⟨s,t,rfl,⟨a,c,R⟩,q⟩;rw[cO 0 rfl];unfold BC;nofun;show#[t.1,t.2,s.1,s.2,rfl,#[c.pos,a.pos],#[c.bl.mono,c.bot.mono,a.bl.mono,a.bot.mono],λp e l=>?_];show QN (b:=χ) (d:=(p,e)) a c R (λ_=>l) q
end K39
abbrev h3(t:H3):D:=.tup [.int t.1,.int t.2.1,.int t.2.2]
abbrev nj(L:uc)(z:Pt):D:=.tup [pt z,.int (zd L z)]
abbrev spots(L:uc)(cs:ι Pt):ι H3:=Pl L (cs++cs.take 1)
namespace K36
open K34 K33
def aff(S lo hi:Int)(z:Pt):Pt:=(z.1*S,z.1*lo+z.2*hi)
def Qz(S lo hi:Int)(a b c:Pt):dH (aff S lo hi a) (aff S lo hi b) (aff S lo hi c)=S*hi*dH a b c:=by unfold dH aff;fail;grind
def Wp{S lo hi:Int}(e:0<S)(f:0<hi)(h:aff S lo hi a=aff S lo hi b):a=b:=by
 unfold aff at h;erw[mW] at h;have c:a.1=b.1:=dZ ν h.1;have d:a.2=b.2:=dZ (a:=hi) ν (by have:=h.2;rw[c] at this;lia);show oN c d
def aff_cvx{S lo hi:Int}(d:0<S)(e:0<hi)(c:mf P):mf (P.map (aff S lo hi)):=c.map (fT d e) (Qz S lo hi) λa b h=>Wp d e h
def M3:ι Pt->ι (Pt×Pt)
 | []=>[]
 | [_]=>[]
 |a::b::r=>(a,b)::M3 (b::r)
theorem VN:∀{l:ι Pt}{a b:Pt},wu l a b->(a,b)∈M3 l
 |l,a,b,⟨[],r,e⟩=>by subst e;show cT
 |l,a,b,⟨[x],r,e⟩=>by subst e;show bH _ (VN #[[],r,rfl])
 |l,a,b,⟨x::y::t,r,e⟩=>by subst e;show bH _ (VN #[y::t,r,rfl])
def U1(P:ι Pt):Bool:=decide (3<=P.length) && decide P.Nodup && (M3 (P++P.take 1)).all λp=>P.all λq=>decide (q=p.1) ||decide (q=p.2) ||decide (0<dH p.1 p.2 q)
def cvxB_ok(h:U1 P=ζ):mf P:=by
 unfold U1 at h;erw[jY,decide_eq_true_eq] at h;show#[h.1.1,h.1.2,λa b c q d e f=>?_];have:=tW.mp (tW.mp h.2 _ (VN c)) q d;erw[vE,decide_eq_true_eq] at this;rcases this with(z |z) |z
 ·show Ψ z e
 ·show Ψ z f
 ·show z
end K36
namespace K39
open K34 K33
def Vx:mf [((0:Int),(0:Int)),(1,0),(1,1),(0,1)]:=K36.cvxB_ok θ
def C7{c:Int}(b:0<c){T e:ι Pt}(g:mf ((z::T).map (jx c)))(l:∀q∈T,¬g_ (jx c q) (jx c z))(h:∀q,q∈e↔q∈z::T):pc e z T:=by
 have f:mf (z::T):=mf.unscl b g;have i:∀{x y:Pt},g_ x y->g_ (jx c x) (jx c y):=λ{x y} k=>by
  rcases k with k | ⟨k,j⟩
  ·show .inl (lP k b)
  ·show .inr #[by show c*x.1=c*y.1;rw[k],lP j b]
 show n_.c #[f,λq a k=>l q a (i k),λq a=>(h q).mpr a,λx y d q a=>f.side d ((h q).mp a)]
def Qq:FD:=λa Q=>∃s h:P2,a=[pt s,pt h]/\(rh s/\(0<h.2/\BL 400 h.2)/\BL 500 h.1/\h.1≠0)/\∀d,Q d
def Us:ω Qq (MO zV SZ) ["lean","height","zero","one"]:=by
 rintro ds Q ⟨s,h,rfl,⟨d,⟨B,C⟩,D,R⟩,q⟩;have sp:=d.pos;have u:(0:Int)<1:=μ
 have E:BL 1000 (0:Int):=(BL.const (n:=10) μ).mono;have G:BL 1000 (1:Int):=(BL.const (n:=10) μ).mono;have y:0<s.2*h.2:=fT sp B;have T:BL 500 (s.2*h.2):=(d.bot.mul C).mono;rw[cO 2 rfl];unfold MO;erw[iY,XS,aM,cF,bZ,cC];show fC [ap (pt s),ap (pt h),ap (pt (0,1)),ξ] (λK F=>?_) ?_
 ·nofun;show F
 show fC [ap (pt s),ap (pt h),ap (pt (0,1)),ap (pt (1,1))] (λK F=>?_) ?_
 ·nofun;show F
 nofun;show#[s.1,s.2,h.1,h.2,rfl,#[sp,B],#[d.bl.mono,d.bot.mono,D.mono,C.mono],λp r l=>?_];have U:BL 1000 p:=(((d.bl.mul C).add (D.mul d.bot)).mono:BL 1000 _).le (Lp y l);show#[[((0,1,0,1),(0,0)),((1,1,s.1,s.2),(s.2*h.2,s.1*h.2)),((1,1,p,r),(s.2*h.2,s.1*h.2+h.1*s.2)),((0,1,h.1,h.2),(0,h.1*s.2))],s.2*h.2,rfl,#[y,T],η,λw A=>?_,λc M f H _ _ I=>.inl ?_]
 ·erw[aP,dN,or_false] at A;rcases A with rfl |rfl |rfl |rfl
  ·show#[#[u,u,iZ _,iZ _,η,η],E,E]
  ·show#[#[u,sp,iZ _,#[h.2,rfl],η,by fail;grind],G,d.bl.mono]
  ·show#[#[u,l.pos,iZ _,Bb l,η,l.worth],G,U]
  ·show#[#[u,B,iZ _,#[s.2,lD ..],η,by fail;grind],E,D.mono]
 ·have J:=λw A=>(I w A).symm;erw[aP,dN,or_false,forall_eq_or_imp,forall_eq] at J;let⟨i,g,j,o⟩:=J;clear I;erw[aM,cF];generalize f ((0,1,0,1),(0,0))=L at *;generalize f ((1,1,s.1,s.2),(s.2*h.2,s.1*h.2))=N at *;generalize f ((1,1,p,r),(s.2*h.2,s.1*h.2+h.1*s.2))=O at *;generalize f ((0,1,h.1,h.2),(0,h.1*s.2))=P at *;have V:0<h.1*s.2\/h.1*s.2<0:=by
   rcases Int.lt_or_gt_of_ne R with k |k
   ·show .inr (Int.mul_neg_of_neg_of_pos k sp)
   ·show .inl (fT k sp)
  rcases V with k |k
  ·show#[L,[N,O,P],C7 H ?_ (λq v=>?_) (λq=>Iff.rfl),λm W X _=>q _]
   ·rw[aM,aM,aM,aM,cF,i,g,j,o];have:=K36.aff_cvx (lo:=s.1*h.2) y k Vx;simpa [K36.aff] using this
   ·erw[aP,dN,or_false] at v;rcases v with rfl |rfl |rfl
    ·rw[i,g];unfold g_;fail;lia
    ·rw[i,j];unfold g_;fail;lia
    ·rw[i,o];unfold g_;fail;lia
  ·show#[P,[O,N,L],C7 H ?_ (λq v=>?_) (λq=>by erw[aP,dN,or_false];constructor <;> (rintro (z |z |z |z) <;> simp[z])),λm W X _=>q _]
   ·rw[aM,aM,aM,aM,cF,i,g,j,o];have:=Vx.map (f:=λz:Pt=>(z.1*(s.2*h.2),z.1*(s.1*h.2)+z.2*(-(h.1*s.2))+h.1*s.2)) (k:=s.2*h.2 * -(h.1*s.2)) (fT y ν) (λa b c=>by unfold dH;fail;grind) (λa b e=>by
     erw[mW] at e;have g:a.1=b.1:=dZ (a:=s.2*h.2) ν e.1;have j:a.2=b.2:=dZ (a:=-(h.1*s.2)) ν (by rw[g] at e;lia);show oN g j)
    have Y:s.1*h.2 + -(h.1*s.2)+h.1*s.2=s.1*h.2:=ν;have Z:-(h.1*s.2)+h.1*s.2=0:=ν;simpa [Y,Z] using this
   ·erw[aP,dN,or_false] at v;rcases v with rfl |rfl |rfl
    ·rw[o,j];unfold g_;fail;lia
    ·rw[o,g];unfold g_;fail;lia
    ·rw[o,i];unfold g_;fail;lia
end K39
abbrev lS(R:ι (ι Pt)):ι mG:=(R.map rR).flatten
theorem flat_len{α β:Type}(f:α->ι β)(n:Nat):∀(l:ι α),(∀x∈l,(f x).length<=n)->((l.map f).flatten).length<=n*l.length
 | [],_=>dL _
 |x::l,h=>by
  have b:=h x (.head _);have c:=flat_len f n l λy a=>h y (.tail _ a);rw[aM,jJ,aU,aQ,Nat.mul_succ];lia
def Cf:FD:=λa Q=>∃s:mG,a=[qo s]/\Q (.int (k5 s))
def XQ:ω Cf QL ["side"]:=by
 rintro a Q ⟨s,rfl,q⟩;rw[cO 0 rfl];unfold QL;nofun;show q
structure za(s:mG):Prop where
 x1:BL 200 s.1.1
 y1:BL 200 s.1.2
 x2:BL 200 s.2.1
 y2:BL 200 s.2.2
def Xx(z w:Pt):jF [z.1,z.2] [w.1,w.2]=decide (g_ z w):=by
 unfold g_;erw[jF];by_cases h:z.1=w.1
 ·rw[Ω h];by_cases a:z.2=w.2
  ·rw[Ω a];simp[h,a]
  ·rw[υ a];simp[h]
 ·rw[υ h];simp[h]
def Vw{L:ι IP}{a:ι (ι Int)}(p:a.Perm (L.map λz=>[z.1,z.2]))(h:a.Pairwise λx y=>jF y x=χ):∃M:ι IP,M.Perm L/\a.map uE=M.map pt/\M.Pairwise λx y=>¬g_ y x:=by
 have c:∀b∈a,[b.getD 0 0,b.getD 1 0]=b:=λb d=>by
  let⟨z,_,rfl⟩:=bK.mp (p.mem_iff.mp d);rfl
 show#[a.map λl=>(l.getD 0 0,l.getD 1 0),?_,?_,?_]
 ·have:=p.map λl:ι Int=>(l.getD 0 0,l.getD 1 0);rw[cP] at this;have e:((λl:ι Int=>((l.getD 0 0,l.getD 1 0):IP)) ∘ λz:IP=>[z.1,z.2])=id:=by funext z;rfl
  rw[e,pM] at this;show this
 ·rw[cP];show kY λb d=>?_;show D.tup (b.map .int)=D.tup [.int (b.getD 0 0),.int (b.getD 1 0)]
  conv=>lhs;rw[<-c b d]
  rfl
 ·rw[fP];show h.imp_of_mem λ{x y} f g k=>?_;rw[<-c x f,<-c y g] at k;have:=Xx (y.getD 0 0,y.getD 1 0) (x.getD 0 0,x.getD 1 0);rw[k] at this;show of_decide_eq_false this.symm
theorem My:∀(M:ι IP),gL (λa b=>D.tup [a,b]) (alt ((M.map pt).drop 0)) (alt ((M.map pt).drop 1))=(vC M).map λz=>D.tup [pt z.1,pt z.2]
 | []=>by simp[alt,vC]
 | [x]=>by simp[alt,vC]
 |x::y::r=>by
  have c:=My r;erw[EG] at c⊢;have e:alt (((x::y::r).map pt).drop 1)=pt y::alt ((r.map pt).drop 1):=by
   cases r with
   |nil=>simp[alt]
   |cons w r=>simp[alt]
  have d:alt ((x::y::r).map pt)=pt x::alt (r.map pt):=by simp[alt]
  rw[e,d,jL,c];rfl
def G1(n:Nat)(z w:IP):ma (jc (n+1)) [.int z.1,.int z.2] [.int w.1,.int w.2]=ψ (decide (z=w)):=by
 let⟨a,b⟩:=z;let⟨c,d⟩:=w;erw[jc,ma];congr 1;by_cases e:a=c <;> by_cases f:b=d <;> simp[e,f]
def Qx(B c:Int)(z:IP×IP)(d:D):Prop:=∃a b e f g h i j,(jz z.1.1 B a b/\jz z.1.2 B e f/\jz z.2.1 B g h/\jz z.2.2 B i j)/\d = .tup [.int c,fr a b,fr e f,fr g h,fr i j]
inductive ii(B c:Int):List (IP×IP)->List D->Prop
 |nil:ii B c [] []
 |cons {z:IP×IP} {d:D} {zs:List (IP×IP)} {ds:List D} (h:Qx B c z d) (t:ii B c zs ds):ii B c (z::zs) (d::ds)
def ii.snoc{B c:Int}{a:ι (IP×IP)}(t:ii B c a ds)(h:Qx B c z d):ii B c (a++[z]) (ds++[d]):=by
 induction t with
 |nil=>show .cons h .nil
 |cons b _ e=>show .cons b e
def ii.length{B c:Int}{a:ι (IP×IP)}(t:ii B c a ds):a.length=ds.length:=by
 induction t with
 |nil=>rfl
 |cons _ _ b=>rw[aQ,aQ,b]
abbrev kept(M:ι IP):ι (IP×IP):=(vC M).filter λz=>decide (z.1≠z.2)
theorem WR{α:Type}:∀L:ι α,(vC L).length<=L.length
 | []=>aS _
 | [x]=>dL _
 |x::y::r=>by have:=WR r;rw[vC,aQ,aQ,aQ];lia
structure rn(S:List mG)(c:Int)(B:Int)(M:List IP)(rows:List D):Prop where
 pos:0<B
 dv:∀s∈S,k5 s∣B
 bB:BL 50 B
 perm:M.Perm (S.map (o8 B c))
 up:sS M
 rows:ii B c (kept M) rows
structure nk(R:List (List Pt))(o:Int):Prop where
 len:R.length<=3
 each:∀g∈R,g.length<=5
 near:∀s∈lS R,o<=s.1.1/\s.2.1<=o+5
 bd:∀s∈lS R,za s
 unc:∀c,Ci (lS R) c
inductive AllB(Sd:List mG):List Int->List D->Prop
 |nil:AllB Sd [] []
 |cons {c B:Int} {M:List IP} {r rows:List D} {cs:List Int} (h:rn (Sd.filter (cov c)) c B M r) (t:AllB Sd cs rows):AllB Sd (c::cs) (r++rows)
def F_bands:FD:=λd Q=>∃(R:ι (ι Pt))(o:Int),d=[OU R]/\nk R o/\∀b a,b.Pairwise (· < ·)->(∀c,c∈b↔∃s∈lS R,cov c s=ζ)->AllB (lS R) b a->b.length<=5->Q (.lst a)
def Bc(f:0<M)(g:0<q)(a:dW p q=1)(w:p*M=v*q):jz v M p q:=by
 have h:q∣M:=by
  have d:q.natAbs∣p.natAbs*M.natAbs:=by
   rw[<-jG,w,jG];show Nat.dvd_mul_left ..
  show jV.mp (mY (show PF q.natAbs p.natAbs from by
   have:Nat.gcd p.natAbs q.natAbs=1:=a;rw[PF,vY];show this) d)
 have j:q<=M:=uH f h;show#[g,a,w,?_,ν];have e:p.natAbs*M.natAbs=v.natAbs*q.natAbs:=by rw[<-jG,w,jG]
 have b:q.natAbs<=M.natAbs:=ν
 have i:0<M.natAbs:=ν
 apply Nat.le_of_mul_le_mul_right (c:=M.natAbs) ?_ i;rw[e];show HL _ b
def jz.scale(h:jz a b p q)(c:0<k)(d:0<b):jz (a*k) (b*k) p q:=
 Bc (fT d c) h.pos h.cop (by rw[<-WY,h.worth];grind)
def jz.minus{M v w a b c d p q:Int}(g:0<M)(e:jz v M a b)(f:jz w M c d)(h:jz (a*d-c*b) (b*d) p q):jz (v-w) M p q:=by
 show Bc g h.pos h.cop ?_;have i:0<b*d:=fT e.pos f.pos;show dZ (a:=b*d) ν ?_;have j:=e.worth;have k:=f.worth;have l:=h.worth;grind
def jz.bl(h:jz v M p q)(a:BL n v)(b:BL n M):BL n p/\BL n q:=#[a.le h.lea,b.le h.leb]
structure Row where
 x:Int
 l0:Int×Int
 l1:Int×Int
 u0:Int×Int
 u1:Int×Int
abbrev Vm(r:Row):D:=.tup [.int r.x,fr r.l0.1 r.l0.2,fr r.l1.1 r.l1.2,fr r.u0.1 r.u0.2,fr r.u1.1 r.u1.2]
structure x5(M:Int)(r:Row)(a b c d:Int):Prop where
 l0:jz a M r.l0.1 r.l0.2
 l1:jz b M r.l1.1 r.l1.2
 u0:jz c M r.u0.1 r.u0.2
 u1:jz d M r.u1.1 r.u1.2
 ba:BL 400 a
 bb:BL 400 b
 bc:BL 400 c
 bd:BL 400 d
def D5:FD:=λe Q=>∃(M:Int)(r:Row)(a b c d:Int),e=[Vm r]/\(0<M/\BL 400 M)/\x5 M r a b c d/\∀p q,jz (c-a) M p q->Q (fr p q)
def D6:FD:=λe Q=>∃(M:Int)(r:Row)(a b c d:Int),e=[Vm r]/\(0<M/\BL 400 M)/\x5 M r a b c d/\∀p q,jz (d-b) M p q->Q (fr p q)
def OR:ω D5 (FY iW) ["row"]:=by
 rintro k Q ⟨M,r,a,b,c,d,rfl,⟨h,e⟩,V,q⟩;rw[cO 0 rfl];unfold FY;nofun;show SG (qW (j:=3) rfl) ?_;have f:=V.u0.bl V.bc e;have g:=V.l0.bl V.ba e;show#[_,_,_,_,rfl,#[V.u0.pos,V.l0.pos],#[f.1.mono,f.2.mono,g.1.mono,g.2.mono],λp i L=>q p i (V.u0.minus h V.l0 L)]
def MN:ω D6 (DF iW) ["row"]:=by
 rintro k Q ⟨M,r,a,b,c,d,rfl,⟨h,e⟩,V,q⟩;rw[cO 0 rfl];unfold DF;nofun;show SG (qW (j:=4) rfl) ?_;have f:=V.u1.bl V.bd e;have g:=V.l1.bl V.bb e;show#[_,_,_,_,rfl,#[V.u1.pos,V.l1.pos],#[f.1.mono,f.2.mono,g.1.mono,g.2.mono],λp i L=>q p i (V.u1.minus h V.l1 L)]
namespace K23
structure pb(R:List (List Pt)):Prop where
 len:R.length<=5
 each:∀g∈R,g.length<=10
 wide:∀s∈lS R,k5 s<=40
def pb.pos:∀s∈lS R,0<k5 s:=λs a=>by
 let⟨l,b,a⟩:=tX.mp a;let⟨g,c,rfl⟩:=bK.mp b;show(Qb a).2
def pb.slen(o:pb R):(lS R).length<=50:=by
 have:=flat_len rR 10 R λg a=>dC (Qa g) (o.each g a);have:=o.len;show((R.map rR).flatten).length<=50;lia
def Xi{s:mG}(h:k5 s<=40):(l7 s).length<=40:=by unfold l7;rw[aG,eI];lia
def F_byCol:FD:=λc Q=>∃R:ι (ι Pt),c=[OU R]/\pb R/\∀a b,ud (lS R) a b->Q (.dct a b)
def pure_sides_by_column:ω F_byCol (xS NE) ["rings","columns","ring","side","column"]:=by
 rintro T Q ⟨R,rfl,ok,q⟩;rw[cO 4 rfl];unfold xS;have fits:∀E:ι Ev,(∃n,(((lS R).map l7).flatten)=E++n)->E.length<=2000:=λE ⟨n,e⟩=>by
  have o:=flat_len l7 40 (lS R) λs y=>Xi (ok.wide s y);have z:=ok.slen;have h3:=HL 40 z;rw[e,aU] at o;lia
 show dP (λa=>a=[ap (OU R),ψ (.dcl (kvsOf [])),ξ,ξ,ξ]) (λK l=>?_) ?_
 ·nofun;show l _ rfl
 rintro a rfl;show dP (λa=>∃u v w,a=[ap (OU R),ψ (.dcl (kvsOf (((lS R).map l7).flatten))),u,v,w]) (λK l=>?_) ?_
 ·erw[jS,riL,bC,aA];show nB (λj a=>∃done b:ι (ι Pt),R=done++b/\j=b.map gv/\∃u v w,a=[ap (OU R),ψ (.dcl (kvsOf (((lS done).map l7).flatten))),u,v,w]) ?_ ?_ _ _ #[[],R,rfl,rfl,_,_,_,rfl]
  ·rintro x j a ⟨done,b,h,c,u,v,w,rfl⟩ F U V A W;cases b with
   |nil=>cases c
   |cons g b=>
    rw[aM] at c;injection c with ex c;subst ex c;have B:g∈R:=(by rw[h];show bI _ (.head _));unfold tV;erw[cJ,jS,riL,cH,aE,aV,bC,aA,aB,aI,aK];show#[g,rfl,dC (ok.each g B) μ,?_];fail;have C:lS R=(lS done++rR g)++lS b:=(by rw[h];simp[lS]);show nB (λj a=>∃f d:ι mG,rR g=f++d/\j=d.map qo/\∃v w,a=[ap (OU R),ψ (.dcl (kvsOf (((lS done++f).map l7).flatten))),ap (gv g),v,w]) ?_ ?_ _ _ #[[],rR g,rfl,rfl,v,w,by rw[bU]]
    ·rintro x j a ⟨f,d,k,c,v,w,rfl⟩ X D G H Y;cases d with
     |nil=>cases c
     |cons s d=>
      rw[aM] at c;injection c with ex c;subst ex c;unfold tU;erw[cJ,jS,Vi,aE,aV,r2,bD,rC,nM,sT,aA,aB,aI,aK];have I:(s.2.1-s.1.1).toNat=(k5 s).toNat:=rfl;rw[I];show wB s.1.1 (k5 s).toNat (λi a=>∃w,a=[ap (OU R),ψ (.dcl (kvsOf (((lS done++f).map l7).flatten++(l7 s).take i))),ap (gv g),ap (qo s),w]) ?_ ?_ _ #[w,by rw[pN,bU]]
      ·rintro i a hi ⟨w,rfl⟩ Z J Pi m L;have M:(l7 s)[i]?=ψ (s.1.1+(i:Int),s):=(by unfold l7;rw[bJ,kX hi];rfl);have N:(l7 s).take (i+1)=(l7 s).take i++[(s.1.1+(i:Int),s)]:=(by rw[hX,M];rfl);obtain⟨⟨k1,O⟩,_⟩:=Ik (((lS done++f).map l7).flatten++(l7 s).take i);have yb:=fits (((lS done++f).map l7).flatten++(l7 s).take i) #[(l7 s).drop i++(d.map l7).flatten++((lS b).map l7).flatten,by
        rw[C,k];erw[aX,aM,qK,jJ,cL];rw[<-cL ((l7 s).take i),iR]]
       unfold tT;erw[cJ,ZE,bC,aA,aB,aI,aK];show#[iP ν,λp P=>iP (by have:=O p P;lia),?_];show m _ #[ap (.int (s.1.1+(i:Int))),?_];rw[N,<-cL,Dy]
      ·rintro a ⟨w,rfl⟩;show H _ #[f++[s],d,by rw[k];simp,rfl,ap (qo s),w,?_];have:(l7 s).take (k5 s).toNat=l7 s:=eF (by unfold l7;simp);rw[this,<-cL,aX,qK];simp
    ·rintro a ⟨f,d,k,c,v,w,rfl⟩;have:d=[]:=(by cases d with |nil=>rfl |cons _ _=>cases c);subst this;rw[bU] at k;show A _ #[done++[g],b,by rw[h];simp,rfl,ap (gv g),v,w,?_];rw[<-k];simp[lS]
  ·rintro a ⟨done,b,h,c,u,v,w,rfl⟩;have:b=[]:=(by cases b with |nil=>rfl |cons _ _=>cases c);subst this;rw[bU] at h;rw[<-h];show l _ #[u,v,w,rfl]
 rintro a ⟨u,v,w,rfl⟩;erw[oP,S.fz,fE,bC,aA,aB,aI,aK];show q _ _ (U0 (lS R) pb.pos)
def Gy:FD:=λb Q=>∃a:ι Int,b=[il a]/\a.length<=10/\(∀w∈a,0<w/\w<=40)/\∀B,0<B->(∀w∈a,w∣B)->BL 60 B->Q (.int B)
structure za(s:mG):Prop where
 x1:BL 210 s.1.1
 y1:BL 210 s.1.2
 x2:BL 210 s.2.1
 y2:BL 210 s.2.2
def F_hgt:FD:=λa Q=>∃(s:mG)(t B:Int),a=[qo s,.int t,.int B]/\(za s/\k5 s≠0/\BL 212 t/\BL 60 B)/\Q (.int (hB B s t))
def pure_height_at:ω F_hgt (MP Cf) ["side","thread","bottom","left","width","climb"]:=by
 rintro h Q ⟨s,t,B,rfl,⟨b,f,e,g⟩,q⟩;rw[cO 3 rfl];unfold MP;have c:BL 211 (k5 s):=b.x2.sub b.x1;show dP (λa=>a=[ap (qo s),ap (.int t),ap (.int B),ap (pt s.1),ξ,ξ]) (λK d=>?_) ?_
 ·nofun;show d _ rfl
 rintro a rfl;show dP (λa=>a=[ap (qo s),ap (.int t),ap (.int B),ap (pt s.1),ap (.int (k5 s)),ξ]) (λK d=>?_) ?_
 ·erw[fZ,cH,aE,aV,bC,aA,aB,aI,aK];show#[s,rfl,d _ rfl]
 rintro a rfl;nofun;show#[(b.y2.sub b.y1).mulOk (e.sub b.x1),b.y1.mulOk c,(c.mono).divOk f,?_,q];show((b.y1.mul c).add ((b.y2.sub b.y1).mul (e.sub b.x1))).mulOk (g.fdiv)
structure C_(S:List mG)(c B:Int):Prop where
 len:S.length<=10
 bd:∀s∈S,za s
 ok:∀s∈S,0<k5 s
 cb:BL 210 c
 pos:0<B
 dv:∀s∈S,k5 s∣B
 bB:BL 60 B
def F_ordH:FD:=λa Q=>∃(S:ι mG)(c B:Int),a=[MT S,.int c,.int B]/\C_ S c B/\(∀x∈S.map (o8 B c),∀y∈S.map (o8 B c),x.1<y.1->x.2<=y.2)/\∀M:ι IP,M.Perm (S.map (o8 B c))->sS M->Q (gv M)
def pure_ordered_heights:ω F_ordH (xQ F_hgt) ["sides","column","bottom","heights","lower","upper"]:=by
 rintro ds Q ⟨k,c,B,rfl,ok,C,q⟩;rw[cO 3 rfl];unfold xQ;show dP (λd=>d=[ap (MT k),ap (.int c),ap (.int B),ψ (.own ((k.map (o8 B c)).map pt)),ξ,ξ]) (λK m=>?_) ?_
 ·nofun;show#[iP (by rw[aG];have:=ok.len;lia),?_];show nK (λd=>∃a,d=[a,ap (.int c),ap (.int B)]) qo (λs=>pt (o8 B c s)) k ?_ #[_,rfl] ?_
  ·rintro s E d ⟨a,rfl⟩ K' O;nofun;have w0:=ok.ok s E;show#[s,c,B,rfl,#[ok.bd s E,ν,ok.cb.mono,ok.bB],s,c+1,B,rfl,#[ok.bd s E,ν,((ok.cb.add (BL.const (n:=1) (i:=1))).mono),ok.bB],?_];nofun;show O _ #[_,rfl]
  ·have e:k.map (λs=>pt (o8 B c s))=(k.map (o8 B c)).map pt:=(by rw[cP];rfl);rw[e];show m _ rfl
 rintro d rfl;show dP (λd=>∃M:ι IP,(M.Perm (k.map (o8 B c))/\sS M)/\d=[ap (MT k),ap (.int c),ap (.int B),ψ (.own (M.map pt)),ξ,ξ]) (λK m=>?_) ?_
 ·erw[lW,Jl,bD,aA,aB,aI,aK];show#[(k.map (o8 B c)).map λz=>[z.1,z.2],by rw[cP (g:=uE)];rfl,by rw[aG,aG];have:=ok.len;lia,λns h=>?_,λP A l=>?_]
  ·let⟨z,_,rfl⟩:=bK.mp h;show λe=>by cases e
  ·let⟨M,w,G,h3⟩:=Vw A l;rw[G];show m _ #[M,#[w,Vj h3 λx R y T=>C x (w.mem_iff.mp R) y (w.mem_iff.mp T)],rfl]
 rintro d ⟨M,⟨A,H⟩,rfl⟩;show dP (λd=>∃u v,d=[ap (MT k),ap (.int c),ap (.int B),ap (gv M),u,v]) (λK m=>?_) ?_
 ·erw[oP,L2.R2.S.fz,jS,IT,bC,bD,RX,CV,rE,rC,aA,aB,aI,aK];have U:∃l:ι (IP×IP),gL (λa b=>D.tup [a,b]) (M.map pt) (cutD (M.map pt) (ψ 1) ξ)=l.map (λp=>D.tup [pt p.1,pt p.2])/\∀p∈l,p.1.2<=p.2.2:=by
   have L:cutD (M.map pt) (ψ 1) ξ=(M.drop 1).map pt:=by
    cases M with
    |nil=>rfl
    |cons a r=>show NY (j:=1) η
   rw[L];clear L A m
   induction M with
   |nil=>show#[[],rfl,λp h=>(by cases h)]
   |cons a r V=>
    cases r with
    |nil=>show#[[],rfl,λp h=>(by cases h)]
    |cons b r=>
     let⟨l,w,G⟩:=V (cG.mp H).2;show#[(a,b)::l,?_,λp I=>?_]
     ·show D.tup [pt a,pt b]::gL (λa b=>D.tup [a,b]) ((b::r).map pt) (((b::r).drop 1).map pt)=_;rw[w];rfl
     ·rcases aP.mp I with rfl |I
      ·show((cG.mp H).1 b (.head _)).2
      ·show G p I
  let⟨l,W,X⟩:=U;rw[W];show nB (λN d=>∃f:ι (IP×IP),(∀p∈f,p.1.2<=p.2.2)/\N=f.map (λp=>D.tup [pt p.1,pt p.2])/\∃u v,d=[ap (MT k),ap (.int c),ap (.int B),ap (gv M),u,v]) ?_ ?_ _ _ #[l,X,rfl,_,_,rfl]
  ·rintro x N d ⟨f,J,o,u,v,rfl⟩ F hr hb Y hc;cases f with
   |nil=>cases o
   |cons p f=>
    rw[aM] at o;injection o with ex o;subst ex o;have le:=J p (.head _);unfold tS;nofun;have:¬p.2.2<p.1.2:=ν;erw[this,decide_false,if_false,aR];show Y _ #[f,λz Z=>J z (.tail _ Z),rfl,_,_,rfl]
  ·rintro d ⟨f,J,o,u,v,rfl⟩;show m _ #[u,v,rfl]
 rintro d ⟨u,v,rfl⟩;erw[oP,L2.R2.S.fz,fE,bC,aA,aB,aI,aK];show q M A H
structure wo(S:List mG)(c:Int):Prop where
 len:S.length<=10
 bd:∀s∈S,za s
 ok:∀s∈S,0<k5 s
 wide:∀s∈S,k5 s<=40
 cb:BL 210 c
 unc:∀B,0<B->(∀s∈S,k5 s∣B)->∀x∈S.map (o8 B c),∀y∈S.map (o8 B c),x.1<y.1->x.2<=y.2
structure rn(S:List mG)(c:Int)(B:Int)(M:List IP)(rows:List D):Prop where
 pos:0<B
 dv:∀s∈S,k5 s∣B
 bB:BL 60 B
 perm:M.Perm (S.map (o8 B c))
 up:sS M
 rows:ii B c (kept M) rows
inductive AllB(Sd:List mG):List Int->List D->Prop
 |nil:AllB Sd [] []
 |cons {c B:Int} {M:List IP} {r rows:List D} {cs:List Int} (h:rn (Sd.filter (cov c)) c B M r) (t:AllB Sd cs rows):AllB Sd (c::cs) (r++rows)
def AllB.snoc(t:AllB Sd cs rows){c B:Int}(h:rn (Sd.filter (cov c)) c B M r):AllB Sd (cs++[c]) (rows++r):=by
 induction t with
 |nil=>have:=AllB.cons h .nil;simpa using this
 |cons a _ b=>rw[cL];show .cons a b
def rn.rlen{c B:Int}(h:rn Sd c B M r):r.length<=Sd.length:=by
 rw[<-h.rows.length];have a:=lY (λz:IP×IP=>decide (z.1≠z.2)) (vC M);have b:=WR M;have h3:=h.perm.length_eq;rw[aG] at h3;show((vC M).filter λz=>decide (z.1≠z.2)).length<=_;lia
def AllB.rlen(t:AllB Sd cs rows):rows.length<=cs.length*Sd.length:=by
 induction t with
 |nil=>show dL _
 | @cons c B M r rows cs h t a=>
  have b:=h.rlen;have d:=lY (cov c) Sd;rw[aU,aQ,Nat.succ_mul];lia
def F_colB:FD:=λb Q=>∃(S:ι mG)(c:Int),b=[MT S,.int c]/\wo S c/\∀B M a,rn S c B M a->Q (.lst a)
def pure_column_bands_G(hG:∀ds Q,Gy ds Q->G ds Q):ω F_colB (vN G F_ordH oZ Cf) ["sides","column","bottom","heights","rows","low","up","edges"]:=by
 rintro ds Q ⟨g,c,rfl,ok,q⟩;rw[cO 6 rfl];unfold vN;show dP (λb=>∃B,(0<B/\(∀s∈g,k5 s∣B)/\BL 60 B)/\b=[ap (MT g),ap (.int c),ap (.int B),ξ,ξ,ξ,ξ,ξ]) (λK y=>?_) ?_
 ·nofun;show#[iP (by rw[aG];have:=ok.len;lia),?_];show nK (λb=>∃a,b=[a]) qo (λs=>.int (k5 s)) g ?_ #[_,rfl] ?_
  ·rintro s H b ⟨a,rfl⟩ K' N;erw[cJ,cH,aE,aV,bC,aA,aI];show#[s,rfl,N _ #[_,rfl]]
  ·show hG _ _ #[g.map k5,by show _=[D.lst ((g.map k5).map .int)];rw[cP];rfl,by rw[aG];show ok.len,λw hw=>?_,λB h1 h2 h3=>?_]
   ·let⟨s,H,rfl⟩:=bK.mp hw;show#[ok.ok s H,ok.wide s H]
   ·show y _ #[B,#[h1,λs H=>h2 _ (eU H),h3],rfl]
 rintro b ⟨B,⟨O,P,R⟩,rfl⟩;show dP (λb=>∃M:ι IP,(M.Perm (g.map (o8 B c))/\sS M)/\b=[ap (MT g),ap (.int c),ap (.int B),ap (gv M),ξ,ξ,ξ,ξ]) (λK y=>?_) ?_
 ·erw[fZ,cH,aE,aV,bC,aA,aB,aI,aK];show#[g,c,B,rfl,#[ok.len,ok.bd,ok.ok,ok.cb,O,P,R],ok.unc B O P,λM I U=>y _ #[M,#[I,U],rfl]]
 rintro b ⟨M,⟨I,U⟩,rfl⟩;have ml:M.length<=10:=by rw[I.length_eq,aG];show ok.len
 show dP (λb=>b=[ap (MT g),ap (.int c),ap (.int B),ap (gv M),ψ (.own []),ξ,ξ,ξ]) (λK y=>?_) ?_
 ·nofun;show y _ rfl
 rintro b rfl;show dP (λb=>∃d u v w,ii B c (kept M) d/\b=[ap (MT g),ap (.int c),ap (.int B),ap (gv M),ψ (.own d),u,v,w]) (λK y=>?_) ?_
 ·erw[jS,IT,Pr,bD,aA,aB];rw[My M];have V:(vC M).length<=10:=dC (WR M) ml;generalize hT:vC M=T at V;show nB (λxs b=>∃done f:ι (IP×IP),T=done++f/\xs=f.map (λz=>D.tup [pt z.1,pt z.2])/\∃d u v w,ii B c (done.filter λz=>decide (z.1≠z.2)) d/\b=[ap (MT g),ap (.int c),ap (.int B),ap (gv M),ψ (.own d),u,v,w]) ?_ ?_ _ _ #[[],T,rfl,rfl,[],ξ,ξ,ξ,.nil,rfl]
  ·rintro x xs b ⟨done,f,E,A,d,u,v,w,C,rfl⟩ F hr hb hn hc;cases f with
   |nil=>cases A
   |cons z f=>
    rw[aM] at A;injection A with ex A;subst ex A;have rl:d.length<=10:=by
     rw[<-C.length];have h1:=lY (λz:IP×IP=>decide (z.1≠z.2)) done;rw[E] at V;simp at V;lia
    unfold xO;erw[nX,fX,cJ,nW,Zk,aI,aK,aQ,cY,true_and];erw[mQ,fJ,r2,bD,dNe,aA,aB,G1,true_and];by_cases J:z.1=z.2
    ·erw[J,decide_true,dD,aR,if_false,iV];show hn _ #[done++[z],f,by rw[E];simp,rfl,d,ap (pt z.2),ap (pt z.2),w,?_,rfl];rw[eO];simpa [J] using C
    ·erw[J,decide_false,pI,if_true];show dP (λb=>∃h i j k l m n o,(jz z.1.1 B h i/\jz z.1.2 B j k/\jz z.2.1 B l m/\jz z.2.2 B n o)/\b=[ap (MT g),ap (.int c),ap (.int B),ap (gv M),ψ (.own d),ap (pt z.1),ap (pt z.2),ψ (.own [fr h i,fr j k,fr l m,fr n o])]) (λK' N=>?_) ?_
     ·have L:B≠0/\BL 9000 B:=#[ν,R.mono];nofun;show#[η,?_];show#[_,_,rfl,L,λh i W=>#[_,_,rfl,L,λj k X=>#[_,_,rfl,L,λl m Y=>#[_,_,rfl,L,λn o Z=>?_]]]];show N _ #[h,i,j,k,l,m,n,o,#[W,X,Y,Z],rfl]
     rintro b ⟨h,i,j,k,l,m,n,o,⟨W,X,Y,Z⟩,rfl⟩;nofun;show#[iP μ,iP ν,?_];show hn _ #[done++[z],f,by rw[E];simp,rfl,d++[.tup [.int c,fr h i,fr j k,fr l m,fr n o]],ap (pt z.1),ap (pt z.2),ψ (.own [fr h i,fr j k,fr l m,fr n o]),?_,rfl];rw[eO];have e:[z].filter (λz:IP×IP=>decide (z.1≠z.2))=[z]:=(by simp[J]);rw[e];show C.snoc #[h,i,j,k,l,m,n,o,#[W,X,Y,Z],rfl]
  ·rintro b ⟨done,f,E,A,d,u,v,w,C,rfl⟩;have:f=[]:=(by cases f with |nil=>rfl |cons _ _=>cases A);subst this;rw[bU] at E;show y _ #[d,u,v,w,?_,rfl];show ii B c ((vC M).filter λz=>decide (z.1≠z.2)) d;rw[hT,E];show C
 rintro b ⟨d,u,v,w,C,rfl⟩;erw[oP,L2.R2.S.fz,fE,bC,aA,aB,aI,aK];show q B M d #[O,P,R,I,U,C]
theorem BG:∀(x y:ι Pt)(a:Pt),nO a (x++y)=nO a x++nO (LS a x) y
 | [],y,a=>rfl
 |b::x,y,a=>by
  show sd a b++nO b (x++y)=(sd a b++nO b x)++nO (LS b x) y;rw[BG x y b,cL]
def Mh(a b:Pt):sd a b=sd b a:=by
 unfold sd;rcases xZ a.1 b.1 with h |h |h
 ·rw[Ω h,υ ν,Ω h]
 ·rw[υ ν,υ ν,υ ν,υ ν]
 ·rw[υ ν,Ω h,Ω h]
def Mi(h:a.1=b.1):sd a b=[]:=by unfold sd;rw[υ ν,υ ν]
theorem Gk:∀(r:ι Pt)(a z:Pt),(nO a (r++[z])).Perm (nO z (r.reverse++[a]))
 | [],a,z=>by
  change (sd a z++[]).Perm (sd z a++[]);rw[Mh]
 |b::r,a,z=>by
  rw[pB,BG (r.reverse++[b]) [a],GV];show(sd a b++nO b (r++[z])).Perm (_++(sd b a++[]));rw[bU,Mh b a];show(gB _ (Gk r b z)).trans iQ
def Js(h0:u.1=d.1)(a:(LS u us).1=(LS d ds).1):(rR ((u::us)++(d::ds).reverse)).Perm (nO u us++nO d ds):=by
 have e:rR ((u::us)++(d::ds).reverse)=nO u us++(nO (LS u us) (ds.reverse++[d])++nO d [u]):=by
  show nO u ((us++(d::ds).reverse)++[u])=_;rw[pB,cL,BG us,BG (ds.reverse++[d]) [u],GV]
 rw[e,show nO d [u]=sd d u++[] from rfl,Mi h0.symm,bU,bU];show gB _ ((Gk ds d (LS u us)).symm.trans ?_);rw[BG ds [LS u us],show nO (LS d ds) [LS u us]=sd (LS d ds) (LS u us)++[] from rfl,Mi a.symm,bU,bU]
def T(ts:ι Int)(i:Nat):Int:=ts.getD i 0
def Hh(hss:ι (ι Int))(z j:Nat):Int:=(hss.getD z []).getD j 0
def DU(ts:ι Int)(hss:ι (ι Int))(j z:Nat):Pt:=(T ts z,Hh hss z j)
def o4(ts:ι Int)(hss:ι (ι Int))(j:Nat):ι Pt:=(bT ts.length).map (DU ts hss j)
def qh(ts:ι Int)(hss:ι (ι Int))(z j:Nat):mG:=(DU ts hss j z,DU ts hss j (z+1))
def um(ts:ι Int)(hss:ι (ι Int))(j:Nat):ι mG:=(bT (ts.length-1)).map λz=>qh ts hss z j
theorem UI(f:Nat->Pt):∀m:Nat,LS (f 0) ((bT m).map λk=>f (k+1))=f m
 | 0=>rfl
 |m+1=>by rw[eE,aX];show GV _ _ _
theorem Gh(f:Nat->Pt):∀m:Nat,(∀k,k<m->(f k).1<(f (k+1)).1)->nO (f 0) ((bT m).map λk=>f (k+1))=(bT m).map λk=>(f k,f (k+1))
 | 0,_=>rfl
 |m+1,h=>by
  rw[eE,aX,aX,BG,Gh f m (λk a=>h k ν),UI];show _++(sd (f m) (f (m+1))++[])=_;unfold sd;rw[Ω (h m ν)];rfl
def HZ(h:i<ts.length):ts[i]?=ψ (T ts i):=by unfold T;rw[dF,aL h];rfl
def Jv(h:u9 ts)(hi:i+1<ts.length):1<=T ts (i+1)-T ts i/\T ts (i+1)-T ts i<=40:=
 h.step i _ _ (HZ ν) (HZ hi)
theorem FH(h:u9 ts):∀{j:Nat},i<=j->j<ts.length->T ts i<=T ts j
 | 0,a,_=>by rw[show i=0 by lia];show rV _
 |j+1,a,b=>by
  by_cases e:i=j+1
  ·rw[e];show rV _
  ·have:=FH h (i:=i) (j:=j) ν ν;have:=Jv h b;lia
def Cv(h:2<=ts.length):o4 ts hss j=DU ts hss j 0::(bT (ts.length-1)).map λk=>DU ts hss j (k+1):=by
 unfold o4;obtain⟨m,a⟩:∃m,ts.length=m+1:=#[ts.length-1,ν];rw[a,BN,aM,cP];rfl
def ring_sides(h:u9 ts)(a b:Nat):(rR (o4 ts hss a++(o4 ts hss b).reverse)).Perm (um ts hss a++um ts hss b):=by
 have c:=h.len;rw[Cv (j:=a) c.1,Cv (j:=b) c.1];show(Js (u:=DU ts hss a 0) (d:=DU ts hss b 0) (show T ts 0=T ts 0 from rfl) ?_).trans ?_
 ·rw[UI (DU ts hss a),UI (DU ts hss b)];rfl
 ·have k:∀j,nO (DU ts hss j 0) ((bT (ts.length-1)).map λk=>DU ts hss j (k+1))=um ts hss j:=λj=>
   Gh (DU ts hss j) _ λk e=>by have:=Jv h (i:=k) ν;show T ts k<T ts (k+1);lia
  rw[k a,k b]
theorem UN(z:Nat):∀m:Nat,z<m->(bT m).filter (λk=>decide (k=z))=[z]
 | 0,h=>by lia
 |m+1,h=>by
  rw[eE,eO];by_cases e:z<m
  ·rw[UN z m e];have:¬m=z:=ν;simp[this]
  ·have a:m=z:=ν;have b:(bT m).filter (λk=>decide (k=z))=[]:=BM.mpr λk c=>by
    have:=cM.mp c;simp;lia
   rw[b];simp[a]
structure Zn(ts:List Int)(c:Int)(z:Nat):Prop where
 z1:z+1<ts.length
 lo:T ts z<=c
 hi:c<T ts (z+1)
def Wt{c:Int}(h:u9 ts)(Z:Zn ts c z)(j:Nat):(um ts hss j).filter (cov c)=[qh ts hss z j]:=by
 unfold um;rw[oJ];have e:∀k∈bT (ts.length-1),((cov c) ∘ λz=>qh ts hss z j) k=decide (k=z):=λk a=>by
  have a:=cM.mp a;have f:=Z.z1;have b:=Z.lo;have d:=Z.hi;show(decide (T ts k<=c) && decide (c<T ts (k+1)))=_;by_cases e:k=z
  ·subst e;rw[decide_eq_true b,decide_eq_true d,decide_eq_true rfl];rfl
  ·rw[decide_eq_false e];by_cases l:k<z
   ·have:=FH h (i:=k+1) (j:=z) ν ν;rw[decide_eq_false (show ¬c<T ts (k+1) by lia),wP]
   ·have:=FH h (i:=z+1) (j:=k) ν ν;rw[decide_eq_false (show ¬T ts k<=c by lia),wQ]
 rw[yB e,UN z _ (by have:=Z.z1;lia)];rfl
theorem PR{α:Type}(p:α->Bool):∀L:ι (ι α),(L.flatten).filter p=(L.map λl=>l.filter p).flatten
 | []=>rfl
 |l::L=>by rw[jJ,eO,PR p L];rfl
theorem PU{α β:Type}(f:α->β):∀L:ι α,(L.map λx=>[f x]).flatten=L.map f
 | []=>rfl
 |x::L=>by rw[aM,jJ,PU f L];rfl
def Rm{c:Int}(h:u9 ts)(Z:Zn ts c z)(L:ι Nat):((L.map (um ts hss)).flatten).filter (cov c)=L.map λj=>qh ts hss z j:=by
 rw[PR,cP];have:((λl:ι mG=>l.filter (cov c)) ∘ um ts hss)=λj=>[qh ts hss z j]:=funext λj=>Wt h Z j;rw[this,PU]
def Wd(ts:ι Int)(z:Nat):Int:=T ts (z+1)-T ts z
def hp(ts:ι Int)(hss:ι (ι Int))(z:Nat)(k:Int)(j:Nat):IP:=(ql (Wd ts z) k (Hh hss z j) (Hh hss (z+1) j),ql (Wd ts z) (k+1) (Hh hss z j) (Hh hss (z+1) j))
def LL(ts:ι Int)(hss:ι (ι Int))(n z:Nat)(k:Int):ι IP:=(bT (2*n)).map (hp ts hss z k)
def jx(f:Int)(z:IP):IP:=(z.1*f,z.2*f)
def Yx(B c:Int)(z j:Nat):o8 B c (qh ts hss z j)=jx (B.fdiv (Wd ts z)) (hp ts hss z (c-T ts z) j):=by
 unfold o8 hB jx hp qh k5 DU Wd ql;fail;congr 1
 ·congr 1;grind
 ·congr 1;grind
def Kg(C:f9 ts hss n)(hz:z<ts.length)(b:i<j)(d:j<2*n):Hh hss z i<=Hh hss z j:=by
 have f:=C.len;have e:hss[z]?=ψ (hss.getD z []):=by rw[dF,aL ν];rfl
 unfold Hh;obtain⟨A,c⟩:∃A,hss.getD z []=A:=#[_,rfl];rw[c] at e⊢;have a:=bA e;have l:=C.each _ a;have:=dJ.mp (C.up _ a) i j ν ν b;rw[dF,aL (show i<A.length by lia),dF,aL (show j<A.length by lia)];show this
def Eb{W k a b c d:Int}(h0:0<=k)(g:k<=W)(e:a<=c)(f:b<=d):ql W k a b<=ql W k c d:=by
 unfold ql;have h:=gG e (show 0<=W-k by lia);have i:=gG f h0;lia
def S9(C:f9 ts hss n)(hz:z+1<ts.length)(e:0<=k)(f:k+1<=Wd ts z):sS (LL ts hss n z k):=by
 unfold LL sS;rw[fP];show(sO (n:=2*n)).imp_of_mem λ{i j} hi a b=>?_;have a:=cM.mp a;have c:=Kg C (show z<ts.length by lia) b a;have d:=Kg C hz b a;show#[Eb e ν c d,Eb ν f c d]
def P7(a:0<=f)(h:sS L):sS (L.map (jx f)):=by
 unfold sS;rw[fP];show h.imp λ{x y} e=>#[gG e.1 a,gG e.2 a]
def Zh(p:M.Perm X)(d:sS M)(e:sS X):M=X:=
 qP (λa b _ _ h c=>oN (QR h.1 c.1) (QR h.2 c.2)) d e p
def Vk(h:sS L):∀x∈L,∀y∈L,x.1<y.1->x.2<=y.2:=by
 induction L with
 |nil=>intro x c;cases c
 |cons a L i=>
  let⟨f,j⟩:=cG.mp h;intro x c y b l;rcases aP.mp c with rfl |_
  ·rcases aP.mp b with rfl |b
   ·lia
   ·show(f y b).2
  ·rename_i g;rcases aP.mp b with e |d
   ·have:=(f x g).1;rw[e] at l;lia
   ·show i j x g y d l
theorem YV(x:IP)(Y:ι IP):∀X:ι IP,kept (X++x::x::x::Y)=kept (X++x::Y)
 | []=>by
  unfold kept;cases Y with
  |nil=>simp[vC]
  |cons y Y=>simp[vC]
 | [a]=>by
  unfold kept;erw[bZ,cC,vC,nE];simp
 |a::b::X=>by
  have c:=YV x Y X;unfold kept at *;erw[bZ,vC,nE];rw[c]
def Px(h:sS (X++x::Y)):sS (X++x::x::x::Y):=by
 let⟨f,d,h3⟩:=dI.mp h;let⟨e,i⟩:=cG.mp d;have r:x.1<=x.1/\x.2<=x.2:=#[rV _,rV _];show dI.mpr #[f,?_,λa g b c=>?_]
 ·show cG.mpr #[λb c=>?_,cG.mpr #[λb c=>?_,d]]
  ·rcases aP.mp c with rfl |c
   ·show r
   ·rcases aP.mp c with rfl |c
    ·show r
    ·show e b c
  ·rcases aP.mp c with rfl |c
   ·show r
   ·show e b c
 ·show h3 a g b ?_;rcases aP.mp c with rfl |c
  ·show .head _
  ·rcases aP.mp c with rfl |c
   ·show .head _
   ·show c
theorem YW:∀(D:ι IP){M L:ι IP},sS M->sS L->(∀x∈D,x∈L)->M.Perm (L++(D++D))->kept M=kept L
 | [],M,L,a,b,_,p=>by
  rw[bU,bU] at p;rw[Zh p a b]
 |x::D,M,L,a,b,c,p=>by
  let⟨X,Y,e⟩:=JD (c x (.head _));have q:(L++[x,x]).Perm (X++x::x::x::Y):=by
   rw[e,cL];show gB _ ?_;show(x::(Y++[x,x])).Perm (x::x::x::Y);show .cons _ (iQ (l₁:=Y) (l₂:=[x,x]))
  have d:M.Perm ((X++x::x::x::Y)++(D++D)):=by
   show p.trans (List.Perm.trans ?_ (sI (D++D) q));rw[cL];show gB _ ?_;show(x::(D++x::D)).Perm (x::x::(D++D));show .cons _ zY
  have r:=YW D a (Px (by rw[<-e];show b)) (λy f=>?_) d
  ·rw[r,YV,<-e]
  ·have:=c y (.tail _ f);rw[e] at this;rcases bV.mp this with h |h
   ·show dY _ h
   ·show bI _ (.tail _ (.tail _ h))
theorem Ge{α β:Type}(f:α->β):∀L:ι α,vC (L.map f)=(vC L).map λz=>(f z.1,f z.2)
 | []=>rfl
 | [x]=>rfl
 |x::y::r=>by rw[aM,aM,vC,vC,Ge f r];rfl
def Tg(c:0<f)(L:ι IP):kept (L.map (jx f))=(kept L).map λz=>(jx f z.1,jx f z.2):=by
 unfold kept;rw[Ge,oJ];congr 1;show yB λz _=>?_;show decide (jx f z.1≠jx f z.2)=decide (z.1≠z.2);have:jx f z.1=jx f z.2↔z.1=z.2:=by
  constructor
  ·intro e;have a:=Φ Cg e;have b:=Φ Ch e;show oN (dZ ν a) (dZ ν b)
  ·intro e;rw[e]
 simp[this]
def SQ{a W f p q b c:Int}(d:0<W)(e:0<f)(h:jz a W p q)(h':jz (a*f) (W*f) b c):b=p/\c=q:=
 K12.low_eq (fT d e) h' (h.scale e d)
theorem Me{W f c:Int}(a:0<W)(b:0<f):∀{zs:ι (IP×IP)}{r r':ι D},ii W c zs r->ii (W*f) c (zs.map λz=>(jx f z.1,jx f z.2)) r'->r'=r
 | [],_,_,h,d=>by cases h;cases d;rfl
 |z::zs,_,_,h,d=>by
  cases h with
  |cons h t=>
   cases d with
   |cons d e=>
    obtain⟨C,E,F,G,H,I,J,K,⟨g,i,j,k⟩,rfl⟩:=h;obtain⟨l,m,n,o,q,s,u,v,⟨w,y,A,B⟩,rfl⟩:=d;let⟨rfl,rfl⟩:=SQ a b g w;let⟨rfl,rfl⟩:=SQ a b i y;let⟨rfl,rfl⟩:=SQ a b j A;let⟨rfl,rfl⟩:=SQ a b k B;rw[Me a b t e]
structure nk(R:List (List Pt))(o:Int):Prop where
 rgs:pb R
 near:∀s∈lS R,o<=s.1.1/\s.2.1<=o+60
 col:∀c,(∃s∈lS R,cov c s=ζ)->wo ((lS R).filter (cov c)) c
def F_bands:FD:=λd Q=>∃(R:ι (ι Pt))(o:Int),d=[OU R]/\nk R o/\∀b a,b.Pairwise (· < ·)->(∀c,c∈b↔∃s∈lS R,cov c s=ζ)->AllB (lS R) b a->Q (.lst a)
theorem Ek:∀(l m:ι Int),l.Nodup->(∀x∈l,x∈m)->l.length<=m.length
 | [],m,_,_=>dL _
 |x::l,m,f,a=>by
  have b:=a x (.head _);have c:=iB.mp f;have:=Ek l (m.erase x) c.2 λy d=>(uQ λ(e:y=x)=>c.1 (e▸d)).mpr (a y (.tail _ d));rw[qQ b] at this;show dC (AB this) (KU (AC (sM b)))
def nodup_60{ks:ι Int}{o:Int}(a:ks.Nodup)(h:∀c∈ks,o<=c/\c<o+60):ks.length<=60:=by
 have:=Ek ks ((bT 60).map λk:Nat=>o+(k:Int)) a λx b=>by
  have:=h x b;show bK.mpr #[(x-o).toNat,cM.mpr ν,ν]
 rw[aG,eI] at this;show this
structure jy(ts:List Int)(hss:List (List Int))(n:Nat)(R:List (List Pt)):Prop where
 len:R.length<=5
 each:∀g∈R,g.length<=10
 sides:∃I:ι mG,(lS R).Perm (((bT (2*n)).map (um ts hss)).flatten++(I++I))/\(∀s∈I,∃z j,(z+1<ts.length/\j<2*n)/\s=qh ts hss z j)/\∀c,(I.filter (cov c)).length<=2
section
variable{ts:ι Int}{hss:ι (ι Int)}{n:Nat}
def Wu{s:mG}(h:s∈um ts hss j):∃z,z+1<ts.length/\s=qh ts hss z j:=by
 let⟨z,a,rfl⟩:=bK.mp h;have:=cM.mp a;show#[z,ν,rfl]
def jy.mem(K:jy ts hss n R){s:mG}(a:s∈lS R):∃z j,(z+1<ts.length/\j<2*n)/\s=qh ts hss z j:=by
 let⟨I,p,b⟩:=K.sides;rcases bV.mp (p.mem_iff.mp a) with h |h
 ·let⟨l,c,h⟩:=tX.mp h;let⟨j,d,rfl⟩:=bK.mp c;let⟨z,e,rfl⟩:=Wu h;show#[z,j,#[e,cM.mp d],rfl]
 ·rcases bV.mp h with h |h <;> show b.1 s h
def jy.has(K:jy ts hss n R)(hz:z+1<ts.length)(a:j<2*n):qh ts hss z j∈lS R:=by
 let⟨I,p,b⟩:=K.sides;show p.mem_iff.mpr (dY _ (tX.mpr #[um ts hss j,eU (cM.mpr a),?_]));show bK.mpr #[z,cM.mpr ν,rfl]
def Wq(C:f9 ts hss n)(hz:z<ts.length):BL 210 (T ts z):=(C.thr.bl _ (bA (HZ hz))).mono
def T8(C:f9 ts hss n)(hz:z<ts.length)(b:j<2*n):BL 210 (Hh hss z j):=by
 have c:=C.len;have e:hss[z]?=ψ (hss.getD z []):=by rw[dF,aL ν];rfl
 have a:=bA e;show C.bl _ a _ ?_;have:=C.each _ a;unfold Hh;rw[dF (l:=hss.getD z []),aL ν];show qB _
def P9(C:f9 ts hss n)(hz:z+1<ts.length)(a:j<2*n):za (qh ts hss z j):=
 #[Wq C ν,T8 C ν a,Wq C hz,T8 C hz a]
def wZ(C:f9 ts hss n)(hz:z+1<ts.length):0<Wd ts z/\Wd ts z<=40:=by
 have:=Jv C.thr hz;unfold Wd;lia
def Zn.uniq{c:Int}(h:u9 ts)(a:Zn ts c z)(b:Zn ts c z'):z=z':=by
 have d:=a.z1;have e:=a.lo;have f:=a.hi;have g:=b.z1;have k:=b.lo;have m:=b.hi;apply QW
 ·apply TH.mp;intro l;have:=FH h (i:=z'+1) (j:=z) ν ν;lia
 ·apply TH.mp;intro l;have:=FH h (i:=z+1) (j:=z') ν ν;lia
def Zn.of{c:Int}(hz:z+1<ts.length)(k:cov c (qh ts hss z j)=ζ):Zn ts c z:=#[hz,(GR.mp k).1,(GR.mp k).2]
def Zn.cov{c:Int}(Z:Zn ts c z)(j:Nat):cov c (qh ts hss z j)=ζ:=GR.mpr #[Z.lo,Z.hi]
def jy.col(C:f9 ts hss n)(K:jy ts hss n R){c:Int}(Z:Zn ts c z):∃I:ι mG,((lS R).filter (cov c)).Perm ((bT (2*n)).map (λj=>qh ts hss z j)++(I++I))/\I.length<=2/\∀s∈I,∃j,j<2*n/\s=qh ts hss z j:=by
 let⟨I,p,d,f⟩:=K.sides;have q:=p.filter (cov c);rw[eO,eO,Rm C.thr Z] at q;show#[I.filter (cov c),q,f c,λs a=>?_];let⟨a,k⟩:=dU.mp a;obtain⟨h,j,⟨b,g⟩,rfl⟩:=d s a;have e:=(Zn.of b k).uniq C.thr Z;subst e;show#[j,g,rfl]
def Hs(ts:ι Int)(hss:ι (ι Int))(n:Nat)(B c:Int)(z:Nat):ι IP:=(LL ts hss n z (c-T ts z)).map (jx (B.fdiv (Wd ts z)))
def jy.heights(C:f9 ts hss n)(K:jy ts hss n R){c:Int}(Z:Zn ts c z)(B:Int):∃D:ι IP,(∀x∈D,x∈Hs ts hss n B c z)/\(((lS R).filter (cov c)).map (o8 B c)).Perm (Hs ts hss n B c z++(D++D)):=by
 let⟨I,p,_,a⟩:=K.col C Z;have q:=p.map (o8 B c);have e:((bT (2*n)).map λj=>qh ts hss z j).map (o8 B c)=Hs ts hss n B c z:=by
  unfold Hs LL;rw[cP,cP];show kY λj _=>Yx B c z j
 rw[aX,aX,e] at q;show#[I.map (o8 B c),λx b=>?_,q];let⟨s,d,rfl⟩:=bK.mp b;let⟨j,f,rfl⟩:=a s d;rw[<-e];show eU (bK.mpr #[j,cM.mpr f,rfl])
def Zy(C:f9 ts hss n){c:Int}(Z:Zn ts c z)(a:0<=B.fdiv (Wd ts z)):sS (Hs ts hss n B c z):=by
 have b:=Z.z1;have d:=Z.lo;have e:=Z.hi;show P7 a (S9 C b ν (by unfold Wd;lia))
def bottom(C:f9 ts hss n)(hz:z+1<ts.length)(h0:0<B)(b:Wd ts z∣B):∃f,B.fdiv (Wd ts z)=f/\0<f/\B=Wd ts z*f:=by
 let⟨a,_⟩:=wZ C hz;let⟨q,c,d⟩:=Xj a b;show#[q,d,?_,c];apply Int.not_le.mp;intro l;have:=rK (lB a) l;lia
def jy.bands(C:f9 ts hss n)(K:jy ts hss n R):nk R (T ts 0):=by
 have w:=C.thr.len;have A:=C.n1;show#[#[K.len,K.each,λs b=>?_],λs b=>?_,λc i=>?_]
 ·obtain⟨z,j,⟨a,d⟩,rfl⟩:=K.mem b;show(wZ C a).2
 ·obtain⟨z,j,⟨a,d⟩,rfl⟩:=K.mem b;show#[FH C.thr (dL z) ν,?_];have:=C.thr.wide _ (bA (HZ (show 0<ts.length by lia))) _ (bA (HZ a));show T ts (z+1)<=_;lia
 ·let⟨s,b,k⟩:=i;obtain⟨z,j,⟨a,d⟩,rfl⟩:=K.mem b;have Z:=Zn.of a k;let⟨I,p,E,_⟩:=K.col C Z;show#[?_,λs b=>?_,λs b=>?_,λs b=>?_,?_,λB l m=>?_]
  ·rw[p.length_eq,aU,aU,aG,eI];lia
  ·obtain⟨z,j,⟨a,d⟩,rfl⟩:=K.mem (dU.mp b).1;show P9 C a d
  ·obtain⟨z,j,⟨a,d⟩,rfl⟩:=K.mem (dU.mp b).1;show(wZ C a).1
  ·obtain⟨z,j,⟨a,d⟩,rfl⟩:=K.mem (dU.mp b).1;show(wZ C a).2
  ·have F:=Wq C (show z<ts.length by lia);have G:=Wq C a;have H:=Z.lo;have J:=Z.hi;unfold BL at *;lia
  ·let⟨f,e,L,_⟩:=bottom C a l (m _ (dU.mpr #[K.has a d,k]));have o:=Zy (hss:=hss) (n:=n) C Z (B:=B) (by rw[e];lia);have sub:∀x∈((lS R).filter (cov c)).map (o8 B c),x∈Hs ts hss n B c z:=λx g=>by
    let⟨D,u,q⟩:=K.heights C Z B;rcases bV.mp (q.mem_iff.mp g) with h |h
    ·show h
    ·rcases bV.mp h with h |h <;> show u x h
   show λx g y v=>Vk o x (sub x g) y (sub y v)
inductive LB(ts:List Int)(hss:List (List Int))(n:Nat):List (Int×Nat)->List D->Prop
 |nil:LB ts hss n [] []
 |cons {c:Int} {z:Nat} {r rows:List D} {cs:List (Int×Nat)} (h:ii (Wd ts z) c (kept (LL ts hss n z (c-T ts z))) r) (t:LB ts hss n cs rows):LB ts hss n ((c,z)::cs) (r++rows)
def LB.snoc(t:LB ts hss n cs rows){c:Int}(h:ii (Wd ts z) c (kept (LL ts hss n z (c-T ts z))) r):LB ts hss n (cs++[(c,z)]) (rows++r):=by
 induction t with
 |nil=>have:=LB.cons h .nil;simpa using this
 |cons a _ b=>rw[cL];show .cons a b
def Py(C:f9 ts hss n)(K:jy ts hss n R)(h:LB ts hss n cols rows):∀{nh:ι D},(∀p∈cols,Zn ts p.1 p.2)->AllB (lS R) (cols.map (·.1)) nh->nh=rows:=by
 have w:=C.n1
 induction h with
 |nil=>intro nh _ a;cases a;rfl
 | @cons c z r rows y h t j=>
  intro nh g a;rw[aM] at a;cases a with
  | @cons _ B M A d _ hB k=>
   have Z:=g (c,z) (.head _);have l:=j (λp hp=>g p (.tail _ hp)) k;let⟨f,e,i,m⟩:=bottom C Z.z1 hB.pos (hB.dv (qh ts hss z 0) (dU.mpr #[K.has Z.z1 ν,Z.cov 0]));have o:=Zy (hss:=hss) (n:=n) C Z (B:=B) (by rw[e];lia);let⟨D,s,q⟩:=K.heights C Z B;have u:kept M=kept (Hs ts hss n B c z):=YW D hB.up o s (hB.perm.trans q);have b:=hB.rows;rw[u] at b;unfold Hs at b;rw[e,Tg i,m] at b;have v:=Me (wZ C Z.z1).1 i h b;rw[v,l]
def TZ(ts:ι Int)(z m:Nat):ι (Int×Nat):=(bT m).map λk:Nat=>(T ts z+(k:Int),z)
def vI(ts:ι Int)(m:Nat):ι (Int×Nat):=((bT m).map λz=>TZ ts z (Wd ts z).toNat).flatten
def Ht(z m:Nat):TZ ts z (m+1)=TZ ts z m++[(T ts z+(m:Int),z)]:=by unfold TZ;rw[eE,aX];rfl
def PJ(m:Nat):vI ts (m+1)=vI ts m++TZ ts m (Wd ts m).toNat:=by unfold vI;rw[eE,aX,qK];simp
def UA:p∈vI ts m↔p.2<m/\T ts p.2<=p.1/\p.1<T ts (p.2+1):=by
 let⟨c,z⟩:=p;unfold vI;rw[tX];constructor
 ·rintro⟨l,f,h⟩;let⟨i,a,rfl⟩:=bK.mp f;let⟨k,b,e⟩:=bK.mp h;have b:=cM.mp b;cases e;unfold Wd at b;show#[cM.mp a,(by show T ts z<=T ts z+(k:Int);lia),(by show T ts z+(k:Int)<T ts (z+1);lia)]
 ·rintro⟨d,g,h3⟩;dsimp only at d g h3;show#[_,eU (cM.mpr d),bK.mpr #[(c-T ts z).toNat,cM.mpr (by unfold Wd;lia),?_]];show oN (by show T ts z+(((c-T ts z).toNat:Nat):Int)=c;lia) rfl
theorem Ku(h:u9 ts):∀m:Nat,m<ts.length->(vI ts m).Pairwise λp q=>p.1<q.1
 | 0,_=>mN
 |m+1,d=>by
  rw[PJ];show dI.mpr #[Ku h m ν,?_,λp hp q c=>?_]
  ·unfold TZ;rw[fP];show(sO (n:=(Wd ts m).toNat)).imp λ{a b} (e:a<b)=>by show T ts m+(a:Int)<T ts m+(b:Int);lia
  ·have f:=UA.mp hp;let⟨k,_,rfl⟩:=bK.mp c;have:=FH h (i:=p.2+1) (j:=m) ν ν;show p.1<T ts m+(k:Int);lia
def Rg(C:f9 ts hss n)(K:jy ts hss n R)(f:cs.Pairwise (· < ·))(m:∀c,c∈cs↔∃s∈lS R,cov c s=ζ)(h3:AllB (lS R) cs nh)(o:LB ts hss n (vI ts (ts.length-1)) rows):nh=rows:=by
 have v:=C.thr.len;have w:=C.n1;have d:∀p∈vI ts (ts.length-1),Zn ts p.1 p.2:=λp hp=>by
  have:=UA.mp hp;show#[ν,this.2.1,this.2.2]
 have g:((vI ts (ts.length-1)).map (·.1)).Pairwise (· < ·):=by
  rw[fP];show Ku C.thr _ ν
 have q:∀c,c∈cs↔c∈(vI ts (ts.length-1)).map (·.1):=λc=>by
  rw[m c,bK];constructor
  ·rintro⟨s,u,k⟩;obtain⟨z,j,⟨d,y⟩,rfl⟩:=K.mem u;have Z:=Zn.of d k;show#[(c,z),UA.mpr #[by have:=Z.z1;show z<_;lia,Z.lo,Z.hi],rfl]
  ·rintro⟨p,hp,rfl⟩;have Z:=d p hp;show#[qh ts hss p.2 0,K.has Z.z1 ν,Z.cov 0]
 have i:∀{l:ι Int},l.Pairwise (· < ·)->l.Nodup:=λh=>h.imp λ{a b} (l:a<b)=>Int.ne_of_lt l;have e:cs=(vI ts (ts.length-1)).map (·.1):=
  qP (le:=(· < ·)) (λa b _ _ (l:a<b) (A:b<a)=>by lia) f g ((wV (i f) (i g)).mpr q)
 rw[e] at h3;show Py C K o d h3
end
theorem ZP{α:Type}(a b:α):∀L:ι α,L.length % 2=0->vC (L++[a,b])=vC L++[(a,b)]
 | [],_=>rfl
 | [x],h=>by simp at h
 |x::y::r,h=>by
  show(x,y)::vC (r++[a,b])=(x,y)::(vC r++[(a,b)]);rw[ZP a b r (by simp at h;lia)]
theorem WS{α:Type}(f:Nat->α):∀n:Nat,vC ((bT (2*n)).map f)=(bT n).map λi=>(f (2*i),f (2*i+1))
 | 0=>rfl
 |n+1=>by
  rw[show 2*(n+1)=(2*n+1)+1 by lia,eE,eE,eE,aX,aX,aX,cL];show vC ((bT (2*n)).map f++[f (2*n),f (2*n+1)])=_;rw[ZP _ _ _ η,WS f n];rfl
def He{hss:ι (ι Int)}{z:Nat}(h:z<hss.length):hss[z]?=ψ (hss.getD z []):=by rw[dF,aL h];rfl
def Kf(C:f9 ts hss n)(hz:z<ts.length)(a:j<2*n):(hss.getD z [])[j]?=ψ (Hh hss z j):=by
 have b:=C.len;have:=C.each _ (bA (He (hss:=hss) (z:=z) ν));unfold Hh;rw[dF (l:=hss.getD z []),aL ν];rfl
def pr2(ts:ι Int)(hss:ι (ι Int))(z:Nat)(k:Int)(i:Nat):IP×IP:=(hp ts hss z k (2*i),hp ts hss z k (2*i+1))
def kp(ts:ι Int)(hss:ι (ι Int))(z:Nat)(k:Int)(i:Nat):ι (IP×IP):=((bT i).map (pr2 ts hss z k)).filter λz=>decide (z.1≠z.2)
def K5(ts:ι Int)(hss:ι (ι Int))(z:Nat)(k:Int)(n:Nat):kept (LL ts hss n z k)=kp ts hss z k n:=by
 unfold kept LL kp;rw[WS];rfl
def Xt(ts:ι Int)(hss:ι (ι Int))(z:Nat)(k:Int)(i:Nat):kp ts hss z k (i+1)=kp ts hss z k i++[pr2 ts hss z k i].filter λz=>decide (z.1≠z.2):=by
 unfold kp;rw[eE,aX,eO];rfl
end K23
namespace K22
abbrev ck(p:IP):ι Int:=[p.1,p.2]
abbrev uq(p:IP):D:=.tup [.int p.1,.int p.2]
def one(u p:IP):Int:=if u=p then 1 else 0
def Hr(h:ck p=ck q):p=q:=by
 injection h with h1 h2;injection h2 with h2 _;show oN h1 h2
def Rk{p:IP}{a:ι IP}:ck p∈a.map ck↔p∈a:=by
 constructor
 ·intro h;let⟨q,b,e⟩:=bK.mp h;rw[<-Hr e];show b
 ·show λh=>bK.mpr #[p,h,rfl]
variable{L:ι IP}{c c':IP->Int}
structure LOk(L:List IP):Prop where
 len:L.length<=24
 each:∀p∈L,0<p.2/\p.2<=40/\dW p.1 p.2=1/\BL 250 p.1
def we(p q:IP):Prop:=p.1*q.2<q.1*p.2
def we.ne(h:we p q):p≠q:=λe=>by subst e;show Ψ h (oS _)
def Gy:FD:=λb Q=>∃a:ι Int,b=[il a]/\a.length<=24/\(∀w∈a,0<w/\w<=40)/\∀B,0<B->(∀w∈a,w∣B)->BL 140 B->Q (.int B)
def Io(i:0<B)(hp:0<p.2)(d:0<q.2)(j:dW p.1 p.2=1)(k:dW q.1 q.2=1)(l:p.2∣B)(o:q.2∣B)(ne:p≠q)(h:p.1*B.fdiv p.2<=q.1*B.fdiv q.2):we p q:=by
 let⟨m,em⟩:=l;let⟨n,f⟩:=o;have s:B.fdiv p.2=m:=by rw[em,zA _ ν]
 have u:B.fdiv q.2=n:=by rw[f,zA _ ν]
 rw[s,u] at h;have g:=gG h (lB (fT hp d));have h3:p.1*m*(p.2*q.2)=p.1*q.2*B:=by rw[em];grind
 have v:q.1*n*(p.2*q.2)=q.1*p.2*B:=by rw[f];grind
 rw[h3,v] at g;have w:=Int.le_of_mul_le_mul_right g i;show EC.mpr #[w,λe=>ne ?_];have y:jz p.1 p.2 p.1 p.2:=Bc hp hp j rfl;have z:jz p.1 p.2 q.1 q.2:=Bc hp d k e.symm;let⟨a,b⟩:=K12.low_eq hp y z;show oN a b
def F_rising:FD:=λd Q=>∃(L a:ι IP),d=[.lst (a.map uq)]/\(LOk L/\a.Nodup/\∀p∈a,p∈L)/\∀b:ι IP,b.Perm a->b.Pairwise we->Q (.lst (b.map uq))
def pure_rising_G(C:∀ds Q,Gy ds Q->G ds Q):ω F_rising (OT G) ["ones","bottom"]:=by
 rintro ds Q ⟨L,e,rfl,⟨g,o,sub⟩,q⟩;rw[cO 1 rfl];unfold OT;erw[iY,Bs,aM,cF,bZ,cC];have i:e.length<=24:=dC (len_sub e L o sub) g.len;show dP (λd=>∃B:Int,(0<B/\(∀p∈e,p.2∣B)/\BL 140 B)/\d=[ap (.lst (e.map uq)),ap (.int B)]) (λK E=>?_) ?_
 ·nofun;show#[iP (by rw[aG];lia),?_];show nK (λd=>∃u,d=[u]) uq (λp=>D.int p.2) e ?_ #[_,rfl] ?_
  ·rintro p hp d ⟨u,rfl⟩ R F;nofun;show F _ #[_,rfl]
  ·show C _ _ #[e.map (·.2),by show _=[D.lst (pL D.int (pL (·.2) e))];rw[cP];rfl,by rw[aG];show i,λw H=>?_,λB k dv l=>?_]
   ·let⟨p,hp,rfl⟩:=bK.mp H;have:=g.each p (sub p hp);show#[this.1,this.2.1]
   ·show E _ #[B,#[k,λp hp=>dv _ (eU hp),l],rfl]
 rintro d ⟨B,⟨k,dv,l⟩,rfl⟩;erw[fE,Bq,bD,aA,aB,L2.R2.S.val];show#[B,e,rfl,rfl,ν,λf I=>?_,λs j J=>q s j ?_]
 ·let⟨T,M,U,N⟩:=g.each f (sub f I);show#[((BL.of_lt (m:=10) ν (rJ M μ)).mono).divOk ν,N.mulOk (l.fdiv)]
 ·have n:s.Nodup:=j.nodup_iff.mpr o;show List.Pairwise.imp_of_mem (λ{a b} O P h=>?_) (List.pairwise_and_iff.mpr #[n,J]);have v:=j.mem_iff.mp O;have y:=j.mem_iff.mp P;have z:=g.each a (sub a v);have A:=g.each b (sub b y);show Io k z.1 A.1 z.2.2.1 A.2.2.1 (dv a v) (dv b y) h.1 h.2
variable{L:ι IP}{c c':IP->Int}
structure r9(r:D)(u l:IP):Prop where
 ex:∃(row:Row)(W a b c d:Int),r=Vm row/\(0<W/\BL 400 W)/\x5 W row a b c d/\jz (d-c) W u.1 u.2/\jz (b-a) W l.1 l.2
def F_lslope:FD:=λa Q=>∃(r:D)(u l:IP),a=[r]/\r9 r u l/\Q (uq l)
def F_uslope:FD:=λa Q=>∃(r:D)(u l:IP),a=[r]/\r9 r u l/\Q (uq u)
def pure_lower_slope:ω F_lslope (FZ iW) ["row"]:=by
 rintro n Q ⟨r,u,l,rfl,⟨i,M,a,b,c,d,rfl,⟨e,f⟩,V,o,j⟩,q⟩;rw[cO 0 rfl];unfold FZ;nofun;have g:=V.l1.bl V.bb f;have h:=V.l0.bl V.ba f;show#[_,_,_,_,rfl,#[V.l1.pos,V.l0.pos],#[g.1.mono,g.2.mono,h.1.mono,h.2.mono],λp s L=>?_];let⟨k,m⟩:=K12.low_eq e (V.l1.minus e V.l0 L) j;rw[k,m];show q
def pure_upper_slope:ω F_uslope (GE iW) ["row"]:=by
 rintro o Q ⟨r,u,l,rfl,⟨i,M,a,b,c,d,rfl,⟨e,f⟩,V,k,s⟩,q⟩;rw[cO 0 rfl];unfold GE;nofun;show SG (qW (j:=4) rfl) (SG (qW (j:=3) rfl) ?_);have g:=V.u1.bl V.bd f;have h:=V.u0.bl V.bc f;show#[_,_,_,_,rfl,#[V.u1.pos,V.u0.pos],#[g.1.mono,g.2.mono,h.1.mono,h.2.mono],λp v L=>?_];let⟨m,n⟩:=K12.low_eq e (V.u1.minus e V.u0 L) k;rw[m,n];show q
abbrev sF:=D×IP×IP
def EsOk(L:ι IP)(es:ι sF):Prop:=∀e∈es,r9 e.1 e.2.1 e.2.2/\e.2.1∈L/\e.2.2∈L
def r_(p:IP):ι sF->Int
 | []=>0
 |e::a=>(one e.2.1 p-one e.2.2 p)+r_ p a
theorem Co(p:IP)(e:sF):∀es,r_ p (es++[e])=r_ p es+(one e.2.1 p-one e.2.2 p)
 | []=>by show _+0=0+_;lia
 |x::es=>by show _+r_ p (es++[e])=_+r_ p es+_;rw[Co p e es];lia
theorem EU{α:Type}(R:En->Prop)(nj f:α->D)(t:α->Bool):∀(src:ι α) {Q:ι D->Prop} (_:∀a∈src,∀i,R i->∀K:En->Bool->Prop,(∀i1,R i1->(t a=ζ->∀K':D->Prop,K' (f a)->te i1 K')->K i1 (t a))->g (nj a) i λi1=>tt i1 λb=>K i1 b)
  (i:En) (acc:ι D),R i->Q (acc++(src.filter t).map f)->mH g tt te (src.map nj) i acc Q
 | [],Q,_,i,acc,_,q=>by
  show Q acc;simpa using q
 |a::src,Q,step,i,acc,h,q=>by
  show g (nj a) i λj=>tt j λb=>if b=ζ then te j λd=>mH g tt te (src.map nj) j (acc++[d]) Q else mH g tt te (src.map nj) j acc Q;show step a cT i h (λj b=>if b=ζ then te j λd=>mH g tt te (src.map nj) j (acc++[d]) Q else mH g tt te (src.map nj) j acc Q) λi1 l m=>?_;cases e:t a with
  |true=>
   rw[Ω rfl];show m e _ ?_;show EU R nj f t src (λb k=>step b (bH _ k)) i1 _ l ?_;rw[rX e] at q;simpa using q
  |false=>
   rw[υ μ];show EU R nj f t src (λb k=>step b (bH _ k)) i1 _ l ?_;rw[rW (by rw[e];decide)] at q;show q
open K23
def MA(a b:Int):IP:=(a.fdiv (dW a b:Nat),b.fdiv (dW a b:Nat))
def md(ts:ι Int)(hss:ι (ι Int))(z j:Nat):IP:=MA (Hh hss (z+1) j-Hh hss z j) (Wd ts z)
def SW(hss:ι (ι Int))(w:0<Wd ts z)(j:Nat):jz (Hh hss (z+1) j-Hh hss z j) (Wd ts z) (md ts hss z j).1 (md ts hss z j).2:=qZ w
def SL(ts:ι Int)(hss:ι (ι Int))(n:Nat):ι IP:=(bT (ts.length-1)).flatMap λz=>(bT (2*n)).map (md ts hss z)
def Bx(C:f9 ts hss n)(hz:z+1<ts.length)(a:j<2*n):md ts hss z j∈SL ts hss n:=
 lH.mpr #[z,cM.mpr ν,bK.mpr #[j,cM.mpr a,rfl]]
def Nd(C:f9 ts hss n)(hz:z<ts.length)(a:j<2*n):BL 210 (Hh hss z j):=by
 have b:=C.len;show C.bl _ (bA (He (hss:=hss) (z:=z) ν)) _ (bA (Kf C hz a))
theorem flat_len{α β:Type}(f:α->ι β)(m:Nat):∀l:ι α,(∀x∈l,(f x).length=m)->(l.flatMap f).length=l.length*m
 | [],_=>by simp
 |x::l,h=>by
  rw[dA,aU,flat_len f m l λy a=>h y (.tail _ a),h x (.head _),aQ,Nat.add_mul,Nat.one_mul,Nat.add_comm]
def Qy(C:f9 ts hss n):LOk (SL ts hss n):=by
 have g:=C.thr.len;have h:=C.n1;show#[?_,λp hp=>?_]
 ·unfold SL;rw[flat_len _ (2*n) _ λx _=>by rw[aG,eI],eI];show dC (wX (show ts.length-1<=4 by lia) (show 2*n<=6 by lia)) μ
 ·let⟨z,b,hp⟩:=lH.mp hp;let⟨j,a,rfl⟩:=bK.mp hp;have b:=cM.mp b;have a:=cM.mp a;let⟨d,i⟩:=wZ C (z:=z) ν;have l:=SW hss d j;have e:=Nd C (z:=z+1) (j:=j) ν a;have f:=Nd C (z:=z) (j:=j) ν a;have:=l.leb;have:=l.pos;show#[l.pos,ν,l.cop,((e.sub f).le l.lea).mono]
def Te(ts:ι Int)(hss:ι (ι Int))(z:Nat):Nat->IP->Int
 | 0,_=>0
 |i+1,p=>Te ts hss z i p+(one (md ts hss z (2*i+1)) p-one (md ts hss z (2*i)) p)
def zs(ts:ι Int)(hss:ι (ι Int))(n:Nat):Nat->IP->Int
 | 0,_=>0
 |z+1,p=>zs ts hss n z p+Wd ts z*Te ts hss z n p
variable{c c':IP->Int}
end K22
namespace K23
def pure_bandsN:ω F_bands (Fi F_colB F_byCol) ["rings","columns","rows","column"]:=by
 rintro H Q ⟨R,o,rfl,ok,q⟩;rw[cO 3 rfl];unfold Fi;show dP (λa=>∃e g,ud (lS R) e g/\a=[ap (OU R),ap (.dct e g),ξ,ξ]) (λK w=>?_) ?_
 ·erw[fZ,cH,aE,aV,bC,iY,Bt,aM,cF,bZ,cC,aA,aB,aI,aK];show#[R,rfl,ok.rgs,λe g h=>w _ #[e,g,h,rfl]]
 rintro a ⟨e,g,i,rfl⟩;have I:e.length<=60:=nodup_60 (o:=o) i.nodup λc y=>by
  let⟨s,A,k⟩:=(i.mem c).mp y;have:=ok.near s A;have:=GR.mp k;lia
 show dP (λa=>a=[ap (OU R),ap (.dct e g),ψ (.own []),ξ]) (λK w=>?_) ?_
 ·nofun;show w _ rfl
 rintro a rfl;show dP (λa=>∃f b u,(f.Perm e/\f.Pairwise (·<=·))/\AllB (lS R) f b/\a=[ap (OU R),ap (.dct e g),ψ (.own b),u]) (λK w=>?_) ?_
 ·erw[jS,riL,KB,JZ,bC,aA,aB];show#[e,g,rfl,i.len,e,rfl,ν,λf m j=>?_];show nB (λz a=>∃done d:ι Int,f=done++d/\z=d.map .int/\∃b u,AllB (lS R) done b/\a=[ap (OU R),ap (.dct e g),ψ (.own b),u]) ?_ ?_ _ _ #[[],f,rfl,rfl,[],ξ,.nil,rfl]
  ·rintro x z a ⟨done,d,n,l,b,u,v,rfl⟩ F J L C y;cases d with
   |nil=>cases l
   |cons c d=>
    rw[aM] at l;injection l with ex l;subst ex l;have y:c∈e:=m.mem_iff.mp (by rw[n];show bI _ (.head _));have dl:done.length<=59:=(by have:=m.length_eq;rw[n] at this;simp at this;lia);have D:=ok.rgs.slen;have N:=v.rlen;have E:done.length*(lS R).length<=59*50:=wX dl D;unfold QD;erw[cJ,AY,cH,aE,aV,r2,Db,bC,aA,aB,aI,aK];show#[_,i.here c y,_,c,rfl,ok.col c ((i.mem c).mp y),λB M r hB=>?_];have O:=hB.rlen;have P:=lY (cov c) (lS R);fail;show#[iP ν,C _ #[done++[c],d,by rw[n];simp,rfl,b++r,ap (.int c),v.snoc hB,rfl]]
  ·rintro a ⟨done,d,n,l,b,u,v,rfl⟩;have:d=[]:=(by cases d with |nil=>rfl |cons _ _=>cases l);subst this;rw[bU] at n;subst n;show w _ #[f,b,u,#[m,j],v,rfl]
 rintro a ⟨f,b,u,⟨m,j⟩,v,rfl⟩;erw[oP,S.fz,fE,bC,aA,aB,aI,aK];have G:f.Nodup:=m.nodup_iff.mpr i.nodup;show q f b ?_ (λc=>m.mem_iff.trans (i.mem c)) v;show(j.and G).imp λh=>EC.mpr h
end K23
namespace K22
open K23
variable{ts:ι Int}{hss:ι (ι Int)}{n:Nat}
def P3{W c:Int}(a:0<W)(z:IP×IP):Qx W c z (Vm ⟨c,MA z.1.1 W,MA z.1.2 W,MA z.2.1 W,MA z.2.2 W⟩):=#[_,_,_,_,_,_,_,_,#[qZ a,qZ a,qZ a,qZ a],rfl]
def enT(ts:ι Int)(hss:ι (ι Int))(z:Nat)(k:Int)(i:Nat):sF:=
 (Vm #[T ts z+k,MA (K23.pr2 ts hss z k i).1.1 (Wd ts z),MA (K23.pr2 ts hss z k i).1.2 (Wd ts z),MA (K23.pr2 ts hss z k i).2.1 (Wd ts z),MA (K23.pr2 ts hss z k i).2.2 (Wd ts z)],md ts hss z (2*i+1),md ts hss z (2*i))
def ez(ts:ι Int)(hss:ι (ι Int))(z:Nat)(k:Int):Nat->ι sF
 | 0=>[]
 |i+1=>ez ts hss z k i++if(K23.pr2 ts hss z k i).1=(K23.pr2 ts hss z k i).2 then[] else[enT ts hss z k i]
def AV(W k a b:Int):ql W (k+1) a b-ql W k a b=b-a:=by unfold ql;grind
def F9(C:f9 ts hss n)(hz:z+1<ts.length)(hi:i<n)(l:0<=k)(s:k+1<=Wd ts z):r9 (enT ts hss z k i).1 (md ts hss z (2*i+1)) (md ts hss z (2*i)):=by
 let⟨c,u⟩:=wZ C hz;have d:=Nd C (z:=z) (j:=2*i) ν ν;have e:=Nd C (z:=z) (j:=2*i+1) ν ν;have f:=Nd C (z:=z+1) (j:=2*i) ν ν;have g:=Nd C (z:=z+1) (j:=2*i+1) ν ν;have h:∀{j:Int}{a b:Int},0<=j->j<=40->BL 210 a->BL 210 b->BL 400 (ql (Wd ts z) j a b):=λ{j a b} v w o q=>
  ((o.mul (n:=10) (BL.of_lt ν ν)).add (q.mul (n:=10) (BL.of_lt ν ν))).mono
 show#[_,Wd ts z,_,_,_,_,rfl,#[c,(BL.of_lt (m:=10) ν ν).mono],#[qZ c,qZ c,qZ c,qZ c,?_,?_,?_,?_],?_,?_]
 ·show h l ν d f
 ·show h ν ν d f
 ·show h l ν e g
 ·show h ν ν e g
 ·have:=SW hss c (2*i+1);rw[<-AV (Wd ts z) k] at this;show this
 ·have:=SW hss c (2*i);rw[<-AV (Wd ts z) k] at this;show this
theorem A5(C:f9 ts hss n)(hz:z+1<ts.length)(a:0<=k)(b:k+1<=Wd ts z):∀i,i<=n->ii (Wd ts z) (T ts z+k) (kp ts hss z k i) ((ez ts hss z k i).map (·.1))/\EsOk (SL ts hss n) (ez ts hss z k i)/\(∀p,r_ p (ez ts hss z k i)=Te ts hss z i p)/\(ez ts hss z k i).length<=i
 | 0,_=>#[.nil,(λe h=>by cases h),λ_=>rfl,aS _]
 |i+1,hi=>by
  let⟨c,d,h3,l⟩:=A5 C hz a b i ν;let⟨f,_⟩:=wZ C hz;rw[Xt];unfold ez;by_cases e:(K23.pr2 ts hss z k i).1=(K23.pr2 ts hss z k i).2
  ·rw[Ω e,bU];show#[by rw[show[K23.pr2 ts hss z k i].filter (λz=>decide (z.1≠z.2))=[] by simp[e],bU];show c,d,λp=>?_,ν];have m:ql (Wd ts z) k (Hh hss z (2*i)) (Hh hss (z+1) (2*i))=ql (Wd ts z) k (Hh hss z (2*i+1)) (Hh hss (z+1) (2*i+1)):=Φ Cg e;have o:ql (Wd ts z) (k+1) (Hh hss z (2*i)) (Hh hss (z+1) (2*i))=ql (Wd ts z) (k+1) (Hh hss z (2*i+1)) (Hh hss (z+1) (2*i+1)):=Φ Ch e;have q:=AV (Wd ts z) k (Hh hss z (2*i)) (Hh hss (z+1) (2*i));have s:=AV (Wd ts z) k (Hh hss z (2*i+1)) (Hh hss (z+1) (2*i+1));have g:md ts hss z (2*i)=md ts hss z (2*i+1):=by
    unfold md;rw[show Hh hss (z+1) (2*i)-Hh hss z (2*i)=Hh hss (z+1) (2*i+1)-Hh hss z (2*i+1) by lia]
   show _=Te ts hss z i p+(one (md ts hss z (2*i+1)) p-one (md ts hss z (2*i)) p);rw[h3,g];lia
  ·rw[υ e];show#[?_,λx j=>?_,λp=>?_,by rw[aU,jW];lia]
   ·rw[show[K23.pr2 ts hss z k i].filter (λz=>decide (z.1≠z.2))=[K23.pr2 ts hss z k i] by simp[e],aX];show c.snoc (P3 f _)
   ·rcases bV.mp j with h |h
    ·show d x h
    ·rw[bE.mp h];show#[F9 C hz ν a b,Bx C hz ν,Bx C hz ν]
   ·rw[Co,h3];rfl
theorem Ad(p:IP):∀a b:ι sF,r_ p (a++b)=r_ p a+r_ p b
 | [],b=>by show r_ p b=0+r_ p b;lia
 |x::a,b=>by show _+r_ p (a++b)=_+r_ p a+_;rw[Ad p a b];lia
def EsOk.app(c:EsOk L a)(d:EsOk L b):EsOk L (a++b):=λe h=>by
 rcases bV.mp h with h |h
 ·show c e h
 ·show d e h
def eZ(ts:ι Int)(hss:ι (ι Int))(n z:Nat):Nat->ι sF
 | 0=>[]
 |m+1=>eZ ts hss n z m++ez ts hss z m n
def eA(ts:ι Int)(hss:ι (ι Int))(n:Nat):Nat->ι sF
 | 0=>[]
 |m+1=>eA ts hss n m++eZ ts hss n m (Wd ts m).toNat
theorem Nb(C:f9 ts hss n)(hz:z+1<ts.length):∀m:Nat,(m:Int)<=Wd ts z->LB ts hss n (TZ ts z m) ((eZ ts hss n z m).map (·.1))/\EsOk (SL ts hss n) (eZ ts hss n z m)/\(∀p,r_ p (eZ ts hss n z m)=m*Te ts hss z n p)/\(eZ ts hss n z m).length<=n*m
 | 0,_=>#[.nil,(λe h=>by cases h),λp=>by show 0=0*_;lia,dL _]
 |m+1,g=>by
  let⟨a,b,h3,i⟩:=Nb C hz m ν;let⟨c,d,f,j⟩:=A5 C (k:=(m:Int)) hz ν ν n (aS _);unfold eZ;show#[?_,b.app d,λp=>?_,by rw[aU,Nat.mul_add,Nat.mul_one];lia]
  ·rw[Ht,aX];show a.snoc ?_;rw[show T ts z+(m:Int)-T ts z=(m:Int) by lia,K5];show c
  ·rw[Ad,h3,f,show((m+1:Nat):Int)=(m:Int)+1 by lia,Int.add_mul,Int.one_mul]
def LB.app(h:LB ts hss n cs r)(h':LB ts hss n cs' r'):LB ts hss n (cs++cs') (r++r'):=by
 induction h with
 |nil=>show h'
 |cons a _ b=>rw[cL];show .cons a b
theorem Hk(C:f9 ts hss n):∀m:Nat,m<ts.length->LB ts hss n (vI ts m) ((eA ts hss n m).map (·.1))/\EsOk (SL ts hss n) (eA ts hss n m)/\(∀p,r_ p (eA ts hss n m)=zs ts hss n m p)/\((eA ts hss n m).length:Int)<=n*(T ts m-T ts 0)
 | 0,_=>#[.nil,(λe h=>by cases h),λ_=>rfl,by show(0:Int)<=n*(T ts 0-T ts 0);rw[Int.sub_self,KN];show rV _]
 |m+1,a=>by
  let⟨c,d,h3,j⟩:=Hk C m ν;let⟨k,l⟩:=wZ C (z:=m) a;have b:(((Wd ts m).toNat:Nat):Int)=Wd ts m:=ν
  let⟨f,g,i,o⟩:=Nb C a (Wd ts m).toNat ν;unfold eA;show#[by rw[PJ,aX];show LB.app c f,d.app g,λp=>by rw[Ad,h3,i,b];rfl,?_];have q:((eZ ts hss n m (Wd ts m).toNat).length:Int)<=n*Wd ts m:=by
   have:((n*(Wd ts m).toNat:Nat):Int)=n*Wd ts m:=(by rw[QS,b]);lia
  have e:(n:Int)*(T ts (m+1)-T ts 0)=n*(T ts m-T ts 0)+n*Wd ts m:=by unfold Wd;grind
  rw[aU,e];lia
def Rf(C:f9 ts hss n)(K:jy ts hss n R)(a:cs.Pairwise (· < ·))(b:∀c,c∈cs↔∃s∈lS R,cov c s=ζ)(c:K23.AllB (lS R) cs nh):nh=(eA ts hss n (ts.length-1)).map (·.1):=by
 have d:=C.thr.len;show Rg C K a b c (Hk C (ts.length-1) ν).1
end K22
namespace K31
open K22 K23
def re(es:ι sF):ι IP:=es.flatMap λe=>[e.2.2,e.2.1]
def Vu(es:ι sF)(e:sF):re (es++[e])=re es++[e.2.2,e.2.1]:=by unfold re;rw[gD];simp
def Zm(a b:ι sF):re (a++b)=re a++re b:=by unfold re;rw[gD]
def By(h:K22.EsOk L es):∀p∈re es,p∈L:=λp hp=>by
 let⟨e,a,hp⟩:=lH.mp hp;let⟨_,b,c⟩:=h e a;erw[aP,dN,or_false] at hp;rcases hp with rfl |rfl
 ·show c
 ·show b
def TR(a:ι IP)(p:IP):ι IP:=if p∈a then a else a++[p]
def Kj(a:ι IP)(p:IP):TQ (a.map ck) (ck p)=(TR a p).map ck:=by
 unfold TQ TR;by_cases h:p∈a
 ·rw[Ω (Rk.mpr h),Ω h]
 ·rw[υ λz=>h (Rk.mp z),υ h,aX];rfl
def Cj:q∈TR kl p↔q∈kl\/q=p:=by
 unfold TR;split
 ·rename_i h;show#[.inl,λz=>z.elim id λe=>e▸h]
 ·rw[bV,bE]
def TU(h:kl.Nodup):(TR kl p).Nodup:=by
 unfold TR;split
 ·show h
 ·rename_i n;show sN.mpr #[h,η,λa c b d e=>n (by rw[bE.mp d] at e;show e▸c)]
structure KsT(es:List sF)(ks:List (List Int)):Prop where
 ex:∃kl:ι IP,ks=kl.map ck/\kl.Nodup/\∀p,p∈kl↔p∈re es
def F_leans:FD:=λd Q=>∃(L:ι IP)(a b:ι sF),d=[.lst (a.map (·.1)),.lst (b.map (·.1))]/\(LOk L/\K22.EsOk L a/\K22.EsOk L b/\a.length<=1000/\b.length<=1000)/\∀c:ι IP,c.Pairwise we->(∀p,p∈c↔p∈re a\/p∈re b)->Q (.lst (c.map uq))
def pure_leans_of:ω F_leans (QG F_lslope F_rising F_uslope) ["ones","others","slopes","row"]:=by
 rintro N Q ⟨L,g,eb,rfl,⟨s,z,A,O,P⟩,q⟩;rw[cO 2 rfl];unfold QG;erw[iY,XS,aM,cF,bZ,cC];have ok:K22.EsOk L (g++eb):=z.app A;generalize j:g++eb=h at ok;have n:∀p,p∈re h↔p∈re g\/p∈re eb:=λp=>by rw[<-j,Zm,bV]
 show dP (λa=>a=[ap (.lst (g.map (·.1))),ap (.lst (eb.map (·.1))),ψ (.dt [] []),ξ]) (λK l=>l _ rfl) ?_;rintro a rfl;show dP (λa=>∃(c:ι (ι Int))(d:ι D)(u:Option S),KsT h c/\a=[ap (.lst (g.map (·.1))),ap (.lst (eb.map (·.1))),ψ (.dt c d),u]) (λK l=>?_) ?_
 ·nofun;show#[iP (by rw[aG,aG];lia),?_];rw[<-aX,j];show qR _ (λi a=>∃(c:ι (ι Int))(d:ι D)(u:Option S),KsT (h.take i) c/\a=[ap (.lst (g.map (·.1))),ap (.lst (eb.map (·.1))),ψ (.dt c d),u]) ?_ ?_ _ #[[],[],ξ,#[[],rfl,.nil,λp=>Iff.rfl],rfl]
  ·rintro i x a e ⟨c,d,u,⟨f,rfl,m,mem⟩,rfl⟩ F _ _ B _;rw[bJ] at e;cases er:h[i]? with
   |none=>rw[er] at e;cases e
   |some b=>
    rw[er] at e;cases e;let⟨v,R,T⟩:=ok b (bA er);have C:h.take (i+1)=h.take i++[b]:=(by rw[hX,er];rfl);have E:=s.len;have w:f.length<=L.length:=len_sub f L m λp hp=>By (λe G=>ok e (uS G)) p ((mem p).mp hp);have o:=TU (p:=b.2.2) m;unfold FX;erw[cJ,aI,aK];show dP (λa=>∃d,a=[ap (.lst (g.map (·.1))),ap (.lst (eb.map (·.1))),ψ (.dt ((TR f b.2.2).map ck) d),ap b.1]) (λK l=>?_) ?_
    ·erw[ZF,cH,aE,aV,bC,rC,aA,aB,aI,aK];show#[b.1,_,_,rfl,v,ck b.2.2,rfl,iP (by rw[aG];lia),?_];rw[Kj];show l _ #[_,rfl]
    rintro a ⟨H,rfl⟩;have y:(TR f b.2.2).length<=f.length+1:=(by unfold TR;split <;> simp);erw[ZF,cH,aE,aV,bC,rC,aA,aB,aI,aK];show#[b.1,_,_,rfl,v,ck b.2.1,rfl,iP (by rw[aG];lia),B _ #[_,_,_,#[TR (TR f b.2.2) b.2.1,Kj _ _,TU o,λp=>?_],rfl]];rw[Cj,Cj,C,Vu,bV,mem];erw[aP,dN,or_false,or_assoc]
  ·rintro a ⟨c,d,u,k,rfl⟩;rw[aG,kB] at k;show l _ #[c,d,u,k,rfl]
 rintro a ⟨c,d,u,⟨f,rfl,m,mem⟩,rfl⟩;erw[fE,cH,aE,aV,Br,aA,aB];show#[L,f,by rw[cP];rfl,#[s,m,λp hp=>By ok p ((mem p).mp hp)],λI J M=>q I M λp=>?_];rw[J.mem_iff,mem,n]
end K31
namespace K39
open K34 K33 K22
def Rw{xs:ι D}{k:Nat}{x:D}{Q:D->Prop}(e:xs[k]?=ψ x):g7 (.tup xs) (.int (k:Int)) Q=Q x:=by erw[g7,qW e]
def Rx{a b c d:D}:g7 (.tup (a::b::c::d::r)) (.int 3) Q=Q d:=Rw (k:=3) rfl
def Ry{a b c d e:D}:g7 (.tup (a::b::c::d::e::r)) (.int 4) Q=Q e:=Rw (k:=4) rfl
structure rg(gs:List P2):Prop where
 len:gs.length<=16
 each:∀p∈gs,rh p
 inc:gs.Pairwise we
def rg.nodup(h:rg gs):gs.Nodup:=h.inc.imp we.ne
def zu:Nat->ι P2->ι D
 |_,[]=>[]
 |k,_::a=>.int k::zu (k+1) a
abbrev q_(gs:ι P2):D:=.dtt (gs.map ck) (zu 0 gs)
theorem C2:∀{gs:ι P2}(k:Nat),p∈gs->EW (gs.map ck) (zu k gs) (ck p)=ψ (.int ((k+gs.idxOf p:Nat):Int))
 | [],_,h=>by cases h
 |g::gs,k,h=>by
  show(if ck g=ck p then ψ (D.int k) else EW (gs.map ck) (zu (k+1) gs) (ck p))=_;by_cases e:g=p
  ·subst e;rw[Ω rfl,List.idxOf_cons_self];rfl
  ·rw[υ λz=>e (Hr z),C2 (k+1) ((aP.mp h).resolve_left λz=>e z.symm),List.idxOf_cons,show(g == p)=χ by simpa using e,cond_false];congr 2;lia
def VC{p:P2}(h:p∈gs)(q:Q (.int (gs.idxOf p:Nat))):PL (q_ gs) (uq p) Q:=
 #[ck p,_,rfl,C2 0 h,by rw[nZ];show q]
def WK(a b:Nat):ι Int:=(bT (b-a)).map λi=>((a+i:Nat):Int)
def rg.rise(h:rg gs){s t:P2}(c:gs[i]?=ψ s)(d:gs[i+1]?=ψ t):rh s/\rh t/\vm s t:=by
 have a:=h.each s (bA c);have b:=h.each t (bA d);let⟨e,f⟩:=cE.mp c;let⟨g,j⟩:=cE.mp d;have:=dJ.mp h.inc i (i+1) e g ν;rw[f,j] at this;show#[a,b,a.pos,b.pos,this]
def Ce:FD:=λa Q=>∃(c:Int)(x:D),a=[.int c,x]/\Q (.tup [.int 1,.tup [.int c,.int 1],x])
def Ux:ω Ce QJ ["column","height"]:=by
 rintro a Q ⟨c,x,rfl,q⟩;rw[cO 0 rfl];unfold QJ;nofun;show q
def Ha:FD:=λb Q=>∃(a:ι P2)(r:D)(u l:P2),b=[r,gv a,q_ a]/\(rg a/\r9 r u l/\u∈a/\l∈a)/\∀L:ι g9,L.map ky=WK (a.idxOf l) (a.idxOf u)->Q (gz L)
def Gv:FD:=λb Q=>∃(a:ι P2)(r:D)(u l:P2),b=[r,gv a,q_ a]/\(rg a/\r9 r u l/\u∈a/\l∈a)/\∀L:ι g9,L.map ky=WK (a.idxOf u) (a.idxOf l)->Q (gz L)
def rO{gs:ι P2}{p:P2}(h:p∈gs):gs.idxOf p<gs.length:=List.idxOf_lt_length_of_mem h
def ZJ(h:i<b-a):(bT (i+1)).map (λj=>((a+j:Nat):Int))=(bT i).map (λj=>((a+j:Nat):Int))++[((a+i:Nat):Int)]:=by
 rw[eE,aX];rfl
def Pj:ω Ha (GA F_lslope XW Ce F_uslope) ["row","leans","places","told","number","piece"]:=by
 rintro P Q ⟨e,r,u,l,rfl,⟨G,R,o,v⟩,q⟩;let⟨g,W,a,b,c,d,z,T,V,U,X⟩:=R.ex;have Y:=rO o;have E:=rO v;have Z:=G.len;rw[cO 3 rfl];unfold GA;erw[iY,Bt,aM,cF,bZ,cC];generalize A:gv e=k;generalize B:q_ e=m;show fC [ap r,ap k,ap m,ψ (.own []),ξ,ξ] (λK n=>?_) ?_
 ·nofun;show n
 show dP (λf=>∃(L:ι g9)(x y:Option L2.R2.S),L.map ky=WK (e.idxOf l) (e.idxOf u)/\f=[ap r,ap k,ap m,ψ (.own (L.map iq)),x,y]) (λK n=>?_) ?_
 ·erw[jS,Jn,aE,aV,r2,cH,bC,aA,aB];show#[r,u,l,rfl,R,?_];rw[<-B];show VC v #[r,u,l,rfl,R,VC o ?_];rw[B];show#[#[#[ν,ν],#[ν,ν]],?_];have H:(((e.idxOf u:Nat):Int)-((e.idxOf l:Nat):Int)).toNat=e.idxOf u-e.idxOf l:=ν
  rw[H];show wB _ _ (λi f=>∃(L:ι g9)(x y:Option L2.R2.S),L.map ky=(bT i).map (λj=>((e.idxOf l+j:Nat):Int))/\f=[ap r,ap k,ap m,ψ (.own (L.map iq)),x,y]) ?_ ?_ _ #[[],ξ,ξ,rfl,rfl]
  ·rintro i f hi ⟨L,x,y,h,rfl⟩ F _ _ I _;have lL:L.length=i:=(by have:=Φ iM h;simpa using this);have J:((e.idxOf l:Nat):Int)+(i:Int)=((e.idxOf l+i:Nat):Int):=ν;unfold yU;erw[cJ,aI,aK];rw[J];show dP (λf=>∃w:Wd,f=[ap r,ap k,ap m,ψ (.own (L.map iq)),ap (.int ((e.idxOf l+i:Nat):Int)),ap (vh w)]) (λK2 M=>?_) ?_
   ·erw[fZ,cH,aE,aV,r2,bD,rC,pT,aA,aB,aI,aK];rw[<-A];show zN ν ν λs C=>zN ν ν λt D=>?_;rw[A];have N:(((e.idxOf l+i:Nat):Int)+1).toNat=e.idxOf l+i+1:=ν;have O:(((e.idxOf l+i:Nat):Int)).toNat=e.idxOf l+i:=ν;rw[O] at C;rw[N] at D;show#[s,t,rfl,G.rise C D,λw=>M _ #[w,rfl]]
   rintro f ⟨w,rfl⟩;rw[z];erw[tQ,iJ,cH,aE,aV,r2,bC,bD,rC,nM,Rx,aA,aB,aI,aK,aQ,cY,aG];show#[g.x,_,rfl,sz2,sz2,iP ν,I _ #[L++[((((e.idxOf l+i:Nat):Int),w,1,(g.x,1),g.u0):g9)],ap (.int ((e.idxOf l+i:Nat):Int)),ap (vh w),?_,?_]]
   ·rw[aX,h,ZJ hi];rfl
   ·rw[aX,z];rfl
  ·rintro f ⟨L,x,y,h,rfl⟩;show n _ #[L,x,y,h,rfl]
 rintro f ⟨L,x,y,h,rfl⟩;erw[oP,L2.R2.S.fz,fE,bC,aA,aB,aI,aK];show q L h
def Pd:ω Gv (FW XW F_lslope iW Ce F_uslope) ["row","leans","places","told","number","piece"]:=by
 rintro ds Q ⟨e,r,u,l,rfl,⟨G,R,B,C⟩,q⟩;obtain⟨h,W,a,b,c,d,D,⟨hW,N⟩,V,lu,ll⟩:=R.ex;have iu:=rO B;have O:=rO C;have gl:=G.len;rw[cO 3 rfl];unfold FW;erw[iY,Bt,aM,cF,bZ,cC];generalize n:gv e=o;generalize E:q_ e=v;show fC [ap r,ap o,ap v,ψ (.own []),ξ,ξ] (λK z=>?_) ?_
 ·nofun;show z
 show dP (λf=>∃(L:ι g9)(x y:Option L2.R2.S),L.map ky=WK (e.idxOf u) (e.idxOf l)/\f=[ap r,ap o,ap v,ψ (.own (L.map iq)),x,y]) (λK z=>?_) ?_
 ·erw[jS,Jn,aE,aV,r2,cH,bC,aA,aB];show#[r,u,l,rfl,R,?_];rw[<-E];show VC B #[r,u,l,rfl,R,VC C ?_];rw[E];show#[#[#[ν,ν],#[ν,ν]],?_];have P:(((e.idxOf l:Nat):Int)-((e.idxOf u:Nat):Int)).toNat=e.idxOf l-e.idxOf u:=ν
  rw[P];show wB _ _ (λi f=>∃(L:ι g9)(x y:Option L2.R2.S),L.map ky=(bT i).map (λj=>((e.idxOf u+j:Nat):Int))/\f=[ap r,ap o,ap v,ψ (.own (L.map iq)),x,y]) ?_ ?_ _ #[[],ξ,ξ,rfl,rfl]
  ·rintro i f hi ⟨L,x,y,g,rfl⟩ F _ _ T _;have lL:L.length=i:=(by have:=Φ iM g;simpa using this);have U:((e.idxOf u:Nat):Int)+(i:Int)=((e.idxOf u+i:Nat):Int):=ν;obtain⟨t,k⟩:∃t,e[e.idxOf u+i+1]?=ψ t:=#[e[e.idxOf u+i+1]'ν,aL _];have A:=G.each t (bA k);unfold yT;erw[cJ,aI,aK];rw[U];have H:(((e.idxOf u+i:Nat):Int)+1).toNat=e.idxOf u+i+1:=ν;have X:(((e.idxOf u+i:Nat):Int)).toNat=e.idxOf u+i:=ν;show dP (λf=>∃w:Wd,f=[ap r,ap o,ap v,ψ (.own (L.map iq)),ap (.int ((e.idxOf u+i:Nat):Int)),ap (vh w)]) (λK2 Y=>?_) ?_
   ·erw[fZ,cH,aE,aV,r2,bD,rC,pT,aA,aB,aI,aK];rw[<-n];show zN ν ν λs I=>zN ν ν λt J=>?_;rw[n];rw[X] at I;rw[H] at J;show#[s,t,rfl,G.rise I J,λw=>Y _ #[w,rfl]]
   rintro f ⟨w,rfl⟩;rw[D];have M:=V.u1.bl V.bd N;erw[tQ,iJ,cH,aE,aV,r2,bC,bD,rC,pT,nM,Ry,aA,aB,aI,aK,aQ,cY,aG];rw[<-n];show zN ν ν λt' m=>?_;rw[H,k] at m;cases m;rw[n];show#[_,_,_,_,rfl,#[V.u1.pos,A.pos],#[M.1.mono,M.2.mono,A.bl.mono,A.bot.mono],λp Z _=>?_];show#[h.x,_,rfl,sz2,sz2,iP ν,T _ #[L++[((((e.idxOf u+i:Nat):Int),w,1,(h.x,1),(p,Z)):g9)],ap (.int ((e.idxOf u+i:Nat):Int)),ap (vh w),?_,?_]]
   ·rw[aX,g,ZJ hi];rfl
   ·rw[aX,D];rfl
  ·rintro f ⟨L,x,y,g,rfl⟩;show z _ #[L,x,y,g,rfl]
 rintro f ⟨L,x,y,g,rfl⟩;erw[oP,L2.R2.S.fz,fE,bC,aA,aB,aI,aK];show q L g
end K39
def BI:FD:=λe Q=>∃a b c d:Int,e=[fr a b,fr c d]/\(BL 4000 a/\BL 4000 b/\BL 4000 c/\BL 4000 d)/\Q (.bl (decide (a*d<c*b)))
def Iy:ω BI Fj ["one","other"]:=by
 rintro i Q ⟨a,b,c,d,rfl,⟨e,f,g,h⟩,q⟩;rw[cO 0 rfl];unfold Fj;nofun;show#[e.mulOk h,g.mulOk f,q]
namespace K04
end K04
namespace K39
open K34 K33 K22
def Gs:FD:=λa Q=>∃(b:ι P2)(r:D)(u l h:P2),a=[r,pt h,q_ b]/\(rg b/\r9 r u l/\l∈b)/\(0<h.2/\BL 400 h.2/\BL 500 h.1/\dW h.1 h.2=1)/\∀a:ι D,a.length<=1->Q (.lst a)
def Pb:ω Gs (QF Qq F_lslope Ce) ["row","height","places","lean","bit"]:=by
 rintro C Q ⟨s,r,u,l,h,rfl,⟨G,R,n⟩,⟨v,w,y,i⟩,q⟩;let⟨k,W,a,b,c,d,o,E,V,F,H⟩:=R.ex;rw[cO 2 rfl];unfold QF;erw[iY,XS,aM,cF,bZ,cC];generalize A:q_ s=m;show fC [ap r,ap (pt h),ap m,ap (uq l),ξ] (λK g=>?_) ?_
 ·erw[fZ,cH,aE,aV,bC,aA,aB,aI,aK];show#[r,u,l,rfl,R,g]
 have j:jc 6 (pt h) (.tup [.int 0,.int 1])=ψ (decide (h=(0,1))):=ya 4 h (0,1);by_cases e:h=(0,1)
 ·rw[decide_eq_true e] at j;erw[dQ,mQ,fJ,r2,iJ,aE,aV,bD,rC,fE,nQ,aA,aB,aQ,cY,sz2,sz0,true_and];erw[Ak,j,if_true];show q [] μ
 rw[decide_eq_false e] at j;show fC [ap r,ap (pt h),ap m,ap (uq l),ξ] (λK g=>?_) ?_
 ·erw[mQ,fJ,r2,iJ,aE,aV,bD,rC,iV,aA,aB,aQ,cY,sz2,true_and];erw[Ak,j,aR,if_false];show g
 have B:h.1≠0:=λz=>e (by
  rw[z] at i;have:h.2.natAbs=1:= ~~~i
  show oN z (by show h.2=1;lia))
 show dP (λf=>∃x:D,f=[ap r,ap (pt h),ap m,ap (uq l),ap x]) (λK g=>?_) ?_
 ·rw[o];erw[fZ,iJ,cH,aE,aV,r2,bC,bD,rC,nM,sT,aA,aB,aI,aK,aQ,cY];show#[l,h,rfl,#[G.each l n,#[v,w],y,B],λx=>#[k.x,_,rfl,sz2,?_]];rw[o] at g;show g _ #[_,rfl]
 rintro f ⟨x,rfl⟩;erw[fE,nQ,iJ,aE,aV,r2,bC,aA,aB,aQ,cY];rw[<-A];show VC n #[sz1,sz3,sz1,q _ η]
def wd:Nat->ι P2->ι (ι Int×D)
 |_,[]=>[]
 |k,p::a=>(ck p,.int k)::wd (k+1) a
theorem SO:∀(k:Nat)(gs:ι P2),(wd k gs).map (·.1)=gs.map ck
 |_,[]=>rfl
 |k,p::gs=>by rw[wd,aM,aM,SO (k+1) gs]
theorem Ll:∀(k:Nat)(gs:ι P2),(wd k gs).map (·.2)=zu k gs
 |_,[]=>rfl
 |k,p::gs=>by rw[wd,aM,zu,Ll (k+1) gs]
theorem Lh:∀(k:Nat)(gs:ι P2),((gs.map pt).zipIdx k).map (λp=>D.tup [.int (p.2:Int),p.1])=(wd k gs).map λx=>D.tup [x.2,.tup (x.1.map .int)]
 |_,[]=>rfl
 |k,p::gs=>by
  rw[aM,NO,aM,Lh (k+1) gs,wd,aM];rfl
abbrev oK(gs:ι P2)(e:sF):ι Int:=WK (gs.idxOf e.2.2) (gs.idxOf e.2.1)
abbrev cK(gs:ι P2)(e:sF):ι Int:=WK (gs.idxOf e.2.1) (gs.idxOf e.2.2)
def Hb:FD:=λc Q=>∃(a:ι P2)(b:ι sF),c=[.lst (b.map (·.1)),gv a]/\(rg a/\K22.EsOk a b/\b.length<=12)/\∀(bs:ι D)(O C:ι g9),O.map ky=b.flatMap (oK a)->C.map ky=b.flatMap (cK a)->Q (.tup [.lst bs,gz O,gz C])
def BF(a b:Nat):(WK a b).length=b-a:=by unfold WK;simp
def Ts{v W p q:Int}(c:0<W)(a:BL 400 W)(b:BL 450 v)(L:jz v W p q):0<q/\BL 400 q/\BL 500 p/\dW p q=1:=
 #[L.pos,a.le L.leb,(b.mono:BL 500 v).le L.lea,L.cop]
def Pm:ω Hb (Fl BI Gs Gv D5 Ha D6) ["rows","leans","places","boxes","openings","closings","row","height"]:=by
 rintro ds Q ⟨g,J,rfl,⟨G,E,l12⟩,q⟩;have gl:=G.len;rw[cO 6 rfl];unfold Fl;erw[iY,Vg,aM,cF,bZ,cC];generalize hR:D.lst (J.map (·.1))=n;generalize hG:gv g=o;show fC [ap n,ap o,ap (q_ g),ξ,ξ,ξ,ξ,ξ] (λK s=>?_) ?_
 ·rw[<-hG] at s⊢;erw[fZ,Jk,mE,Zg,bC,xX,XS,cF,bU,aA,aB,aI,aK];unfold YO;rw[Lh 0 g];show#[iP (by rw[aG];have:=Φ iM (SO 0 g);simp at this;lia),nK (λi=>∃a b,i=[a,b]) (λx:ι Int×D=>D.tup [x.2,.tup (x.1.map .int)]) pairD (wd 0 g) ?_ #[ξ,ξ,rfl] ?_]
  ·rintro x _ i ⟨a,b,rfl⟩ T m;erw[nX,fX,nW,cJ,iJ,aE,aV,bC,aQ,cY,true_and,aA,aB,aI,aK];show#[sz2,m _ #[_,_,rfl]]
  ·show#[wd 0 g,rfl,?_,?_]
   ·rw[SO];show yA _ (λa b U e=>U (Hr e)) G.nodup
   ·rw[SO,Ll];show s
 show fC [ap n,ap o,ap (q_ g),ψ (.own []),ξ,ξ,ξ,ξ] (λK s=>?_) ?_
 ·nofun;show s
 show fC [ap n,ap o,ap (q_ g),ψ (.own []),ψ (.own []),ξ,ξ,ξ] (λK s=>?_) ?_
 ·nofun;show s
 show fC [ap n,ap o,ap (q_ g),ψ (.own []),ψ (.own []),ψ (.own []),ξ,ξ] (λK s=>?_) ?_
 ·nofun;show s
 show dP (λi=>∃(bs:ι D)(O C:ι g9)(x y:Option L2.R2.S),(O.map ky=J.flatMap (oK g)/\C.map ky=J.flatMap (cK g))/\i=[ap n,ap o,ap (q_ g),ψ (.own bs),ψ (.own (O.map iq)),ψ (.own (C.map iq)),x,y]) (λK s=>?_) ?_
 ·rw[<-hR];erw[jS,riL,bC,aA];rw[hR];show nB (λys i=>∃(j u:ι sF)(bs:ι D)(O C:ι g9)(x y:Option L2.R2.S),J=j++u/\ys=u.map (·.1)/\(bs.length<=j.length/\O.map ky=j.flatMap (oK g)/\C.map ky=j.flatMap (cK g))/\i=[ap n,ap o,ap (q_ g),ψ (.own bs),ψ (.own (O.map iq)),ψ (.own (C.map iq)),x,y]) ?_ ?_ _ _ #[[],J,[],[],[],ξ,ξ,rfl,rfl,#[aS _,rfl,rfl],rfl]
  ·rintro y0 ys i ⟨j,u,bs,O,C,x,y,v,X,⟨lb,z,A⟩,rfl⟩ F hr hbk U _;cases u with
   |nil=>cases X
   |cons e u=>
    cases X;have ld:j.length<=11:=(by have:=Φ iM v;simp at this;lia);let⟨R,mu,Y⟩:=E e (by rw[v];simp);obtain⟨w,W,a,b,c,d,er,⟨B,H⟩,V,lu,ll⟩:=R.ex;have iu:=rO mu;have il':=rO Y;have N:∀(f:sF->ι Int),(∀e∈j,(f e).length<=16)->(j.flatMap f).length<=16*11:=λf hf=>by
     have:∀l:ι sF,(∀e∈l,(f e).length<=16)->(l.flatMap f).length<=16*l.length:=by
      intro l
      induction l with
      |nil=>intro _;simp
      |cons e l ih=>
       intro h;have:=ih λx hx=>h x (bH _ hx);have:=h e (cT ..);erw[dA,aU,aQ];lia
     have:=this j hf;lia
    have lO:O.length<=176:=by
     have:=Φ iM z;rw[aG] at this;rw[this];show N _ λe he=>by
      let⟨_,m1,m2⟩:=E e (by rw[v];simp[he]);have:=rO m1;have:=rO m2;rw[BF];lia
    have lC:C.length<=176:=by
     have:=Φ iM A;rw[aG] at this;rw[this];show N _ λe he=>by
      let⟨_,m1,m2⟩:=E e (by rw[v];simp[he]);have:=rO m1;have:=rO m2;rw[BF];lia
    unfold QH;erw[cJ,aI,aK];show dP (λi=>∃h:P2,(0<h.2/\BL 400 h.2/\BL 500 h.1/\dW h.1 h.2=1)/\i=[ap n,ap o,ap (q_ g),ψ (.own bs),ψ (.own (O.map iq)),ψ (.own (C.map iq)),ap e.1,ap (pt h)]) (λT m=>?_) ?_
    ·erw[fZ,cH,aE,aV,bC,aA,aB,aI,aK];show#[W,w,a,b,c,d,by rw[er],#[B,H],V,λp I L=>m _ #[(p,I),Ts B H ((V.bc.sub V.ba).mono) L,rfl]]
    rintro i ⟨h,⟨h2,vq,vp,hc⟩,rfl⟩;show dP (λi=>∃h:P2,(0<h.2/\BL 400 h.2/\BL 500 h.1/\dW h.1 h.2=1)/\i=[ap n,ap o,ap (q_ g),ψ (.own bs),ψ (.own (O.map iq)),ψ (.own (C.map iq)),ap e.1,ap (pt h)]) (λT m=>?_) ?_
    ·erw[mQ,fJ,cH,aE,aV,bC,aA,aB];show#[W,w,a,b,c,d,by rw[er],#[B,H],V,λp I L=>?_];let⟨z2,z3,z4,z5⟩:=Ts B H ((V.bd.sub V.bb).mono) L;show#[p,I,h.1,h.2,rfl,#[z4.mono,z3.mono,vp.mono,vq.mono],?_];by_cases k:p*h.2<h.1*I
     ·erw[k,decide_true,if_true,fZ,cH,aE,aV,bC,aA,aB,aI,aK];show#[W,w,a,b,c,d,by rw[er],#[B,H],V,λp I L=>m _ #[(p,I),Ts B H ((V.bd.sub V.bb).mono) L,rfl]]
     ·erw[k,decide_false,aR,if_false,iV];show m _ #[h,#[h2,vq,vp,hc],rfl]
    clear hc vp vq h2 h;rintro i ⟨h,hh,rfl⟩;show dP (λi=>∃P:ι D,P.length<=j.length+1/\i=[ap n,ap o,ap (q_ g),ψ (.own P),ψ (.own (O.map iq)),ψ (.own (C.map iq)),ap e.1,ap (pt h)]) (λT m=>?_) ?_
    ·erw[AY,cH,aE,aV,bC,aA,aB,aI,aK];show#[g,e.1,e.2.1,e.2.2,h,rfl,#[G,R,Y],hh,λds hd=>#[iP ν,m _ #[bs++ds,by rw[aU];lia,rfl]]]
    rintro i ⟨P,lb',rfl⟩;show dP (λi=>∃L:ι g9,L.map ky=oK g e/\i=[ap n,ap o,ap (q_ g),ψ (.own P),ψ (.own ((O++L).map iq)),ψ (.own (C.map iq)),ap e.1,ap (pt h)]) (λT m=>?_) ?_
    ·erw[AY,cH,aE,aV,bC,aA,aB,aI,aK];rw[<-hG] at m⊢;show#[g,e.1,e.2.1,e.2.2,rfl,#[G,R,mu,Y],λL Z=>#[iP ?_,?_]]
     ·have:=Φ iM Z;rw[aG,BF] at this;rw[aG,aG];lia
     ·rw[<-aX];show m _ #[L,Z,rfl]
    rintro i ⟨L,Z,rfl⟩;erw[AY,cH,aE,aV,bC,aA,aB,aI,aK];rw[<-hG] at U⊢;show#[g,e.1,e.2.1,e.2.2,rfl,#[G,R,mu,Y],λM hM=>#[iP ?_,?_]]
    ·have:=Φ iM hM;rw[aG,BF] at this;rw[aG,aG];lia
    ·rw[<-aX];show U _ #[j++[e],u,P,O++L,C++M,ap e.1,ap (pt h),by rw[v];simp,rfl,#[~~~lb',by rw[aX,z,Z,gD];simp,by rw[aX,A,hM,gD];simp],rfl]
  ·rintro i ⟨j,u,bs,O,C,x,y,v,X,⟨lb,z,A⟩,rfl⟩;have:u=[]:=(~~~X.symm);subst this;rw[bU] at v;subst v;show s _ #[bs,O,C,x,y,#[z,A],rfl]
 rintro i ⟨bs,O,C,x,y,⟨z,A⟩,rfl⟩;erw[oP,L2.R2.S.fz,fE,iJ,aE,aV,bC,aA,aB,aI,aK,aQ,cY];show#[sz3,q bs O C z A]
open K34 K33 K22 K23
structure HK(hs:List Int):Prop where
 bl:∀x∈hs,BL 195 x
 up:hs.Pairwise (·<=·)
def C9:FD:=λb Q=>∃(ns:ι Int)(m:Nat)(p:Int),b=[il ns,.int m,.int p]/\(1<=m/\m<=4)/\(0<=p/\p<=100)/\∀a:ι Int,a.length=m->HK a->Q (il a)
def Zc:ω C9 (yL ZT SC) ["_law_script","_law_many_here","_law_place","_law_number","_law_found","_law_k","_law_step"]:=by
 rintro Z Q ⟨ns,m,p,rfl,⟨m0,m1⟩,⟨G,p1⟩,q⟩;rw[cO 4 rfl];unfold yL;erw[iY,Pv,aM,cF,bZ,cC];show dP (λj=>∃c:Int,j=[ap (il ns),ap (.int m),ap (.int p),ap (.int c),ξ,ξ,ξ]) (λK g=>?_) ?_
 ·nofun;show#[ns,p,rfl,#[G,ν],λc _ _=>g _ #[c,rfl]]
 rintro j ⟨c,rfl⟩;show dP (λj=>∃a:Int,(-CO<=a/\a<=CO)/\j=[ap (il ns),ap (.int m),ap (.int p),ap (.int c),ψ (.own [.int a]),ξ,ξ]) (λK g=>?_) ?_
 ·nofun;let⟨B,C⟩:=jN (a:=c) (b:=41) μ;show#[vM,g _ #[_,#[by unfold CO;lia,by unfold CO;lia],rfl]]
 rintro j ⟨a,H,rfl⟩;show dP (λj=>∃a:Int,(-CO<=a/\a<=CO)/\j=[ap (il ns),ap (.int m),ap (.int p),ap (.int c),ψ (.own [.int a]),ξ,ξ]) (λK g=>?_) ?_
 ·nofun;show#[ns,1,rfl,μ,λc'=>?_];nofun;show#[vM,?_];split
  ·show#[ns,p,rfl,G,λE=>?_];nofun;let⟨B,C⟩:=jN (a:=E) (b:=2000000000000000000000000000000) μ;show#[Bl,(BL.const (n:=300) μ).mulOk (BL.const (n:=300) μ),vM,Bl,g _ #[_,#[by unfold CO;lia,by unfold CO;lia],rfl]]
  ·show g _ #[a,H,rfl]
 rintro j ⟨a,H,rfl⟩;show dP (λj=>∃(f:ι Int)(u v w:Option L2.R2.S),(f.length=m/\HK f)/\j=[ap (il ns),ap (.int m),ap (.int p),u,ψ (.own (f.map D.int)),v,w]) (λK g=>?_) ?_
 ·nofun;show#[#[#[μ,μ],#[ν,ν]],?_];have N:(((m:Int)-1).toNat)=m-1:=ν
  rw[N];show wB 1 (m-1) (λi j=>∃(f:ι Int)(u v w:Option L2.R2.S),(f.length=i+1/\(∀z∈f,-CO<=z/\z<=CO+100000000*i)/\f.Pairwise (·<=·))/\j=[ap (il ns),ap (.int m),ap (.int p),u,ψ (.own (f.map D.int)),v,w]) ?_ ?_ _ #[[a],ap (.int c),ξ,ξ,#[rfl,(λz k=>by simp at k;subst k;unfold CO at *;lia),kP _ _],rfl]
  ·rintro i j hi ⟨f,u,v,w,⟨o,s,A⟩,rfl⟩ F _ _ O _;unfold uW;erw[cJ,aI,aK];show dP (λj=>∃x:Int,(0<=x/\x<2147483647)/\j=[ap (il ns),ap (.int m),ap (.int p),ap (.int x),ψ (.own (f.map D.int)),ap (.int (1+i)),w]) (λK g=>?_) ?_
   ·nofun;show#[(BL.const (n:=20) μ).mulOk (n:=20) (BL.of_lt ν ν),ns,20+9*p+(1+(i:Int)),rfl,#[ν,ν],λx I J=>g _ #[x,#[I,J],rfl]]
   rintro j ⟨x,⟨I,J⟩,rfl⟩;show dP (λj=>∃y:Int,(0<=y/\y<100000000)/\j=[ap (il ns),ap (.int m),ap (.int p),ap (.int x),ψ (.own (f.map D.int)),ap (.int (1+i)),ap (.int y)]) (λK g=>?_) ?_
   ·nofun;let⟨b0,b1⟩:=jN (a:=x.fdiv 4) (b:=5) μ;let⟨P,d1⟩:=jN (a:=x.fdiv 4) (b:=7) μ;let⟨R,T⟩:=jN (a:=x.fdiv 4) (b:=100000000) μ;let⟨B,C⟩:=jN (a:=x) (b:=4) μ;walk_at "sides";show#[ns,2,rfl,μ,λU=>?_];let⟨V,W⟩:=jN (a:=U) (b:=2) μ;have fin:∀{w:Int},(0<=w/\w<100000000)->g7 (.lst [.int 0,.int 1,.int ((x.fdiv 4).fmod 5),.int w]) (.int (x.fmod 4)) λd=>K [ap (il ns),ap (.int m),ap (.int p),ap (.int x),ψ (.own (f.map D.int)),ap (.int (1+i)),ap d]:=λ{w} X=>by
     show Al B (~~~C) λz k=>?_;erw[aP,dN,or_false] at k;rcases k with rfl |rfl |rfl |rfl
     ·show g _ #[0,μ,rfl]
     ·show g _ #[1,μ,rfl]
     ·show g _ #[_,#[ν,ν],rfl]
     ·show g _ #[_,X,rfl]
    nofun;walk_at "sides";show Al V (~~~W) λz k=>?_;erw[aP,dN,or_false] at k;rcases k with rfl |rfl
    ·nofun;walk_at "sides";show fin #[P,ν]
    ·nofun;walk_at "sides";show fin #[R,T]
   rintro j ⟨y,L,rfl⟩;nofun;show Tc (by intro e;rw[e] at o;simp at o) λt l e=>?_;nofun;show#[iP ε,O _ #[f++[t+y],ap (.int x),ap (.int (1+(i:Int))),ap (.int y),#[by simp[o],λz k=>?_,dI.mpr #[A,kP _ _,λx M y L=>?_]],by rw[aX];rfl]]
   ·rcases bV.mp k with h |h
    ·have:=s z h;lia
    ·have:=s t (by rw[e];simp);simp at h;subst h;lia
   ·rw[e] at M A;have Y:x<=t:=by
     rcases bV.mp M with h |h
     ·show(dI.mp A).2.2 x h t (.head _)
     ·rw[bE.mp h];show rV _
    rw[bE.mp L];lia
  ·rintro j ⟨f,u,v,w,⟨o,s,A⟩,rfl⟩;show g _ #[f,u,v,w,#[ν,#[λz k=>?_,A]],rfl];have:=s z k;have e:CO+100000000*30<((2 ^ 195:Nat):Int):=μ;show BL.of_lt ν ν
 rintro j ⟨f,u,v,w,⟨o,s⟩,rfl⟩;nofun;show q f o s
structure pr(ts:List Int)(hss:List (List Int))(n:Nat):Prop where
 cur:f9 ts hss n
 tl:ts.length<=3
 n2:n<=2
 lo:∀t∈ts,-120<=t/\t<=120
 w4:∀x∈ts,∀y∈ts,y-x<=4
 hk:∀hs∈hss,HK hs
def KK:FD:=λc Q=>∃(ns:ι Int)(k:Int),c=[il ns,.int k]/\(0<=k/\k<=50)/\∀b a n,pr b a n->(∀t∈b,-100<=t/\t<=104)->Q (.tup [il b,j6 a])
structure ThK(ts:List Int)(a:Int)(i:Nat):Prop where
 len:ts.length=i+1
 step:∀(k:Nat) a b,ts[k]?=ψ a->ts[k+1]?=ψ b->1<=b-a/\b-a<=2
 lo:∀t∈ts,a<=t/\t<=a+2*i
def ThK.thr(h:ThK ts a i)(hi:1<=i/\i<=2)(g:-100<=a/\a<=100):u9 ts:=by
 show#[by rw[h.len];lia,λx c=>?_,λk a b d e=>by have:=h.step k a b d e;lia,λx c y f=>by have:=h.lo x c;have:=h.lo y f;lia];have:=h.lo x c;show(BL.of_lt (m:=10) ν ν).mono
def Fb:ω KK (IM C9 SC) ["_law_script","_law_start","_law_threads","_law_k","_law_many_here"]:=by
 rintro ds Q ⟨ns,k,rfl,⟨U,k1⟩,q⟩;rw[cO 3 rfl];unfold IM;erw[iY,Bt,aM,cF,bZ,cC];show dP (λf=>∃a:Int,(-100<=a/\a<=100)/\f=[ap (il ns),ap (.int k),ψ (.own ([a].map D.int)),ξ,ξ]) (λK A=>?_) ?_
 ·nofun;show#[ns,k,rfl,#[U,ν],λv _ _=>?_];nofun;let⟨N,O⟩:=jN (a:=v) (b:=200) μ;show#[vM,A _ #[v.fmod 200-100,#[ν,ν],rfl]]
 rintro f ⟨a,I,rfl⟩;show dP (λf=>∃(g:ι Int)(m:Nat)(u:Option L2.R2.S),(ThK g a m/\1<=m/\m<=2)/\f=[ap (il ns),ap (.int k),ψ (.own (g.map D.int)),u,ξ]) (λK A=>?_) ?_
 ·nofun;show#[ns,k+1,rfl,#[ν,ν],λv _ _=>?_];nofun;let⟨N,O⟩:=jN (a:=v) (b:=2) μ;show#[vM,#[ν,ν],?_];have V:((1+v.fmod 2).toNat:Int)=1+v.fmod 2:=ν
  generalize (1+v.fmod 2).toNat=m at V;show wB 0 m (λi f=>∃(g:ι Int)(u:Option L2.R2.S),ThK g a i/\f=[ap (il ns),ap (.int k),ψ (.own (g.map D.int)),u,ξ]) ?_ ?_ _ #[[a],ξ,#[rfl,(λk a b B z=>by simp at z),η],rfl]
  ·rintro i f hi ⟨g,u,h,rfl⟩ F _ _ W _;unfold AZ;erw[cJ,aI,aK];nofun;show Tc (by intro e;have:=h.len;rw[e] at this;simp at this) λw l e=>?_;nofun;show#[ns,k+2+(0+(i:Int)),rfl,#[ν,ν],λv _ _=>?_];nofun;let⟨X,Y⟩:=jN (a:=v) (b:=2) μ;generalize v.fmod 2=y at X Y⊢;show#[vM,iP (by have:=h.len;simp;lia),W _ #[g++[w+1+y],_,#[by simp[h.len],λk a b B z=>?_,λt s=>?_],by rw[aX];rfl]]
   ·by_cases Z:k+1<g.length
    ·rw[eX ν] at B;rw[eX Z] at z;show h.step k a b B z
    ·have J:=(cE.mp z).1;rw[aU,jW] at J;have L:k+1=g.length:=ν;rw[fD ν,L,Nat.sub_self] at z;have z:w+1+y=b:=dG z;rw[eX ν,e] at B;have:k=l.length:=(by have:=Φ iM e;simp at this;lia);rw[this,fD (aS _),Nat.sub_self] at B;have B:w=a:=dG B;lia
   ·rcases bV.mp s with s |s
    ·have:=h.lo t s;lia
    ·have:=h.lo w (by rw[e];simp);rw[bE.mp s];lia
  ·rintro f ⟨g,u,h,rfl⟩;show A _ #[g,m,u,#[h,ν,ν],rfl]
 rintro f ⟨g,m,u,⟨G,m1,m2⟩,rfl⟩;have tl:=G.len;show dP (λf=>∃n:Nat,(1<=n/\n<=2)/\f=[ap (il ns),ap (.int k),ψ (.own (g.map D.int)),u,ap (.int ((2*n:Nat):Int))]) (λK A=>?_) ?_
 ·nofun;show#[ns,k+4,rfl,#[ν,ν],λv _ _=>?_];nofun;let⟨N,O⟩:=jN (a:=v) (b:=2) μ;show#[vM,(BL.const (n:=20) μ).mulOk (n:=20) (BL.of_lt ν ν),?_];have:=A [ap (il ns),ap (.int k),ψ (.own (g.map D.int)),u,ap (.int ((2*(1+v.fmod 2).toNat:Nat):Int))] #[_,#[ν,ν],rfl];rw[show((2*(1+v.fmod 2).toNat:Nat):Int)=2+2*v.fmod 2 by lia] at this;show this
 rintro f ⟨n,T,rfl⟩;erw[oP,L2.R2.S.fz,aA,aB,aI,aK];nofun;show#[#[by rw[aG];lia,by rw[aG];lia],iP (by rw[xK];simp;lia),?_];show Cu (R:=λf=>∃a,f=[a,ap (il ns),ap (.int ((2*n:Nat):Int)),ap (.int k)]) (P:=λd=>∃c:ι Int,d=il c/\c.length=2*n/\HK c) _ _ _ #[_,rfl] ?_ ?_
 ·rintro a I f ⟨b,rfl⟩ K A;let⟨j,rfl,j0,j1⟩:=Ip I;rw[aG,tl] at j1;nofun;show#[ns,2*n,k+5+j,rfl,#[ν,ν],#[ν,ν],λc l1 l2=>A _ _ #[_,rfl] #[c,rfl,l1,l2]]
 ·intro C M hp;obtain⟨o,e,H⟩:∃o:ι (ι Int),C=o.map il/\∀c∈o,c.length=2*n/\HK c:=by
   clear M
   induction C with
   |nil=>show#[[],rfl,η]
   |cons d C ih=>
    let⟨o,e,H⟩:=ih λd hd=>hp d (by simp[hd]);let⟨c,rfl,J⟩:=hp d η;show#[c::o,by rw[e];rfl,λx E=>?_];rcases aP.mp E with rfl |E
    ·show J
    ·show H x E
  rw[xK,aG,gU,e,aG] at M;rw[cC,e];show q g o n #[#[G.thr #[m1,m2] I,M,#[T.1,ν],λc h=>(H c h).1,λc h x E=>((H c h).2.bl x E).mono,λc h=>(H c h).2.up],ν,T.2,λt s=>?_,λx E y hy=>?_,λc h=>(H c h).2] λt s=>?_
  ·have:=G.lo t s;lia
  ·have:=G.lo x E;have:=G.lo y hy;lia
  ·have:=G.lo t s;lia
abbrev vf(l:ι Int):ι Int:=l.reverse.map λx=>0-x
abbrev ngH(hss:ι (ι Int)):ι (ι Int):=hss.reverse.map vf
def ZY:FD:=λc Q=>∃(b:ι Int)(a:ι (ι Int)),c=[il b,j6 a]/\(b.length<=10/\a.length<=10/\∀d∈a,d.length<=10)/\Q (.tup [il (vf b),j6 (ngH a)])
def Eg(c:xs.length<=10)(q:Q ((vf xs).map .int)):Sz ((xs.map D.int).reverse.length)/\yF (cJ 0) (r2 qL (e_ 0) (bD 0)) (xs.map D.int).reverse [ξ] [] Q:=by
 show#[iP (by rw[fV,aG];lia),?_];rw[<-nF];show nK (λa=>∃u,a=[u]) D.int (λx=>.int (0-x)) xs.reverse ?_ #[_,rfl] ?_
 ·rintro x _ a ⟨u,rfl⟩ K b;erw[cJ,r2,rC,bD,qL,aA,aI];show b _ #[_,rfl]
 ·rw[show xs.reverse.map (λx=>D.int (0-x))=(vf xs).map .int by rw[cP];rfl];show q
def Jh:ω ZY FV ["_law_threads","_law_heights_here","_law_turned_here","_law_row"]:=by
 rintro m Q ⟨d,b,rfl,⟨f,n,g⟩,q⟩;rw[cO 2 rfl];unfold FV;erw[iY,XS,aM,cF,bZ,cC];show fC [ap (il d),ap (j6 b),ψ (.own []),ξ] (λK e=>?_) ?_
 ·nofun;show e
 show dP (λa=>∃u,a=[ap (il d),ap (j6 b),ψ (.own ((ngH b).map il)),u]) (λK e=>?_) ?_
 ·erw[jS,QM,bC,aA,aB];rw[<-nF];show qR _ (λi a=>∃u,a=[ap (il d),ap (j6 b),ψ (.own ((((b.reverse).take i).map vf).map il)),u]) ?_ ?_ _ #[ξ,rfl]
  ·rintro i x a c ⟨u,rfl⟩ F _ _ j _;rw[bJ] at c;cases he:b.reverse[i]? with
   |none=>rw[he] at c;cases c
   |some h=>
    rw[he] at c;cases c;have k:b.reverse.take (i+1)=b.reverse.take i++[h]:=(by rw[hX,he];rfl);have o:(b.reverse.take i).length<=10:=(by rw[gH,fV];lia);have l:h∈b:=gO.mp (bA he);unfold yR;erw[cJ,aI,aK];erw[tQ,mE,QM,bC,xX,Bs,cF,bU,aA,aB,aI,aK];show Eg (g h l) ?_;show#[iP (by rw[aG,aG];lia),j _ #[ap (il h),?_]];rw[k,aX,aX];rfl
  ·rintro a ⟨u,rfl⟩;rw[aG,kB];show e _ #[u,rfl]
 rintro a ⟨u,rfl⟩;erw[oP,L2.R2.S.fz,fE,iJ,aE,aV,mE,QM,bC,xX,Bs,cF,bU,aA,aB,aI,aK,aQ,cY];show Eg f #[sz2,q]
def Lq(h:(vf l)[i]?=ψ a):i<l.length/\l[l.length-1-i]?=ψ (0-a):=by
 rw[bJ] at h;let⟨b,c,rfl⟩:=fY.mp h;have hi:i<l.length:=by have:=(cE.mp c).1;rwa [fV] at this
 rw[tM hi] at c;show#[hi,by rw[c];congr 1;lia]
def CF(h:x∈vf l):0-x∈l:=by
 let⟨y,a,rfl⟩:=bK.mp h;rw[show 0-(0-y)=y by lia];show gO.mp a
def HK.neg(h:HK hs):HK (vf hs):=by
 show#[λx c=>?_,?_]
 ·have:=h.bl _ (CF c);unfold BL at *;lia
 ·show fP.mpr (gS.mpr (h.up.imp λ{a b} d=>?_));lia
def pr.turn(h:pr ts hss n):pr (vf ts) (ngH hss) n:=by
 have C:=h.cur;have l:=C.thr.len;have j:∀c∈ngH hss,∃g∈hss,c=vf g:=λc d=>by
  let⟨g,e,rfl⟩:=bK.mp d;show#[g,gO.mp e,rfl]
 show#[#[#[~~~l,λx f=>?_,λi a b m o=>?_,λx f y k=>?_],~~~C.len,C.n1,λc d=>?_,λc d x f=>?_,λc d=>?_],~~~h.tl,h.n2,λt q=>?_,λx f y k=>?_,λc d=>?_]
 ·have:=C.thr.bl _ (CF f);unfold BL at *;lia
 ·let⟨v,s⟩:=Lq m;let⟨w,u⟩:=Lq o;have:=C.thr.step (ts.length-1-(i+1)) _ _ u (by rw[show ts.length-1-(i+1)+1=ts.length-1-i by lia];show s);lia
 ·have:=C.thr.wide _ (CF k) _ (CF f);lia
 ·let⟨g,e,rfl⟩:=j c d;simpa using C.each g e
 ·let⟨g,e,rfl⟩:=j c d;show((h.hk g e).neg.bl x f).mono
 ·let⟨g,e,rfl⟩:=j c d;show(h.hk g e).neg.up
 ·have:=h.lo _ (CF q);lia
 ·have:=h.w4 _ (CF k) _ (CF f);lia
 ·let⟨g,e,rfl⟩:=j c d;show(h.hk g e).neg
def pr.put(h:pr ts hss n)(lo:∀t∈ts,-100<=t/\t<=104):pr (ts.map (· + 7)) hss n:=by
 have C:=h.cur;have k:=C.thr.len;show#[#[#[~~~k,λx d=>?_,λi a b g j=>?_,λx d y f=>?_],~~~C.len,C.n1,C.each,C.bl,C.up],~~~h.tl,h.n2,λt c=>?_,λx d y f=>?_,h.hk]
 ·let⟨t,c,rfl⟩:=bK.mp d;have:=lo t c;show(BL.of_lt (m:=10) ν ν).mono
 ·rw[bJ] at g j;let⟨l,o,rfl⟩:=fY.mp g;let⟨q,s,rfl⟩:=fY.mp j;have:=C.thr.step i l q o s;lia
 ·let⟨t,c,rfl⟩:=bK.mp d;let⟨u,e,rfl⟩:=bK.mp f;have:=C.thr.wide t c u e;lia
 ·let⟨u,e,rfl⟩:=bK.mp c;have:=lo u e;lia
 ·let⟨t,c,rfl⟩:=bK.mp d;let⟨u,e,rfl⟩:=bK.mp f;have:=h.w4 t c u e;lia
def Hc:FD:=λe Q=>∃(ns c:ι Int)(a:ι (ι Int))(n:Nat),e=[il ns,il c,j6 a]/\(pr c a n/\∀t∈c,-100<=t/\t<=104)/\∀b d f,pr b d f->Q (.tup [il b,j6 d])
def Po:ω Hc (BB ZT KK ZY) ["_law_script","_law_threads","_law_heights_here","_law_way"]:=by
 rintro l Q ⟨ns,d,b,n,rfl,⟨h,lo⟩,q⟩;have m:=h.tl;rw[cO 1 rfl];unfold BB;erw[iY,Bs,aM,cF,bZ,cC];show dP (λa=>∃w:Int,a=[ap (il ns),ap (il d),ap (j6 b),ap (.int w)]) (λK e=>?_) ?_
 ·nofun;show#[ns,3,rfl,μ,λc=>?_];nofun;show#[vM,e _ #[_,rfl]]
 rintro a ⟨w,rfl⟩;show fC [ap (il ns),ap (il d),ap (j6 b),ap (.int w)] (λK e=>?_) ?_
 ·nofun;split
  ·show#[d,b,rfl,#[ν,by have:=h.cur.len;lia,λf g=>by have:=h.cur.each f g;have:=h.n2;lia],q _ _ n h.turn]
  ·show e
 show fC [ap (il ns),ap (il d),ap (j6 b),ap (.int w)] (λK e=>?_) ?_
 ·erw[mQ,fJ,r2,AK,bD,rC,iV,fE,iJ,aE,aV,mE,riL,bC,xX,Bs,cF,bU,aA,aB,aQ,cY];erw[aR,if_false,decide_eq_true_eq];split
  ·show#[iP (by rw[aG];lia),nK (λa=>∃u,a=[u]) D.int (λx=>.int (x+7)) d ?_ #[_,rfl] ?_]
   ·rintro x _ a ⟨u,rfl⟩ K e;nofun;show e _ #[_,rfl]
   ·rw[show d.map (λx=>D.int (x+7))=(d.map (· + 7)).map .int by rw[cP];rfl];show#[sz2,q _ _ n (h.put lo)]
  ·show e
 nofun;show#[ns,30,rfl,#[μ,μ],λi o j k _=>q _ _ j k]
end K39
namespace K23
def Cw(C:f9 ts hss n)(b:j<2*n)(a:k<ts.length){Q:D->Prop}(q:Q (pt (DU ts hss j k))):
  g7 (il ts) (.int (0+(k:Int))) λd=>g7 (j6 hss) (.int (0+(k:Int))) λd1=>g7 d1 (.int (j:Int)) λd2=>Q (.tup [d,d2]):=by
 have e:(0:Int)+(k:Int)=(k:Int):=ν
 have c:=C.len;rw[e];show YT (HZ a) (Ie (He ν) (YT (Kf C a b) q))
end K23
namespace K39
open K34 K33 K22 K23
def tj(ts:ι Int)(hss:ι (ι Int))(k:Nat):ι (ι Pt):=(bT k).map λi=>o4 ts hss (2*i)++(o4 ts hss (2*i+1)).reverse
def Fo(ts:ι Int)(hss:ι (ι Int))(k:Nat):tj ts hss (k+1)=tj ts hss k++[o4 ts hss (2*k)++(o4 ts hss (2*k+1)).reverse]:=by unfold tj;rw[eE,aX];rfl
theorem ZI(h:u9 ts):∀k:Nat,(lS (tj ts hss k)).Perm (((bT (2*k)).map (um ts hss)).flatten)
 | 0=>.refl _
 |k+1=>by
  rw[Fo,show 2*(k+1)=2*k+1+1 by lia,eE,eE];erw[lS,aX,qK,aM,cF,jJ,List.flatten_nil,bU];rw[cL];show NH (ZI h k) (K23.ring_sides (hss:=hss) h (2*k) (2*k+1))
def Aj(ts:ι Int)(hss:ι (ι Int))(j:Nat):(o4 ts hss j).length=ts.length:=by unfold o4;rw[aG,eI]
def pr.cloth(h:pr ts hss n):jy ts hss n (tj ts hss n):=by
 show#[by unfold tj;rw[aG,eI];have:=h.n2;lia,λg a=>?_,[],?_,(λs b=>by cases b),λc=>dL _]
 ·let⟨i,_,rfl⟩:=bK.mp a;have:=h.tl;rw[aU,fV,Aj,Aj];lia
 ·rw[bU,bU];show ZI h.cur.thr n
def SD:FD:=λc Q=>∃(b:ι Int)(a:ι (ι Int))(n:Nat),c=[il b,j6 a]/\pr b a n/\Q (OU (tj b a n))
def Jg:ω SD DC ["_law_threads","_law_heights_here","_law_rings_here","_law_low","_law_ring","_law_back"]:=by
 rintro G Q ⟨b,hss,n,rfl,h,q⟩;have C:=h.cur;have H:=h.tl;have I:=C.len;have J:=C.thr.len;have L:=h.n2;rw[cO 4 rfl];unfold DC;erw[iY,Pv,aM,cF,bZ,cC];show fC [ap (il b),ap (j6 hss),ψ (.own []),ξ,ξ,ξ] (λK c=>?_) ?_
 ·nofun;show c
 show dP (λa=>∃u v w,a=[ap (il b),ap (j6 hss),ψ (.own ((tj b hss n).map gv)),u,v,w]) (λK c=>?_) ?_
 ·erw[jS,Bu,aE,aV,rC,r1,r2,bD,L2.R2.S.val,aA,aB];have y:=He (hss:=hss) (z:=0) ν;show qY (x:=il (hss.getD 0 [])) (qW (j:=0) (by rw[bJ,y];rfl)) ?_;have A:=C.each _ (bA y);erw[qC];rw[aG,A];show#[#[#[μ,μ],#[ν,ν],trivial],?_];rw[show((((2*n:Nat):Int)-0+1) / 2).toNat=n by lia];show qR _ (λi a=>∃u v w,a=[ap (il b),ap (j6 hss),ψ (.own ((tj b hss i).map gv)),u,v,w]) ?_ ?_ _ #[ξ,ξ,ξ,rfl]
  ·rintro i x a f ⟨u,v,w,rfl⟩ F _ _ B _;unfold ZM at f;rw[bJ] at f;let⟨M,g,rfl⟩:=fY.mp f;have hi:i<n:=(by have:=(cE.mp g).1;rwa [eI] at this);rw[kX hi] at g;cases g;rw[show((0:Int)+(i:Int)*2)=((2*i:Nat):Int) by lia];unfold xN;erw[cJ,aI,aK];show fC [ap (il b),ap (j6 hss),ψ (.own ((tj b hss i).map gv)),ap (.int ((2*i:Nat):Int)),ψ (.own ((o4 b hss (2*i)).map pt)),w] (λE l=>?_) ?_
   ·nofun;show#[#[by rw[aG];lia,by rw[aG];lia],iP (by rw[xK,aG];lia),?_];rw[aG,gU];unfold mI;show nK (λa=>∃u,a=[u,ap (il b),ap (j6 hss),ap (.int ((2*i:Nat):Int))]) (λk:Nat=>D.int (0+(k:Int))) (λk=>pt (DU b hss (2*i) k)) (bT b.length) ?_ #[_,rfl] ?_
    ·rintro k m a ⟨u,rfl⟩ o s;nofun;show Cw C ν (cM.mp m) (Q:=λd=>o _ d) (s _ #[_,rfl])
    ·have e:(bT b.length).map (λk=>pt (DU b hss (2*i) k))=(o4 b hss (2*i)).map pt:=(by unfold o4;rw[cP];rfl);rw[e];show l
   show fC [ap (il b),ap (j6 hss),ψ (.own ((tj b hss i).map gv)),ap (.int ((2*i:Nat):Int)),ψ (.own ((o4 b hss (2*i)).map pt)),ψ (.own ((o4 b hss (2*i+1)).reverse.map pt))] (λE l=>?_) ?_
   ·nofun;erw[Jo];nofun;show#[#[ν,by rw[aG];lia],iP (by rw[fV,xK,aG];lia),?_];rw[aG,gU];unfold mI;rw[<-nF];show nK (λa=>∃u,a=[u,ap (il b),ap (j6 hss),ap (.int ((2*i:Nat):Int))]) (λk:Nat=>D.int (0+(k:Int))) (λk=>pt (DU b hss (2*i+1) k)) (bT b.length).reverse ?_ #[_,rfl] ?_
    ·rintro k m a ⟨u,rfl⟩ o s;nofun;rw[show(((2*i:Nat):Int)+1)=((2*i+1:Nat):Int) by lia];show Cw C ν (cM.mp (gO.mp m)) (Q:=λd=>o _ d) (s _ #[_,rfl])
    ·have e:(bT b.length).reverse.map (λk=>pt (DU b hss (2*i+1) k))=((o4 b hss (2*i+1)).reverse).map pt:=(by unfold o4;rw[<-nF,cP];rfl);rw[e];show l
   nofun;have ln:(tj b hss i).length=i:=(by unfold tj;rw[aG,eI]);show#[iP (by erw[aG,fV,Aj];lia),iP (by rw[aG,ln];lia),?_];show B _ #[ap (.int ((2*i:Nat):Int)),ψ (.own ((o4 b hss (2*i)).map pt)),ψ (.own ((o4 b hss (2*i+1)).reverse.map pt)),?_];rw[Fo,aX,aM,cF];show _=[_,_,ψ (S.own ((tj b hss i).map gv++[D.lst ((o4 b hss (2*i)++(o4 b hss (2*i+1)).reverse).map pt)])),_,_,_];rw[aX]
  ·rintro a ⟨u,v,w,rfl⟩;unfold ZM;rw[aG,eI];show c _ #[u,v,w,rfl]
 rintro a ⟨u,v,w,rfl⟩;erw[oP,L2.R2.S.fz,fE,bC,aA,aB,aI,aK];show q
abbrev Nm:=P2×Int
abbrev sr(x:Nm):D:=.tup [pt x.1,.int x.2]
def ua(j:Nat):Int:=if j % 2=0 then -1 else 1
def su(ts:ι Int)(hss:ι (ι Int))(z m:Nat):ι Nm:=(bT m).map λj=>(md ts hss z j,Wd ts z*ua j)
def q9(ts:ι Int)(hss:ι (ι Int))(n m:Nat):ι Nm:=(bT m).flatMap λz=>su ts hss z (2*n)
def VM(ts:ι Int)(hss:ι (ι Int))(z m:Nat):su ts hss z (m+1)=su ts hss z m++[(md ts hss z m,Wd ts z*ua m)]:=by unfold su;rw[eE,aX];rfl
def Ei(ts:ι Int)(hss:ι (ι Int))(n m:Nat):q9 ts hss n (m+1)=q9 ts hss n m++su ts hss m (2*n):=by unfold q9;rw[eE,gD];simp
def Ls(ts:ι Int)(hss:ι (ι Int))(z m:Nat):(su ts hss z m).length=m:=by unfold su;rw[aG,eI]
def Yf(ts:ι Int)(hss:ι (ι Int))(n m:Nat):(q9 ts hss n m).length=m*(2*n):=by
 unfold q9;rw[K22.flat_len _ (2*n) _ λx _=>Ls ts hss x (2*n),eI]
def Gz:FD:=λc Q=>∃(b:ι Int)(a:ι (ι Int))(n:Nat),c=[il b,j6 a]/\pr b a n/\Q (.lst ((q9 b a n (b.length-1)).map sr))
def Ph:ω Gz (yP Ke) ["_law_threads","_law_heights_here","_law_numbers_here","_law_zone","_law_wide","_law_curve","_law_rise"]:=by
 rintro R Q ⟨ts,hss,n,rfl,h,q⟩;have C:=h.cur;have T:=C.thr.len;have U:=C.len;have V:=C.n1;rw[cO 5 rfl];unfold yP;erw[iY,P0,aM,cF,bZ,cC];show fC [ap (il ts),ap (j6 hss),ψ (.own []),ξ,ξ,ξ,ξ] (λK g=>?_) ?_
 ·nofun;show g
 show dP (λf=>∃a b c d:Option L2.R2.S,f=[ap (il ts),ap (j6 hss),ψ (.own ((q9 ts hss n (ts.length-1)).map sr)),a,b,c,d]) (λK g=>?_) ?_
 ·nofun;show#[#[by rw[aG];lia,by rw[aG];lia],?_];rw[aG,show((ts.length:Int)-1).toNat=ts.length-1 by lia];show wB 0 (ts.length-1) (λz f=>∃a b c d:Option L2.R2.S,f=[ap (il ts),ap (j6 hss),ψ (.own ((q9 ts hss n z).map sr)),a,b,c,d]) ?_ ?_ _ #[ξ,ξ,ξ,ξ,rfl]
  ·rintro z f W ⟨a,b,c,d,rfl⟩ F _ _ w _;have y:=HZ (ts:=ts) (i:=z) ν;have A:=HZ (ts:=ts) (i:=z+1) ν;let⟨k,X⟩:=wZ C (z:=z) ν;unfold uY;erw[cJ,aI,aK];have ez:((0:Int)+(z:Int)+1)=((z+1:Nat):Int):=ν;have l:((0:Int)+(z:Int))=(z:Int):=ν;show fC [ap (il ts),ap (j6 hss),ψ (.own ((q9 ts hss n z).map sr)),ap (.int z),ap (.int (Wd ts z)),c,d] (λK g=>?_) ?_
   ·nofun;rw[ez,l];show YT A (YT y ?_);show g
   nofun;have u:=He (hss:=hss) (z:=0) ν;show qY (x:=il (hss.getD 0 [])) (qW (j:=0) (by rw[bJ,u];rfl)) ?_;have B:=C.each _ (bA u);nofun;show#[#[by rw[aG];lia,by rw[aG];lia],?_];rw[aG,B,gU];show wB 0 (2*n) (λj f=>∃c d:Option L2.R2.S,f=[ap (il ts),ap (j6 hss),ψ (.own ((q9 ts hss n z++su ts hss z j).map sr)),ap (.int z),ap (.int (Wd ts z)),c,d]) ?_ ?_ _ #[c,d,by unfold su;rw[List.range_zero,cF,bU]]
   ·rintro j f Y ⟨c,d,rfl⟩ D _ _ E _;have G:((0:Int)+(j:Int))=(j:Int):=ν;have H:=He (hss:=hss) (z:=z) ν;have I:=He (hss:=hss) (z:=z+1) ν;have J:=Kf C (z:=z) (j:=j) ν ν;have L:=Kf C (z:=z+1) (j:=j) ν ν;have o:((z:Int)+1)=((z+1:Nat):Int):=ν;unfold uX;erw[cJ,aI,aK];rw[G];show fC [ap (il ts),ap (j6 hss),ψ (.own ((q9 ts hss n z++su ts hss z j).map sr)),ap (.int z),ap (.int (Wd ts z)),ap (.int j),ap (.int (Hh hss (z+1) j-Hh hss z j))] (λK g=>?_) ?_
    ·nofun;rw[o];show Ie I (YT L (Ie H (YT J ?_)));nofun;show g
    have ln:((q9 ts hss n z++su ts hss z j).map sr).length<=100:=by
     rw[aG,aU,Yf,Ls];have:z*(2*n)<=3*6:=wX (by have:=h.tl;lia) ν;lia
    nofun;show#[_,_,rfl,#[k,(BL.of_lt (m:=10) ν ν).mono],λp M N=>?_];let⟨O,P⟩:=K12.low_eq k N (SW hss k j);have fin:∀{s:Int},s=ua j->MulOk (Wd ts z) s/\Sz (((q9 ts hss n z++su ts hss z j).map sr).length+1)/\D.nx [ap (il ts),ap (j6 hss),ψ (.own ((q9 ts hss n z++su ts hss z j).map sr++[.tup [fr p M,.int (Wd ts z*s)]])),ap (.int z),ap (.int (Wd ts z)),ap (.int j),ap (.int (Hh hss (z+1) j-Hh hss z j))]:=λ{s} v=>by
     show#[(BL.of_lt (m:=10) ν ν).mulOk (n:=5) (by rw[v];unfold ua;split <;> show BL.const μ),iP ν,E _ #[ap (.int j),ap (.int (Hh hss (z+1) j-Hh hss z j)),?_]];rw[VM,v,O,P,<-cL,aX (l₁:=q9 ts hss n z++su ts hss z j)];rfl
    show#[vM,?_];rcases Nat.mod_two_eq_zero_or_one j with e |e
    ·rw[show((j:Int)).fmod 2=0 by rw[pJ _ μ];lia,UB];show fin (by unfold ua;rw[Ω e])
    ·rw[show((j:Int)).fmod 2=1 by rw[pJ _ μ];lia,UC];show fin (by unfold ua;rw[υ ν])
   ·rintro f ⟨c,d,rfl⟩;show w _ #[ap (.int z),ap (.int (Wd ts z)),c,d,?_];rw[Ei]
  ·rintro f ⟨a,b,c,d,rfl⟩;show g _ #[a,b,c,d,rfl]
 rintro f ⟨a,b,c,d,rfl⟩;erw[oP,L2.R2.S.fz,fE,bC,aA,aB,aI,aK];show q
open K34 K33 K22
structure B_(m:Nat)(es:List g9):Prop where
 len:es.length<=180
 pl:∀e∈es,0<=e.1/\e.1+1<(m:Int)
def Sx{ks:ι Int}{m:Nat}(b:ks.Nodup)(d:m<=16)(h:∀k∈ks,0<=k/\k+1<(m:Int)):ks.length<64:=by
 have:=K23.nodup_60 (o:=0) b λc a=>#[(h c a).1,by have:=(h c a).2;lia];lia
def Qr:FD:=λd Q=>∃a:ι g9,d=[gz a]/\a.length<=180/\∀b c,xv a b c->Q (.dct b c)
def Ut:ω Qr yS ["triangles","groups","number","bit"]:=by
 rintro j Q ⟨b,rfl,k,q⟩;rw[cO 3 rfl];unfold yS;erw[iY,Bt,aM,cF,bZ,cC];show fC [ap (gz b),ψ (.dcl (qz [])),ξ,ξ] (λK d=>?_) ?_
 ·nofun;show d
 show dP (λa=>∃u v,a=[ap (gz b),ψ (.dcl (qz b)),u,v]) (λK d=>?_) ?_
 ·erw[jS,riL,bC,aA];show qR _ (λi a=>∃u v,a=[ap (gz b),ψ (.dcl (qz (b.take i))),u,v]) ?_ ?_ _ #[_,_,rfl]
  ·rintro i x a c ⟨u,v,rfl⟩ F l m f n;rw[bJ] at c;cases he:b[i]? with
   |none=>rw[he] at c;cases c
   |some e=>
    rw[he] at c;cases c;have g:b.take (i+1)=b.take i++[e]:=(by rw[hX,he];rfl);obtain⟨⟨o,h⟩,_⟩:=Ti (b.take i);have s:(b.take i).length<=180:=(by rw[gH];lia);unfold vA iq;erw[nX,fX,nW,cJ,ZE,bC,aQ,cY,aA,aB,aI,aK,true_and];show#[iP ν,λp hp=>iP (by have:=h p hp;lia),?_];show f _ #[ap (.int e.1),ap (j_ e.2),?_];rw[g,FC]
  ·rintro a ⟨u,v,rfl⟩;rw[aG,kB];show d _ #[u,v,rfl]
 rintro a ⟨u,v,rfl⟩;erw[oP,L2.R2.S.fz,fE,bC,aA,aB,aI,aK];show q _ _ (U8 b)
def ZU:FD:=λa Q=>∃(c:Int)(x y:D)(fs:ι P2),a=[.int c,x,y,gv fs]/\(0<=c/\c+1<(fs.length:Int))/\(∀f∈fs,rh f)/\∀h,Hgt fs c h->Q (.tup [.int c,pt h,.lst [x,y]])
def Ja:ω ZU (ZG iW) ["number","one","other","leans"]:=by
 rintro h Q ⟨c,x,y,fs,rfl,⟨f,i⟩,b,q⟩;rw[cO 0 rfl];unfold ZG;nofun;show zN ν ν λt d=>?_;show zN f ν λs e=>?_;have os:=b s (bA e);have a:=b t (bA d);show#[t.1,t.2,s.1,s.2,rfl,#[a.pos,os.pos],#[a.bl.mono,a.bot.mono,os.bl.mono,os.bot.mono],λp g l=>?_];nofun;show q (p,g) #[s,t,e,d,l]
def Gx:FD:=λg Q=>∃(b fs:ι g9)(a c:ι Int)(d e:ι D),g=[.dct a d,.dct c e]/\(xv b a d/\xv fs c e)/\(b.length<=180/\a.length<64)/\∀f,f.Perm a->Q (gz (mZ ky b fs f))
def Pf:ω Gx MQ ["groups","partners","rest","number","used"]:=by
 rintro R Q ⟨f,fs,i,o,m,s,rfl,⟨g,E⟩,⟨G,H⟩,q⟩;rw[cO 3 rfl];unfold MQ;erw[iY,Bt,aM,cF,bZ,cC];show dP (λa=>a=[ap (.dct i m),ap (.dct o s),ψ (.own []),ξ,ξ]) (λK y=>?_) ?_
 ·nofun;show y _ rfl
 rintro a rfl;show dP (λa=>∃(h:ι Int)(u v:Option L2.R2.S),h.Perm i/\a=[ap (.dct i m),ap (.dct o s),ψ (.own ((mZ ky f fs h).map iq)),u,v]) (λK y=>?_) ?_
 ·erw[jS,riL,KB,JZ,bC,aA,aB];show#[i,m,rfl,g.len,i,rfl,H,λh k I=>?_];have J:h.Nodup:=k.nodup_iff.mpr g.nodup;have z:∀e∈f,ky e∈h:=λe w=>k.mem_iff.mpr ((g.mem _).mpr #[e,w,rfl]);have L:∀d t,h=d++t->(mZ ky f fs d).length<=180:=λd t e=>by
   have:=(AU (fs:=fs) J z).1;rw[e,mZ,gD,aU] at this;show dC (dC (zZ _ _) this) G
  show nB (λB a=>∃done b:ι Int,h=done++b/\B=b.map .int/\∃u v,a=[ap (.dct i m),ap (.dct o s),ψ (.own ((mZ ky f fs done).map iq)),u,v]) ?_ ?_ _ _ #[[],h,rfl,rfl,ξ,ξ,rfl]
  ·rintro x B a ⟨done,b,l,j,u,v,rfl⟩ F T U M C;cases b with
   |nil=>cases j
   |cons c b=>
    rw[aM] at j;injection j with ex j;subst ex j;have C:c∈i:=k.mem_iff.mp (by rw[l];show bI _ (.head _));unfold DD;erw[cJ,aI,aK];show fC [ap (.dct i m),ap (.dct o s),ψ (.own ((mZ ky f fs done).map iq)),ap (.int c),ap (.int ((ie ky fs c).length:Nat))] (λV N=>?_) ?_
    ·erw[fZ,r1,qC,Ff,bC,nQ,aV,aA,aB,aI,aK];show#[sz0,?_];rw[E.get c];fail;rw[aG];show N
    have dl:((ie ky f c).drop (ie ky fs c).length).length<=180:=by
     rw[fO];have:(ie ky f c).length<=f.length:=lY _ _;lia
    have O:mZ ky f fs (done++[c])=mZ ky f fs done++(ie ky f c).drop (ie ky fs c).length:=by
     rw[mZ,mZ,gD];simp
    erw[AY,mE,riL,RX,CV,rE,r2,Db,bC,xX,Ag,Bs,aM,cF,bZ,cC,aA,aB];show#[_,g.here c C,?_];have n:cutD ((ie ky f c).map λe=>j_ e.2) (ψ ((ie ky fs c).length:Int)) ξ=(((ie ky f c).drop (ie ky fs c).length)).map λe=>j_ e.2:=by
     by_cases A:(ie ky fs c).length<=(ie ky f c).length
     ·rw[NY (~~~A),List.map_drop]
     ·rw[Nk ε,jI ν];rfl
    dsimp only[Wr];rw[n];show#[iP (by rw[aG];lia),?_];show nK (λa=>∃u,a=[u,ap (.int c)]) (λe:g9=>j_ e.2) (λe:g9=>.tup [.int c,j_ e.2]) ((ie ky f c).drop (ie ky fs c).length) ?_ #[_,rfl] ?_
    ·rintro e w a ⟨u,rfl⟩ W P;nofun;show P _ #[_,rfl]
    ·have em:((ie ky f c).drop (ie ky fs c).length).map (λe:g9=>D.tup [.int c,j_ e.2])=((ie ky f c).drop (ie ky fs c).length).map iq:=kY λe w=>by
      have:=SN (uR w);unfold iq;rw[this]
     rw[em];have X:=L done (c::b) l;show#[iP (by rw[aG,aG];lia),M _ #[done++[c],b,by rw[l];simp,rfl,ap (.int c),ap (.int ((ie ky fs c).length:Nat)),?_]];rw[O,aX];rfl
  ·rintro a ⟨done,b,l,j,u,v,rfl⟩;have:b=[]:=(by cases b with |nil=>rfl |cons _ _=>cases j);subst this;rw[bU] at l;subst l;show y _ #[h,u,v,k,rfl]
 rintro a ⟨h,u,v,k,rfl⟩;erw[oP,L2.R2.S.fz,fE,bC,aA,aB,aI,aK];show q h k
def ZX:FD:=λg Q=>∃(os b:ι g9)(fs:ι P2),g=[gz os,gz b,gv fs]/\(B_ fs.length os/\B_ fs.length b)/\(fs.length<=16/\∀f∈fs,rh f) /\
 ∀h d c a,uj os b fs h c a->d.Nodup->(∀e∈os,ky e∈d)->Q (.tup [.lst a,gz (mZ ky os b d),gz (mZ ky b os c)])
def Je:ω ZX (ZH Qr ZU Gx) ["openings","closings","leans","opening_bits","closing_bits","boxes","number","one","other"]:=by
 rintro R Q ⟨os,m,fs,rfl,⟨J,T⟩,⟨U,hf⟩,q⟩;have kk:∀{Y:ι g9}{n:ι Int}{o:ι D},xv Y n o->B_ fs.length Y->n.length<64:=λg p=>Sx g.nodup U λk hk=>by
  let⟨e,G,rfl⟩:=(g.mem k).mp hk;show p.pl e G
 rw[cO 6 rfl];unfold ZH;erw[iY,Vg,aM,cF,bZ,cC];show dP (λf=>∃n o,xv os n o/\f=[ap (gz os),ap (gz m),ap (gv fs),ap (.dct n o),ξ,ξ,ξ,ξ,ξ]) (λK H=>?_) ?_
 ·erw[fZ,cH,aE,aV,bC,aA,aB,aI,aK];show#[os,rfl,J.len,λn o g=>H _ #[n,o,g,rfl]]
 rintro f ⟨n,o,g,rfl⟩;show dP (λf=>∃y z,xv m y z/\f=[ap (gz os),ap (gz m),ap (gv fs),ap (.dct n o),ap (.dct y z),ξ,ξ,ξ,ξ]) (λK H=>?_) ?_
 ·erw[fZ,cH,aE,aV,bC,aA,aB,aI,aK];show#[m,rfl,T.len,λy z E=>H _ #[y,z,E,rfl]]
 rintro f ⟨y,z,E,rfl⟩;show dP (λf=>f=[ap (gz os),ap (gz m),ap (gv fs),ap (.dct n o),ap (.dct y z),ψ (.own []),ξ,ξ,ξ]) (λK H=>?_) ?_
 ·nofun;show H _ rfl
 rintro f rfl;show dP (λf=>∃(R:ι Int)(i:ι D)(u v w:Option L2.R2.S),(R.Perm n/\pk fs (nV ky os m R) i)/\f=[ap (gz os),ap (gz m),ap (gv fs),ap (.dct n o),ap (.dct y z),ψ (.own i),u,v,w]) (λK H=>?_) ?_
 ·erw[jS,riL,KB,JZ,bC,aA,aB];show#[n,o,rfl,g.len,n,rfl,kk g J,λA I srt=>?_];have nd:A.Nodup:=I.nodup_iff.mpr g.nodup;have V:∀e∈os,ky e∈A:=λe G=>I.mem_iff.mpr ((g.mem _).mpr #[e,G,rfl]);have yb:∀d t,A=d++t->(nV ky os m d).length<=180:=λd t e=>by
   have:=(AU (fs:=m) nd V).2;rw[e,nV,gD,aU] at this;show dC (dC (zZ _ _) this) J.len
  show nB (λM f=>∃done j:ι Int,A=done++j/\M=j.map .int/\∃i u v w,pk fs (nV ky os m done) i/\f=[ap (gz os),ap (gz m),ap (gv fs),ap (.dct n o),ap (.dct y z),ψ (.own i),u,v,w]) ?_ ?_ _ _ #[[],A,rfl,rfl,[],ξ,ξ,ξ,.nil,rfl]
  ·rintro x M f ⟨done,j,L,s,i,u,v,w,hB,rfl⟩ F hr hb hn _;cases j with
   |nil=>cases s
   |cons c j=>
    rw[aM] at s;injection s with ex s;subst ex s;have N:c∈n:=I.mem_iff.mp (by rw[L];show bI _ (.head _));have Z:=yb (done++[c]) j (by rw[L];simp);have nw:nV ky os m (done++[c])=nV ky os m done++wW (ie ky os c) (ie ky m c):=by
     rw[nV,nV,gD];simp
    rw[nw,aU] at Z;let⟨e0,W,X⟩:=(g.mem c).mp N;have pl:=J.pl e0 W;rw[X] at pl;unfold MS;erw[cJ,jS,IT,r2,Db,Ff,bC,nQ,aV,aA,aB,aI,aK];show#[_,g.here c N,sz0,?_];rw[E.get c];fail;rw[Gp];show nB (λM f=>∃O B:ι (g9×g9),wW (ie ky os c) (ie ky m c)=O++B/\M=B.map (λp=>D.tup [j_ p.1.2,j_ p.2.2])/\∃i v w,pk fs (nV ky os m done++O) i/\f=[ap (gz os),ap (gz m),ap (gv fs),ap (.dct n o),ap (.dct y z),ψ (.own i),ap (.int c),v,w]) ?_ ?_ _ _ #[[],_,rfl,rfl,i,v,w,by rw[bU];show hB,rfl]
    ·rintro x M f ⟨O,B,eZ,s,i,v,w,C,rfl⟩ F2 hr2 hb2 Z_ _;cases B with
     |nil=>cases s
     |cons p B=>
      rw[aM] at s;injection s with ex s;subst ex s;have hp:p∈wW (ie ky os c) (ie ky m c):=(by rw[eZ];show bI _ (.head _));have k1:=SN (mK (a:=p.1) (b:=p.2) hp).1;unfold MR;nofun;show#[c,_,_,fs,rfl,pl,hf,λh hh=>?_];have rl:=C.len;rw[eZ,aU,aQ] at Z;rw[aU] at rl;show#[iP ν,Z_ _ #[O++[p],B,by rw[eZ];simp,rfl,i++[w6 p h],ap (j_ p.1.2),ap (j_ p.2.2),?_,?_]]
      ·rw[<-cL];show C.snoc (by rw[k1];show hh)
      ·unfold w6;rw[k1]
    ·rintro f ⟨O,B,eZ,s,i,v,w,C,rfl⟩;have:B=[]:=(by cases B with |nil=>rfl |cons _ _=>cases s);subst this;rw[bU] at eZ;show hn _ #[done++[c],j,by rw[L];simp,rfl,i,ap (.int c),v,w,?_,rfl];rw[nw,eZ];show C
  ·rintro f ⟨done,j,L,s,i,u,v,w,hB,rfl⟩;have:j=[]:=(by cases j with |nil=>rfl |cons _ _=>cases s);subst this;rw[bU] at L;subst L;show H _ #[A,i,u,v,w,#[I,hB],rfl]
 rintro f ⟨A,i,u,v,w,⟨I,hB⟩,rfl⟩;erw[oP,L2.R2.S.fz,fE,iJ,cH,aE,aV,bC,aA,aB,aI,aK,aQ,cY];show#[os,m,n,y,o,z,rfl,#[g,E],#[J.len,kk g J],λk2 p2=>?_];show#[m,os,y,n,z,o,rfl,#[E,g],#[T.len,kk E T],λk3 p3=>?_];show#[sz3,?_];have P:∀(l:ι Int),l.Perm n->∀e∈os,ky e∈l:=λl p e G=>p.mem_iff.mpr ((g.mem _).mpr #[e,G,rfl]);show q A k2 k3 i #[I.nodup_iff.mpr g.nodup,p3.nodup_iff.mpr E.nodup,P A I,λe G=>p3.mem_iff.mpr ((E.mem _).mpr #[e,G,rfl]),hB] (p2.nodup_iff.mpr g.nodup) (P k2 p2)
def fB(g p:P2):Int:=if p.1*g.2<=g.1*p.2 then 1 else 0
def sy(f:P2->Int):ι sF->Int
 | []=>0
 |e::a=>(f e.2.1-f e.2.2)+sy f a
theorem SK(f:P2->Int):∀a b:ι sF,sy f (a++b)=sy f a+sy f b
 | [],b=>by show sy f b=0+sy f b;lia
 |x::a,b=>by show _+sy f (a++b)=_+sy f a+_;rw[SK f a b];lia
def wE(f:P2->Int):ι Nm->Int
 | []=>0
 |x::l=>x.2*f x.1+wE f l
theorem FK(f:P2->Int):∀a b:ι Nm,wE f (a++b)=wE f a+wE f b
 | [],b=>by show wE f b=0+wE f b;lia
 |x::a,b=>by show _+wE f (a++b)=_+wE f a+_;rw[FK f a b];lia
section
variable{ts:ι Int}{hss:ι (ι Int)}{n:Nat}
def w_(ts:ι Int)(hss:ι (ι Int))(f:P2->Int)(z:Nat):Nat->Int
 | 0=>0
 |i+1=>w_ ts hss f z i+(f (md ts hss z (2*i+1))-f (md ts hss z (2*i)))
def fzK(ts:ι Int)(hss:ι (ι Int))(n:Nat)(f:P2->Int):Nat->Int
 | 0=>0
 |z+1=>fzK ts hss n f z+Wd ts z*w_ ts hss f z n
theorem Wb(f:P2->Int)(z:Nat)(k:Int):∀i,sy f (ez ts hss z k i)=w_ ts hss f z i
 | 0=>rfl
 |i+1=>by
  unfold ez;rw[SK,Wb f z k i];show _=w_ ts hss f z i+(f (md ts hss z (2*i+1))-f (md ts hss z (2*i)));congr 1;by_cases e:(K23.pr2 ts hss z k i).1=(K23.pr2 ts hss z k i).2
  ·rw[Ω e];have b:ql (Wd ts z) k (Hh hss z (2*i)) (Hh hss (z+1) (2*i))=ql (Wd ts z) k (Hh hss z (2*i+1)) (Hh hss (z+1) (2*i+1)):=Φ Cg e;have c:ql (Wd ts z) (k+1) (Hh hss z (2*i)) (Hh hss (z+1) (2*i))=ql (Wd ts z) (k+1) (Hh hss z (2*i+1)) (Hh hss (z+1) (2*i+1)):=Φ Ch e;have d:=AV (Wd ts z) k (Hh hss z (2*i)) (Hh hss (z+1) (2*i));have g:=AV (Wd ts z) k (Hh hss z (2*i+1)) (Hh hss (z+1) (2*i+1));have a:md ts hss z (2*i)=md ts hss z (2*i+1):=by
    unfold md;rw[show Hh hss (z+1) (2*i)-Hh hss z (2*i)=Hh hss (z+1) (2*i+1)-Hh hss z (2*i+1) by lia]
   rw[a];show(0:Int)=_;lia
  ·rw[υ e];show(f (md ts hss z (2*i+1))-f (md ts hss z (2*i)))+0=_;lia
theorem Wa(f:P2->Int)(z:Nat):∀m:Nat,sy f (eZ ts hss n z m)=m*w_ ts hss f z n
 | 0=>by show(0:Int)=0*_;lia
 |m+1=>by
  unfold eZ;rw[SK,Wa f z m,Wb,show((m+1:Nat):Int)=(m:Int)+1 by lia,Int.add_mul,Int.one_mul]
theorem Vz(C:f9 ts hss n)(f:P2->Int):∀m:Nat,m<ts.length->sy f (eA ts hss n m)=fzK ts hss n f m
 | 0,_=>rfl
 |m+1,a=>by
  let⟨b,_⟩:=wZ C (z:=m) a;unfold eA;rw[SK,Vz C f m ν,Wa,show(((Wd ts m).toNat:Nat):Int)=Wd ts m by lia];rfl
theorem We(f:P2->Int)(z:Nat):∀i:Nat,wE f (su ts hss z (2*i))=Wd ts z*w_ ts hss f z i
 | 0=>by show(0:Int)=Wd ts z*0;lia
 |i+1=>by
  rw[show 2*(i+1)=2*i+1+1 by lia,VM,VM,FK,FK,We f z i];show Wd ts z*w_ ts hss f z i+(Wd ts z*ua (2*i)*f (md ts hss z (2*i))+0)+(Wd ts z*ua (2*i+1)*f (md ts hss z (2*i+1))+0)=Wd ts z*(w_ ts hss f z i+(f (md ts hss z (2*i+1))-f (md ts hss z (2*i))));rw[show ua (2*i) = -1 by unfold ua;rw[Ω ν],show ua (2*i+1)=1 by unfold ua;rw[υ ν]];grind
theorem Wc(f:P2->Int):∀m:Nat,wE f (q9 ts hss n m)=fzK ts hss n f m
 | 0=>rfl
 |m+1=>by rw[Ei,FK,Wc f m,We];rfl
end
theorem Kr(a k:Nat):∀m:Nat,((((bT m).map λi=>((a+i:Nat):Int)).filter λi=>decide (i=(k:Int))).length:Nat)=if a<=k/\k<a+m then 1 else 0
 | 0=>by rw[υ ν];rfl
 |m+1=>by
  rw[eE,aX,eO,aU,Kr a k m,aM,cF];by_cases e:a+m=k
  ·rw[rX (by erw[decide_eq_true_eq];lia),υ ν,Ω ν];rfl
  ·rw[rW (by erw[decide_eq_true_eq];lia)];by_cases h:a<=k/\k<a+m
   ·rw[Ω h,Ω ν];rfl
   ·rw[υ h,υ ν];rfl
def Ks(a b k:Nat):(((WK a b).filter λi=>decide (i=(k:Int))).length:Nat)=if a<=k/\k<b then 1 else 0:=by
 unfold WK;rw[Kr];by_cases h:a<=k/\k<b
 ·rw[Ω h,Ω ν]
 ·rw[υ h,υ ν]
def Tm(G:rg gs)(e:gs[k]?=ψ g)(hp:p∈gs):p.1*g.2<=g.1*p.2↔gs.idxOf p<=k:=by
 have b:=rO hp;have a:gs[gs.idxOf p]=p:=List.getElem_idxOf b;let⟨d,c⟩:=cE.mp e;rcases KW (gs.idxOf p) k with h |h |h
 ·have:=dJ.mp G.inc _ _ b d h;rw[a,c] at this;show#[λ_=>by lia,λ_=>lB this]
 ·subst h;rw[c] at a;rw[a];show#[λ_=>aS _,λ_=>rV _]
 ·have:=dJ.mp G.inc _ _ d b h;rw[a,c] at this;have this:g.1*p.2<p.1*g.2:=this;show#[λ_=>by lia,λ_=>by lia]
theorem Kt{gs:ι P2}(G:rg gs){k:Nat}{g:P2}(c:gs[k]?=ψ g):∀es:ι sF,(∀e∈es,e.2.1∈gs/\e.2.2∈gs) ->
  ((((es.flatMap (oK gs)).filter λi=>decide (i=(k:Int))).length:Nat):Int)-(((es.flatMap (cK gs)).filter λi=>decide (i=(k:Int))).length:Nat)=0-sy (fB g) es
 | [],_=>rfl
 |e::es,h=>by
  have n:=Kt G c es λx d=>h x (.tail _ d);let⟨f,j⟩:=h e (.head _);have m:fB g e.2.1=if gs.idxOf e.2.1<=k then 1 else 0:=by unfold fB;erw[Tm G c f]
  have bl:fB g e.2.2=if gs.idxOf e.2.2<=k then 1 else 0:=by unfold fB;erw[Tm G c j]
  show _=0-((fB g e.2.1-fB g e.2.2)+sy (fB g) es);rw[dA,dA,eO,eO,aU,aU,Ks,Ks,m,bl];generalize gs.idxOf e.2.1=u;generalize gs.idxOf e.2.2=l;by_cases a:l<=k <;> by_cases b:u<=k
  ·rw[υ ν,υ ν,Ω b,Ω a];lia
  ·rw[Ω ν,υ ν,υ b,Ω a];lia
  ·rw[υ ν,Ω ν,Ω b,υ a];lia
  ·rw[υ ν,υ ν,υ b,υ a];lia
def Lk(es:ι g9)(c:Int):(ie ky es c).length=((es.map ky).filter λi=>decide (i=c)).length:=by
 rw[oJ,aG];rfl
theorem OB{α:Type}{k:α->Int}{F:Int->ι α}(a:∀c,∀x∈F c,k x=c)(c:Int):∀cs:ι Int,cs.Nodup->(cs.flatMap F).filter (λx=>decide (k x=c))=if c∈cs then F c else[]
 | [],_=>rfl
 |d::cs,f=>by
  let⟨g,i⟩:=iB.mp f;rw[dA,eO,OB a c cs i];by_cases e:d=c
  ·subst e;rw[υ g,Ω (.head _),bU];show List.filter_eq_self.mpr λx b=>decide_eq_true (a d x b)
  ·rw[BM.mpr λx b=>by rw[a d x b];simpa using e,cC];by_cases m:c∈cs
   ·rw[Ω m,Ω (.tail _ m)]
   ·rw[υ m,υ λh=>(aP.mp h).elim (λz=>e z.symm) m]
def YX{es fs:ι g9}(a:cs.Nodup)(h:∀e∈es,ky e∈cs)(c:Int):(ie ky (mZ ky es fs cs) c).length=(ie ky es c).length-(ie ky fs c).length:=by
 unfold mZ;rw[ie,OB (k:=ky) (F:=λc=>(ie ky es c).drop (ie ky fs c).length) (λc x b=>SN (uR b)) c cs a];by_cases m:c∈cs
 ·rw[Ω m,fO]
 ·rw[υ m];have:ie ky es c=[]:=iH λz=>by
   let⟨e,d,rfl⟩:=BX z;show m (h e d)
  rw[this];show 0=0-_;lia
def Ov{es fs:ι g9}(d:cs.Nodup)(h:∀e∈es,ky e∈cs)(c:Int):((nV ky es fs cs).filter λp=>decide (p.1.1=c)).length=min (ie ky es c).length (ie ky fs c).length:=by
 unfold nV;rw[OB (k:=λp:g9×g9=>p.1.1) (F:=λc=>wW (ie ky es c) (ie ky fs c)) (λc x f=>SN (mK (a:=x.1) (b:=x.2) f).1) c cs d];by_cases m:c∈cs
 ·rw[Ω m,QU]
 ·rw[υ m];have:ie ky es c=[]:=iH λz=>by
   let⟨e,g,rfl⟩:=BX z;show m (h e g)
  rw[this];show 0=min 0 _;lia
abbrev tkD(x:Int×ι D):D:=.tup (.int x.1::x.2)
def GO:FD:=λb Q=>∃(a:ι (Int×ι D))(k:Int),b=[.lst (a.map tkD),.int k]/\a.length<=200/\Q (.int ((a.filter λx=>decide (x.1=k)).length:Nat))
def Jc:ω GO FU ["_law_wedges","_law_place"]:=by
 rintro e Q ⟨b,k,rfl,f,q⟩;rw[cO 0 rfl];unfold FU;erw[fE,r1,OS,riL,bC,xX,Ag,Bs,iY,Y6,aM,cF,bZ,cC,bU,aA,aB];show#[iP (by rw[aG];lia),?_];show EU (λa=>∃u,a=[u,ap (.int k)]) tkD tkD (λx=>decide (x.1=k)) b ?_ _ [] #[_,rfl] ?_
 ·rintro x _ a ⟨u,rfl⟩ K c;erw[cJ,fJ,r2,bD,rC,nM,Ak,w9 5,aA,aB,aI];show c _ #[_,rfl] λ_ g d=>?_;erw[bC,aA];show d
 ·erw[qC,cC,aG];show q
def U5(es:ι g9):es.map iq=(es.map λe=>((e.1,[j_ e.2]):Int×ι D)).map tkD:=by rw[cP];rfl
def SR(a:es.length<=200)(q:Q (.int ((ie ky es k).length:Nat))):GO [gz es,.int k] Q:=by
 show#[es.map λe=>(e.1,[j_ e.2]),k,by rw[<-U5],by rw[aG];show a,?_];rw[oJ,aG];show q
def T9(b:pk gs ps rows):∃xs:ι (Int×ι D),rows=xs.map tkD/\xs.map (·.1)=ps.map (·.1.1):=by
 induction b with
 |nil=>show#[[],rfl,rfl]
 | @cons p ps h c _ _ a=>
  let⟨xs,rfl,e⟩:=a;show#[(p.1.1,[pt h,.lst [j_ p.1.2,j_ p.2.2]])::xs,rfl,by rw[aM,aM,e]]
def Yd(b:pk gs ps rows)(f:ps.length<=200)(q:Q (.int ((ps.filter λp=>decide (p.1.1=k)).length:Nat))):GO [.lst rows,.int k] Q:=by
 let⟨a,rfl,e⟩:=T9 b;have l:=Φ iM e;rw[aG,aG] at l;show#[a,k,rfl,ν,?_];have c:=Φ (λl:ι Int=>(l.filter λi=>decide (i=k)).length) e;rw[oJ,oJ,aG,aG] at c;have d:(a.filter λx=>decide (x.1=k)).length=(ps.filter λp=>decide (p.1.1=k)).length:=c;rw[d];show q
def Hd:FD:=λb Q=>∃(a:ι Nm)(g:P2),b=[.lst (a.map sr),pt g]/\((∀x∈a,rh x.1)/\rh g)/\Q (.int (wE (fB g) a))
def Pp:ω Hd yQ ["_law_numbers_here","_law_lean","_law_total","_law_slope","_law_number"]:=by
 rintro w Q ⟨b,g,rfl,⟨o,e⟩,q⟩;rw[cO 3 rfl];unfold yQ;erw[iY,Bt,aM,cF,bZ,cC];generalize f:D.lst (b.map sr)=c;show fC [ap c,ap (pt g),ap (.int 0),ξ,ξ] (λK d=>?_) ?_
 ·nofun;show d
 show dP (λa=>∃u v,a=[ap c,ap (pt g),ap (.int (wE (fB g) b)),u,v]) (λK d=>?_) ?_
 ·rw[<-f];erw[jS,riL,bC,aA];rw[f];show qR _ (λi a=>∃u v,a=[ap c,ap (pt g),ap (.int (wE (fB g) (b.take i))),u,v]) ?_ ?_ _ #[ξ,ξ,rfl]
  ·rintro i x a j ⟨u,v,rfl⟩ F _ _ k _;rw[bJ] at j;let⟨y,l,rfl⟩:=fY.mp j;have s:b.take (i+1)=b.take i++[y]:=(by rw[hX,l];rfl);have m:=o y (bA l);unfold uZ;nofun;show#[m.bl.mulOk e.bot,e.bl.mulOk m.bot,?_];have n:wE (fB g) (b.take (i+1))=wE (fB g) (b.take i)+y.2*fB g y.1:=by
    rw[s,FK];show _+(_+0)=_;lia
   by_cases h:y.1.1*g.2<=g.1*y.1.2
   ·rw[Ω h];have:wE (fB g) (b.take i)+y.2=wE (fB g) (b.take (i+1)):=(by rw[n];unfold fB;rw[Ω h];lia);rw[this];show k _ #[_,_,rfl]
   ·rw[υ h];have:wE (fB g) (b.take i)=wE (fB g) (b.take (i+1)):=(by rw[n];unfold fB;rw[υ h];lia);rw[this];show k _ #[_,_,rfl]
  ·rintro a ⟨u,v,rfl⟩;rw[aG,kB];show d _ #[u,v,rfl]
 rintro a ⟨u,v,rfl⟩;nofun;show q
structure BoxK(ps:List (g9×g9))(rows:List D)(O C:List g9)(gs:List P2):Prop where
 bx:pk gs ps rows
 lp:ps.length<=200
 lo:O.length<=200
 lc:C.length<=200
 pl:∀p∈ps,0<=p.1.1/\p.1.1+1<(gs.length:Int)
 cnt:∀k:Nat,k+1<gs.length->(ps.filter λp=>decide (p.1.1=(k:Int))).length=min (ie ky O k).length (ie ky C k).length
def Gu:FD:=λc Q=>∃(d:ι (g9×g9))(a:ι D)(O C:ι g9)(b:ι P2),c=[.lst a,gz O,gz C,gv b]/\(rg b/\BoxK d a O C b)/\Q (.bl ζ)
def E4(b:pk gs ps rows):∀d∈rows,∃p∈ps,∃h,d=w6 p h/\Hgt gs p.1.1 h:=by
 induction b with
 |nil=>intro d h;cases h
 | @cons p ps h g c _ e=>
  intro d a;rcases aP.mp a with rfl |a
  ·show#[p,.head _,h,rfl,c]
  ·let⟨f,m,r⟩:=e d a;show#[f,.tail _ m,r]
def Pc:ω Gu (CW Ke GO SE) ["_law_boxes_here","_law_openings","_law_closings","_law_leans","_law_box","_law_one","_law_other","_law_place"]:=by
 rintro ds Q ⟨ps,c,O,C,e,rfl,⟨G,B⟩,q⟩;have gl:=G.len;rw[cO 4 rfl];unfold CW;erw[iY,Pv,aM,cF,bZ,cC];generalize M:gz O=j;generalize N:gz C=m;have o:∀l:ι D,UV "list" (.lst l)=ψ ζ:=λ_=>rfl;show fC [ap (.lst c),ap j,ap m,ap (gv e),ξ,ξ,ξ,ξ] (λK g=>?_) ?_
 ·erw[mQ,zO,fJ,r1,DN,o,bC,fE,rC,iV,aA,dD,aR,if_false];show g
 show dP (λd=>∃u v w,d=[ap (.lst c),ap j,ap m,ap (gv e),u,v,w,ξ]) (λK g=>?_) ?_
 ·erw[jS,riL,bC,aA];show qR _ (λi d=>∃u v w,d=[ap (.lst c),ap j,ap m,ap (gv e),u,v,w,ξ]) ?_ (λd h=>g d h) _ #[_,_,_,rfl];rintro i x d W ⟨u,v,w,rfl⟩ F _ _ J _;let⟨p,hp,h,rfl,s,t,R,T,U⟩:=E4 B.bx x (bA W);let⟨X,p1⟩:=B.pl p hp;have y:=G.each s (bA R);have A:=G.each t (bA T);unfold xM w6;erw[cJ,aI,aK];generalize Y:[j_ p.1.2,j_ p.2.2]=L;have Z:L.length=2:=by rw[<-Y];rfl
  generalize E:D.tup [.int p.1.1,pt h,.lst L]=n;have I:∀{P:D->Prop},g7 n (.int 0) P=P (.int p.1.1):=by rw[<-E];show nM
  have x1:∀{P:D->Prop},g7 n (.int 1) P=P (pt h):=by rw[<-E];show sT
  have x2:∀{P:D->Prop},g7 n (.int 2) P=P (.lst L):=by rw[<-E];show LN
  have xl:∀{P:D->Prop},qC n P=P (.int 3):=by intro P;rw[<-E];rfl
  have xi:UV "tuple" n=ψ ζ:=by rw[<-E];rfl
  show fC [ap (.lst c),ap j,ap m,ap (gv e),ap n,v,w,ξ] (λK g=>?_) ?_
  ·erw[mQ,rOr,zO,fJ,r1,r2,DN,xi,cH,aE,aV,bC,bD,fE,rC,iV,xl,I,AK,aA,aB,dD,aR,if_false,decide_true];show#[p.1.1,rfl,?_];erw[dD,aR,if_false];show g
  show fC [ap (.lst c),ap j,ap m,ap (gv e),ap n,v,w,ξ] (λK g=>?_) ?_
  ·erw[mQ,rOr,zO,fJ,r1,r2,DN,o,bC,bD,fE,rC,iV,I,x2,tY,qL,qC,AK,L2.R2.S.val,aA,aB,dD,aR,if_false,decide_true,Z,aG];have c1:¬p.1.1<0:=ν;have c2:¬(e.length:Int)-1<=p.1.1:=ν;have c3:decide (((2:Nat):Int)=2)=ζ:=rfl;erw[decide_eq_true_eq,c1,c2,c3,if_true,if_false,dD,aR];show g
  show fC [ap (.lst c),ap j,ap m,ap (gv e),ap n,ap (pt s),w,ξ] (λK g=>?_) ?_
  ·erw[fZ,r2,bD,rC,I,L2.R2.S.val,aA,aB,aI,aK];show zN X ν λf H=>?_;rw[R] at H;cases H;show g
  show fC [ap (.lst c),ap j,ap m,ap (gv e),ap n,ap (pt s),ap (pt t),ξ] (λK g=>?_) ?_
  ·erw[fZ,r2,bD,rC,I,pT,L2.R2.S.val,aA,aB,aI,aK];show zN ν ν λf H=>?_;rw[T] at H;cases H;show g
  erw[mQ,fJ,r2,cH,aE,aV,bD,fE,rC,iV,x1,nM,sT,rN,qL,aA,aB];show#[A.bl.mulOk y.bot,y.bl.mulOk A.bot,y.bot.mulOk A.bot,?_];have V:0<s.2*t.2:=fT y.pos A.pos;show#[_,_,rfl,#[V,(y.bot.mul A.bot).mono],λa b l2=>?_];rw[lD t.2 s.2] at U;let⟨q1,q2⟩:=K12.low_eq V l2 U;subst q1 q2;have e5:ma (jc 5) [D.int h.1,.int h.2] [D.int h.1,.int h.2]=ψ ζ:=by
   rw[AQ (w9 4 h.1 h.1) (AQ (w9 4 h.2 h.2) rfl)];simp
  show dNe (.tup [.int h.1,.int h.2]) (.tup [.int h.1,.int h.2]) _;erw[dNe,e5,dD,aR,if_false];show J _ #[_,_,_,rfl]
 rintro d ⟨u,v,w,rfl⟩;show dP (λd=>∃z,d=[ap (.lst c),ap j,ap m,ap (gv e),u,v,w,z]) (λK g=>?_) ?_
 ·erw[jS,WJ,aE,aV,r1,r2,qC,qL,bD,rC,L2.R2.S.val,aA,aB,aG];show#[#[ν,ν],?_];rw[show((e.length:Int)-1).toNat=e.length-1 by lia];show wB 0 (e.length-1) (λi d=>∃z,d=[ap (.lst c),ap j,ap m,ap (gv e),u,v,w,z]) ?_ (λd h=>g d h) _ #[_,rfl];rintro k d hk ⟨z,rfl⟩ F _ _ J _;rw[show((0:Int)+(k:Int))=(k:Int) by lia];unfold xL;erw[cJ,mQ,fJ,r2,cH,rCB,aE,aV,bC,fE,rC,iV,aA,aB,aI,aK];show Yd B.bx B.lp ?_;rw[<-M,<-N];show SR B.lo (SR B.lc ?_);rw[M,N,B.cnt k ν];generalize (ie ky O k).length=a;generalize (ie ky C k).length=b;erw[YL,dNe];rw[decide_eq_true (show((min a b:Nat):Int)=if(b:Int)<(a:Int) then(b:Int) else(a:Int) by split <;> lia)];erw[dD,aR,if_false];show J _ #[_,rfl]
 rintro d ⟨z,rfl⟩;nofun;show q
structure z8(L1 L2:List g9)(nl:List Nm)(gs:List P2):Prop where
 l1:L1.length<=200
 l2:L2.length<=200
 ln:∀x∈nl,rh x.1
 cnt:∀(k:Nat)(g:P2),gs[k]?=ψ g->k+1<gs.length->((ie ky L1 k).length:Int)=max (0-wE (fB g) nl) 0/\((ie ky L2 k).length:Int)=max (wE (fB g) nl) 0
def ZV:FD:=λe Q=>∃(d:D)(b L2:ι g9)(c:ι Nm)(a:ι P2),e=[.tup [d,gz b,gz L2],.lst (c.map sr),gv a]/\(rg a/\z8 b L2 c a)/\Q (.bl ζ)
def Jb:ω ZV (FS GO Hd SE) ["_law_found","_law_numbers_here","_law_leans","_law_wedges","_law_wedge","_law_place","_law_due"]:=by
 rintro R Q ⟨d,M1,M2,n,b,rfl,⟨G,H⟩,q⟩;have T:=G.len;rw[cO 4 rfl];unfold FS;erw[iY,Pv,aM,cF,bZ,cC];generalize C:D.lst (n.map sr)=c;have o:∀l:ι D,UV "list" (.lst l)=ψ ζ:=λ_=>rfl;have w:∀l:ι D,UV "tuple" (.tup l)=ψ ζ:=λ_=>rfl;show dP (λa=>∃u v,a=[ap (.tup [d,gz M1,gz M2]),ap c,ap (gv b),u,v,ξ,ξ]) (λK j=>?_) ?_
 ·have L:cutD [d,gz M1,gz M2] (ψ 1) ξ=[gz M1,gz M2]:=rfl;erw[jS,riT,RX,CV,rE,bD,rC,L2.R2.S.val,aA];rw[L];show#[show ¬(HT.sIx 3 0 (ψ 1)=0/\HT.sIx 3 3 ξ=3) by decide,?_];show qR _ (λi a=>∃u v,a=[ap (.tup [d,gz M1,gz M2]),ap c,ap (gv b),u,v,ξ,ξ]) ?_ (λa h=>j a h) _ #[_,_,rfl];rintro i x a m ⟨u,v,rfl⟩ F _ _ A _;obtain⟨M,rfl⟩:∃M:ι g9,x=gz M:=by
   have:=bA m;erw[aP,dN,or_false] at this;rcases this with rfl |rfl
   ·show#[_,rfl]
   ·show#[_,rfl]
  unfold yO;erw[cJ,aI,aK];show fC [ap (.tup [d,gz M1,gz M2]),ap c,ap (gv b),ap (gz M),v,ξ,ξ] (λK j=>?_) ?_
  ·erw[mQ,zO,fJ,r1,DN,o,bC,fE,rC,iV,aA,aB,dD,aR,if_false];show j
  erw[jS,riL,bC,aA,aB];show qR _ (λi a=>∃v,a=[ap (.tup [d,gz M1,gz M2]),ap c,ap (gv b),ap (gz M),v,ξ,ξ]) ?_ (λa ⟨v,e⟩=>A a #[_,v,e]) _ #[_,rfl];rintro i x a m ⟨v,rfl⟩ U _ _ N _;rw[bJ] at m;let⟨e,V,rfl⟩:=fY.mp m;unfold yN iq;erw[cJ,mQ,rOr,zO,fJ,r1,r2,DN,w,cH,aE,aV,bC,bD,fE,rC,iV,qC,nM,AK,L2.R2.S.val,aA,aB,aI,aK,aQ,cY,dD,aR,if_false];have O:(decide (((0+1+1:Nat):Int)=2))=ζ:=rfl;erw[O,dD,aR,if_false,if_true];show#[e.1,rfl,?_];erw[dD,aR,if_false];show N _ #[_,rfl]
 rintro a ⟨u,v,rfl⟩;show dP (λa=>∃y z,a=[ap (.tup [d,gz M1,gz M2]),ap c,ap (gv b),u,v,y,z]) (λK j=>?_) ?_
 ·erw[jS,WJ,aE,aV,r1,r2,qC,qL,bD,rC,L2.R2.S.val,aA,aB,aG];show#[#[ν,ν],?_];rw[show((b.length:Int)-1).toNat=b.length-1 by lia];show wB 0 (b.length-1) (λi a=>∃y z,a=[ap (.tup [d,gz M1,gz M2]),ap c,ap (gv b),u,v,y,z]) ?_ (λa h=>j a h) _ #[_,_,rfl];rintro k a W ⟨y,z,rfl⟩ F _ _ A _;rw[show((0:Int)+(k:Int))=(k:Int) by lia];obtain⟨g,B⟩:∃g,b[k]?=ψ g:=#[_,aL ν];let⟨E,I⟩:=H.cnt k g B ν;unfold yM;erw[cJ,aI,aK];generalize P:wE (fB g) n=s at E I;show fC [ap (.tup [d,gz M1,gz M2]),ap c,ap (gv b),u,v,ap (.int k),ap (.int (0-s))] (λK j=>?_) ?_
  ·erw[fZ,r2,rC,cH,aE,aV,bC,bD,L2.R2.S.val,aA,aB,aI,aK];show zN ν ν λf J=>?_;rw[gU,B] at J;cases J;rw[<-C];show#[n,g,rfl,#[H.ln,G.each g (bA B)],?_];rw[C,P];show j
  erw[mQ,rOr,fJ,r2,cH,rCB,aE,aV,bC,bD,fE,rC,iV,sT,LN,aA,aB,aI,aK];show SR H.l1 ?_;erw[YK,dNe,qL];rw[decide_eq_true (show((ie ky M1 k).length:Int)=if(0:Int) > 0-s then 0 else 0-s by rw[E];split <;> lia)];erw[dD,aR,if_false];show SR H.l2 ?_;fail;rw[decide_eq_true (show((ie ky M2 k).length:Int)=if(0:Int) > 0-(0-s) then 0 else 0-(0-s) by rw[I];split <;> lia)];erw[dD,aR,if_false];show A _ #[_,_,rfl]
 rintro a ⟨y,z,rfl⟩;nofun;show q
abbrev D9(a:ι D):Prop:=a.Pairwise λx y=>jF (iU 6 y) (iU 6 x)=χ
abbrev ES(a:ι (g9×g9)):ι g9:=a.flatMap λp=>[p.1,p.2]
def MG(n:Nat)(a b:P2):kj (n+2) (pt a) (pt b):=.tup (.cons (.int _ _) (.cons (.int _ _) .nil))
def Lr(e f:g9):Qu (iq e) (iq f):=
 #[e.1,f.1,[j_ e.2],[j_ f.2],rfl,rfl,.cons (.tup (.cons (.tup (.cons (.int _ _) (.cons (.tup (.cons (MG 0 _ _) (.cons (MG 0 _ _) (.cons (MG 0 _ _) .nil)))) .nil))) (.cons (.tup (.cons (.int _ _) (.cons (MG 1 _ _) (.cons (MG 1 _ _) .nil)))) .nil))) .nil]
def Xk(h:iU 6 (iq e)=iU 6 (iq f)):e=f:=by
 obtain⟨a,⟨w,⟨b,c⟩,⟨d,g⟩,i,j⟩,s,⟨k,l⟩,m,n⟩:=e;obtain⟨o,⟨q,⟨u,v⟩,⟨y,z⟩,A,B⟩,C,⟨D,E⟩,F,G⟩:=f;have h:[a,w,b,c,d,g,i,j,s,k,l,m,n]=[o,q,u,v,y,z,A,B,C,D,E,F,G]:=h;erw[CJ,and_true] at h;let⟨rfl,rfl,rfl,rfl,rfl,rfl,rfl,rfl,rfl,rfl,rfl,rfl,rfl⟩:=h;rfl
def Bz{L M:ι g9}{c g:ι D}(h:c.Perm (L.map iq))(i:g.Perm (M.map iq))(j:D9 c)(k:D9 g)(p:L.Perm M):c=g:=by
 have in1:∀d∈c,∃e,d=iq e:=λd l=>by
  let⟨e,_,rfl⟩:=bK.mp (h.mem_iff.mp l);show#[e,rfl]
 show qP (le:=λx y=>jF (iU 6 y) (iU 6 x)=χ) (λa b m n x y=>?_) j k (h.trans ((p.map iq).trans i.symm));let⟨e,rfl⟩:=in1 a m;let⟨f,_,rfl⟩:=bK.mp (i.mem_iff.mp n);rw[Xk (BY _ _ y x)]
def ZS:FD:=λd Q=>∃(e:ι P2)(b:ι (g9×g9))(a:ι D)(M1 M2:ι g9),d=[.tup [.lst a,gz M1,gz M2]]/\(pk e b a/\M1.length+M2.length+2*b.length<128/\∀p∈b,p.2.1=p.1.1) /\
 ∀c,c.Perm ((M1++M2++ES b).map iq)->D9 c->Q (.lst c)
def Kv{M:ι g9}{Q:ι D->Prop}(f:M.length<=200)(q:Q (M.map iq)):Sz ((M.map iq).length)/\yF (nX 2 (fX (cJ 0) (fX (cJ 1) nW))) (iJ (aE (bC 0) (aE (bC 1) aV))) (M.map iq) [ξ,ξ] [] Q:=by
 show#[iP (by rw[aG];lia),nK (λc=>∃a b,c=[a,b]) iq iq M ?_ #[_,_,rfl] q];rintro e _ c ⟨a,b,rfl⟩ K d;unfold iq;erw[nX,fX,nW,cJ,iJ,aE,aV,bC,aQ,cY,true_and,aA,aB,aI,aK];show#[sz2,d _ #[_,_,rfl]]
def Ri{gs:ι P2}{c:ι (g9×g9)}{a:ι D}(b:pk gs c a){i:Nat}{d:D}(h:a[i]?=ψ d):∃p hh,c[i]?=ψ p/\d=w6 p hh:=by
 induction b generalizing i with
 |nil=>simp at h
 | @cons p c hh l _ _ e=>
  cases i with
  |zero=>
   rw[aA] at h;cases h;show#[p,hh,rfl,rfl]
  |succ i=>
   rw[aB] at h;let⟨f,g,j,k⟩:=e h;show#[f,g,by rw[aB];show j,k]
def TY(a:ι (g9×g9)):(ES a).length=2*a.length:=by
 induction a with
 |nil=>rfl
 |cons p a b=>erw[ES,dA,aU,aQ,cY] at b⊢;lia
def Iz:ω ZS FR ["_law_found","_law_openings","_law_closings","_law_both","_law_place","_law_height","_law_bits_here"]:=by
 rintro M Q ⟨N,g,j,M1,M2,rfl,⟨B,O,s⟩,q⟩;rw[cO 6 rfl];unfold FR;erw[iY,Vg,aM,cF,bZ,cC];generalize m:D.tup [.lst j,gz M1,gz M2]=k;have v:∀{P:D->Prop},g7 k (.int 0) P=P (.lst j):=by rw[<-m];show nM
 have w:∀{P:D->Prop},g7 k (.int 1) P=P (gz M1):=by rw[<-m];show sT
 have z:∀{P:D->Prop},g7 k (.int 2) P=P (gz M2):=by rw[<-m];show LN
 show fC [ap k,ψ (.own (M1.map iq)),ξ,ξ,ξ,ξ,ξ] (λK l=>?_) ?_
 ·erw[lW,mE,riL,r2,bD,rC,w,xX,XS,cF,bU,aA,aB,aI,aK];show Kv ν l
 show fC [ap k,ψ (.own (M1.map iq)),ψ (.own (M2.map iq)),ξ,ξ,ξ,ξ] (λK l=>?_) ?_
 ·erw[lW,mE,riL,r2,bD,rC,z,xX,XS,cF,bU,aA,aB,aI,aK];show Kv ν l
 show fC [ap k,ψ (.own (M1.map iq)),ψ (.own (M2.map iq)),ap (gz []),ξ,ξ,ξ] (λK l=>?_) ?_
 ·nofun;show l
 have bl:=B.len;show dP (λd=>∃a b c,d=[ap k,ψ (.own (M1.map iq)),ψ (.own (M2.map iq)),ap (gz (ES g)),a,b,c]) (λK l=>?_) ?_
 ·erw[jS,riL,r2,bD,rC,v,aA];show qR _ (λi d=>∃a b c,d=[ap k,ψ (.own (M1.map iq)),ψ (.own (M2.map iq)),ap (gz (ES (g.take i))),a,b,c]) ?_ ?_ _ #[_,_,_,rfl]
  ·rintro i x d n ⟨a,b,c,rfl⟩ F _ _ A _;let⟨p,h,o,rfl⟩:=Ri B n;have C:g.take (i+1)=g.take i++[p]:=(by rw[hX,o];rfl);have kp:=s p (bA o);have E:ES (g.take (i+1))=ES (g.take i)++[p.1,p.2]:=(by rw[C,ES,gD];simp);have R:(ES (g.take i)).length<=128:=(by rw[TY,gH];lia);unfold yK w6;erw[nX,fX,nW,cJ,aQ,cY,true_and,aI,aK];erw[fZ,r2,vS,mE,riL,bC,bD,xX,Ag,Bs,aM,cF,bZ,cC,bU,L2.R2.S.val,aA,aB,aI,aK,aQ,cY];show#[sz2,?_];show nK (λd=>∃u,d=[u,ap (.int p.1.1)]) (λe:g9=>j_ e.2) (λe:g9=>.tup [.int p.1.1,j_ e.2]) [p.1,p.2] ?_ #[_,rfl] ?_
   ·rintro e _ d ⟨u,rfl⟩ T G;erw[cJ,iJ,aE,aV,bC,aA,aB,aI,aQ,cY];show#[sz2,G _ #[_,rfl]]
   ·have H:[p.1,p.2].map (λe:g9=>D.tup [.int p.1.1,j_ e.2])=[p.1,p.2].map iq:=by
     show[D.tup [.int p.1.1,j_ p.1.2],D.tup [.int p.1.1,j_ p.2.2]]=[D.tup [.int p.1.1,j_ p.1.2],D.tup [.int p.2.1,j_ p.2.2]];rw[kp]
    rw[H];show#[iP (by erw[aG,aQ,cY];lia),?_];rw[<-aX,<-E];show A _ #[_,_,_,rfl]
  ·rintro d ⟨a,b,c,rfl⟩;rw[bl,kB];show l _ #[a,b,c,rfl]
 rintro d ⟨a,b,c,rfl⟩;erw[fE,WC,r2,vS,bD,L2.R2.S.val,aA,aB];have U:=TY g;show#[iP (by erw[aG];lia),iP (by erw[aG,aU];lia),?_];rw[<-aX,<-aX];show#[_,rfl,#[by erw[aG,aU];lia,λx n y I=>?_],λJ L st=>q J L st];let⟨e,_,rfl⟩:=bK.mp n;let⟨f,_,rfl⟩:=bK.mp I;show Lr e f
open K34 K33 K22 K23 K31
def V5:∀ds Q,S7 ds Q->SY ds Q:=by
 rintro ds Q ⟨a,b,rfl,⟨c,d⟩,bl,q⟩;show#[a,b,rfl,#[c,d],bl,λl e f g h=>q l e f g ?_];show uH (fT c d) (h _ (Int.dvd_mul_right ..) (zW ..))
def ZW:FD:=λb Q=>∃a:ι Int,b=[il a]/\a.length<=24/\(∀w∈a,0<w/\w<=40)/\∀B,0<B->(∀w∈a,w∣B)->B<=((40 ^ a.length:Nat):Int)->Q (.int B)
def Pg:ω ZW (xP SY) ["numbers","multiple","number"]:=by
 rintro J Q ⟨c,rfl,k,s,q⟩;rw[cO 2 rfl];unfold xP;show dP (λa=>a=[ap (il c),ap (.int 1),ξ]) (λK j=>?_) ?_
 ·nofun;show j _ rfl
 rintro a rfl;show dP (λa=>∃(B:Int)(u:Option L2.R2.S),(0<B/\(∀w∈c,w∣B)/\B<=((40 ^ c.length:Nat):Int))/\a=[ap (il c),ap (.int B),u]) (λK j=>?_) ?_
 ·erw[jS,riL,bC,aA];show nB (λm a=>∃done b:ι Int,c=done++b/\m=b.map .int/\∃(B:Int)(u:Option L2.R2.S),(0<B/\(∀w∈done,w∣B)/\B<=((40 ^ done.length:Nat):Int))/\a=[ap (il c),ap (.int B),u]) ?_ ?_ _ _ #[[],c,rfl,rfl,1,ξ,#[μ,(λw h=>by cases h),μ],rfl]
  ·rintro x m a ⟨done,b,e,d,B,u,⟨f,g,h3⟩,rfl⟩ F L M y N;cases b with
   |nil=>cases d
   |cons w b=>
    rw[aM] at d;injection d with ex d;subst ex d;let⟨n,o⟩:=s w (by rw[e];show bI _ (.head _));have dl:done.length<=23:=(by rw[e] at k;simp at k;lia);have z:((40 ^ done.length:Nat):Int)<=((40 ^ 23:Nat):Int):=Int.ofNat_le.mpr (uT μ dl);have A:BL 140 B:=BL.of_lt ν (rJ (KM h3 z) μ);have C:BL 140 w:=BL.of_lt ν (rJ o μ);unfold tR;erw[cJ,fZ,cH,aE,aV,bC,aA,aB,aI,aK];show V5 _ _ #[B,w,rfl,#[f,n],#[A.mono,C.mono],λl D E G le=>?_];show y _ #[done++[w],b,by rw[e];simp,rfl,l,ap (.int w),#[D,λv i=>?_,?_],rfl]
    ·rcases bV.mp i with i |i
     ·show kE (g v i) E
     ·rw[bE.mp i];show G
    ·rw[aU,jW,Nat.pow_succ,QS];have H:=gG h3 (lB n);have I:=Int.mul_le_mul_of_nonneg_left o (wT (40 ^ done.length));show KM le (KM H I)
  ·rintro a ⟨done,b,e,d,B,u,⟨f,g,h3⟩,rfl⟩;have:b=[]:=(by cases b with |nil=>rfl |cons _ _=>cases d);subst this;rw[bU] at e;subst e;show j _ #[B,u,#[f,g,h3],rfl]
 rintro a ⟨B,u,⟨f,g,h3⟩,rfl⟩;nofun;show q B f g h3
def Tr(h0:0<B)(h:B<=((40 ^ m:Nat):Int))(a:m<=n)(b:40 ^ n<2 ^ k):BL k B:=
 BL.of_lt (by have:=wT (2 ^ k);lia) (rJ h (Int.ofNat_lt.mpr (rL (uT μ a) b)))
def Pe:ω K23.F_colB (vN ZW K23.F_ordH oZ Cf) ["sides","column","bottom","heights","rows","low","up","edges"]:=K23.pure_column_bands_G λ_ _ ⟨c,e,l,h,q⟩=>#[c,e,ν,h,λB a d b=>q B a d (Tr a b l μ)]
def Pn:ω K22.F_rising (OT ZW) ["ones","bottom"]:=K22.pure_rising_G λ_ _ ⟨c,e,l,h,q⟩=>#[c,e,l,h,λB a d b=>q B a d (Tr a b l μ)]
theorem Sw:∀(xs:ι D),(∀x∈xs,f x x=ψ ζ)->ma f xs xs=ψ ζ
 | [],_=>rfl
 |x::xs,h=>by erw[ma,h x η,Sw xs λy a=>h y (by simp[a])];rfl
structure uk(es:List sF)(nl:List Nm)(gs:List P2):Prop where
 G:rg gs
 ok:K22.EsOk gs es
 few:es.length<=8
 ln:∀x∈nl,rh x.1
 eq:∀g∈gs,wE (fB g) nl=sy (fB g) es
def TB:FD:=λd Q=>∃(a:ι sF)(b:ι Nm)(c:ι P2),d=[.lst (a.map (·.1)),.lst (b.map sr),gv c]/\uk a b c/\Q (.bl ζ)
def Tu(h:x∈WK a b):(a:Int)<=x/\x<(b:Int):=by
 let⟨i,hi,rfl⟩:=bK.mp h;have:=cM.mp hi;lia
def Lm{gs:ι P2}{es:ι sF}(E:K22.EsOk gs es){O:ι g9}(h:O.map ky=es.flatMap (oK gs)\/O.map ky=es.flatMap (cK gs)):∀e∈O,0<=e.1/\e.1+1<(gs.length:Int):=by
 intro e b;show 0<=ky e/\ky e+1<(gs.length:Int);have a:ky e∈O.map ky:=eU b;rcases h with h |h <;> rw[h] at a <;> let⟨x,c,d⟩:=lH.mp a <;> let⟨_,f,g⟩:=E x c <;> have i:=rO f <;> have j:=rO g <;> have:=Tu d <;> lia
theorem Cn(G:rg gs):∀es:ι sF,K22.EsOk gs es->(es.flatMap (oK gs)).length+(es.flatMap (cK gs)).length<=15*es.length
 | [],_=>aS _
 |e::es,E=>by
  have d:=Cn G es λx a=>E x (.tail _ a);let⟨_,b,c⟩:=E e (.head _);have f:=rO b;have g:=rO c;have:=G.len;rw[dA,dA,aU,aU,BF,BF,aQ];lia
def Nf(f:k1.Nodup)(i:k2.Nodup)(j:k3.Nodup)(g:∀e∈O,ky e∈k1)(k:∀e∈O,ky e∈k2)(h3:∀e∈C,ky e∈k3):
  (mZ ky O C k2++mZ ky C O k3++ES (nV ky O C k1)).Perm (O++C):=by
 have a:=Eu ky O C k1 f g;have b:=Uj ky O C k1 k3 f j g h3;have c:(mZ ky O C k2).Perm (mZ ky O C k1):=Il i f k g;have d:=UO (λp:g9×g9=>[p.1]) (λp=>[p.2]) (nV ky O C k1);have m:∀l:ι (g9×g9),l.flatMap (λp=>[p.1])=l.map (·.1):=λl=>by induction l with |nil=>rfl |cons x l h=>rw[dA,h];rfl
 have n:∀l:ι (g9×g9),l.flatMap (λp=>[p.2])=l.map (·.2):=λl=>by induction l with |nil=>rfl |cons x l h=>rw[dA,h];rfl
 rw[m,n] at d;have o:((nV ky O C k1).map (·.1)++(nV ky O C k1).map (·.2)).Perm (ES (nV ky O C k1)):=d;show List.perm_iff_count.mpr λx=>?_;have q:=a.count_eq x;have s:=b.count_eq x;have v:=c.count_eq x;have u:=o.count_eq x;rw[sJ] at q s u;rw[sJ,sJ,sJ];lia
def Fd:ω TB (BA ZS Gu ZV ZX Hb) ["_law_rows","_law_numbers_here","_law_leans","_law_boxes_here","_law_openings","_law_closings","_law_handed","_law_found"]:=by
 rintro ds Q ⟨n,I,b,rfl,R,q⟩;have G:=R.G;have gl:=G.len;have fw:=R.few;rw[cO 5 rfl];unfold BA;erw[iY,P0,aM,cF,bZ,cC];generalize J:n.map (·.1)=c;have lr:c.length<=8:=by rw[<-J,aG];show fw
 generalize hN:D.lst (I.map sr)=v;show dP (λa=>∃(x:D)(O C:ι g9),(O.map ky=n.flatMap (oK b)/\C.map ky=n.flatMap (cK b))/\a=[ap (.lst c),ap v,ap (gv b),ap x,ap (gz O),ap (gz C),ξ,ξ]) (λK j=>?_) ?_
 ·erw[Ps,cH,aE,aV,r1,uK,bD,L2.R2.S.val,aA,aB];rw[<-J];show#[b,n,rfl,#[G,R.ok,ν],λbs O C L h=>?_];rw[J];erw[nX,fX,nW,cJ,aQ,cY,true_and,aI,aK];show j _ #[_,O,C,#[L,h],rfl]
 rintro a ⟨x,O,C,⟨M,N⟩,rfl⟩;have few:=Cn G n R.ok;have lO:O.length=(n.flatMap (oK b)).length:=by rw[<-M,aG]
 have lC:C.length=(n.flatMap (cK b)).length:=by rw[<-N,aG]
 have pO:B_ b.length O:=#[ν,Lm R.ok (.inl M)];have pC:B_ b.length C:=#[ν,Lm R.ok (.inr N)];have w:∀(k:Nat)(g:P2),b[k]?=ψ g->((ie ky O k).length:Int)-(ie ky C k).length=0-wE (fB g) I:=λk g H=>by
  have:=Kt G H n λe he=>(R.ok e he).2;rw[<-M,<-N,<-Lk,<-Lk] at this;rw[R.eq g (bA H)];show this
 show fC [ap (.lst c),ap v,ap (gv b),ap x,ap (gz O),ap (gz C),ap (.lst [gz O,gz C,gv b]),ξ] (λK j=>?_) ?_
 ·erw[fZ,nQ,aE,aV,r1,uK,bD,L2.R2.S.val,aA,aB,aI,aK,aQ,cY,aG];show#[sz3,j]
 show dP (λa=>∃(z o s:ι Int)(i:ι D),(uj O C b z s i/\o.Nodup/\∀e∈O,ky e∈o)/\a=[ap (.lst c),ap v,ap (gv b),ap x,ap (gz O),ap (gz C),ap (.lst [gz O,gz C,gv b]),ap (.tup [.lst i,gz (mZ ky O C o),gz (mZ ky C O s)])]) (λK j=>?_) ?_
 ·erw[fZ,cH,aE,aV,r2,bD,rC,UB,UC,Da,aA,aB,aI,aK];show#[O,C,b,rfl,#[pO,pC],#[gl,G.each],λz o s i P A h=>j _ #[z,o,s,i,#[P,A,h],rfl]]
 rintro a ⟨z,o,s,i,⟨P,A,h⟩,rfl⟩;have T:=AU (k:=ky) (fs:=C) A h;have U:=AU (k:=ky) (fs:=C) P.nd1 P.in1;have V:=AU (k:=ky) (fs:=O) P.nd2 P.in2;have B:=Nf (C:=C) P.nd1 A P.nd2 P.in1 h P.in2;generalize W:mZ ky O C o=M1 at T B;generalize X:mZ ky C O s=M2 at V B;generalize m:nV ky O C z=Y at U B;have E:pk b Y i:=m▸P.bx;have Z:∀l:ι D,UV "tuple" (.tup l)=ψ ζ:=λ_=>rfl;have F:=B.length_eq;rw[aU,aU,aU,TY] at F;show fC [ap (.lst c),ap v,ap (gv b),ap x,ap (gz O),ap (gz C),ap (.lst [gz O,gz C,gv b]),ap (.tup [.lst i,gz M1,gz M2])] (λK j=>?_) ?_
 ·erw[mQ,rOr,zO,fJ,r1,r2,nQ,aE,aV,DN,Z,bC,bD,fE,rC,iV,qC,AK,L2.R2.S.val,aA,aB,aQ,cY];show#[sz3,?_];have e8:ma (jc 8) [gz O,gz C,gv b] [gz O,gz C,gv b]=ψ ζ:=by
   have:=Nw O C b
   rwa [show jc 9 (.lst [gz O,gz C,gv b]) (.lst [gz O,gz C,gv b])=ma (jc 8) [gz O,gz C,gv b] [gz O,gz C,gv b] by rw[jc]] at this
  erw[Wx,e8,dD,aR,if_false,true_and];have e3:(decide (((0+1+1+1:Nat):Int)=3))=ζ:=rfl;erw[e3,dD,aR,if_false,if_true];show j
 show fC [ap (.lst c),ap v,ap (gv b),ap x,ap (gz O),ap (gz C),ap (.lst [gz O,gz C,gv b]),ap (.tup [.lst i,gz M1,gz M2])] (λK j=>?_) ?_
 ·erw[mQ,rOr,zO,fJ,r2,cH,aE,aV,bC,bD,fE,rC,iV,nM,aA,aB];show#[Y,i,O,C,b,rfl,#[G,E,ν,ν,ν,λp hp=>?_,λk hk=>?_],?_]
  ·rw[<-m] at hp;show pO.pl p.1 (YZ hp).1
  ·rw[<-m];show Ov P.nd1 P.in1 k
  erw[dD,aR,if_false];rw[<-hN];show#[_,M1,M2,I,b,rfl,#[G,ν,ν,R.ln,λk g H hk=>?_],?_]
  ·have d:=w k g H;rw[<-W,<-X,YX A h,YX P.nd2 P.in2];lia
  erw[dD,aR,if_false];rw[hN];show j
 erw[fE,r2,cH,aE,aV,bC,bD,WC,vS,L2.R2.S.val,aA,aB];show#[b,Y,i,M1,M2,rfl,#[E,ν,λp hp=>?_],λqs L s1=>?_]
 ·rw[<-m] at hp;show(YZ hp).2.2
 show#[iP (by erw[aG];lia),?_];rw[<-aX];show#[_,rfl,#[by erw[aG,aU];lia,λx hx y hy=>?_],λu h s2=>?_]
 ·let⟨e,_,rfl⟩:=bK.mp hx;let⟨f,_,rfl⟩:=bK.mp hy;show Lr e f
 rw[Bz L h s1 s2 B];have e9:jc 9 (.lst u) (.lst u)=ψ ζ:=by
  rw[show jc 9 (.lst u) (.lst u)=ma (jc 8) u u by rw[jc]];show Sw _ λd hd=>?_;let⟨e,_,rfl⟩:=bK.mp (h.mem_iff.mp hd);rw[U6 2,decide_eq_true rfl]
 erw[Ww,e9];show q
def Kl(h:pr ts hss n)(q:Q (.lst ((eA ts hss n (ts.length-1)).map (·.1)))):SD [il ts,j6 hss] λd=>K23.F_bands [d] Q:=by
 show#[ts,hss,n,rfl,h,_,_,rfl,h.cloth.bands h.cur,λe a b c h3=>?_];rw[Rf h.cur h.cloth b c h3];show q
def pr.few(h:pr ts hss n):(eA ts hss n (ts.length-1)).length<=8/\K22.EsOk (SL ts hss n) (eA ts hss n (ts.length-1))/\(SL ts hss n).length<=8:=by
 have C:=h.cur;have d:=C.thr.len;have e:=h.tl;have f:=h.n2;let⟨_,a,_,g⟩:=Hk C (ts.length-1) ν;show#[?_,a,?_]
 ·have b:=h.w4 _ (bA (HZ (ts:=ts) (i:=0) ν)) _ (bA (HZ (ts:=ts) (i:=ts.length-1) ν));have c:0<=T ts (ts.length-1)-T ts 0:=by have:=FH C.thr (i:=0) (j:=ts.length-1) ν ν;lia
  have:(n:Int)*(T ts (ts.length-1)-T ts 0)<=2*4:=Int.mul_le_mul ν b c μ;lia
 ·unfold SL;rw[K22.flat_len _ (2*n) _ λx _=>by rw[aG,eI],eI];show dC (wX (show ts.length-1<=2 by lia) (show 2*n<=4 by lia)) μ
def Fp(h:pr ts hss n)(G:rg gs)(f:∀p∈re (eA ts hss n (ts.length-1)),p∈gs):uk (eA ts hss n (ts.length-1)) (q9 ts hss n (ts.length-1)) gs:=by
 have C:=h.cur;have u:=C.thr.len;let⟨i,k,_⟩:=h.few;have l:=Qy C;show#[G,λe b=>?_,i,λx a=>?_,λg _=>?_]
 ·have c:∀p∈[e.2.2,e.2.1],p∈gs:=λp hp=>f p (lH.mpr #[e,b,hp]);show#[(k e b).1,c _ (.tail _ (.head _)),c _ (.head _)]
 ·let⟨z,d,a⟩:=lH.mp a;let⟨j,m,rfl⟩:=bK.mp a;have d:=cM.mp d;let⟨o,q,_,s⟩:=l.each _ (Bx C (z:=z) (j:=j) ν (cM.mp m));show#[o,q,s]
 ·rw[Wc,Vz C _ _ ν]
def Uv:ω (Nc 63) (WE KK Gz TB SD Hc K23.F_bands K31.F_leans) ["_law_script","_law_threads","_law_heights_here","_law_others","_law_rows","_law_more","_law_leans"]:=by
 rintro R Q ⟨ns,rfl,T,J⟩;rw[cO 6 rfl];unfold WE;erw[iY,Vg,aM,cF,bZ,cC];show dP (λc=>∃b a n,(pr b a n/\∀t∈b,-100<=t/\t<=104)/\c=[ap (il ns),ap (il b),ap (j6 a),ξ,ξ,ξ,ξ]) (λK g=>?_) ?_
 ·erw[Ps,cH,aE,aV,bC,rC,aA];show#[ns,4,rfl,#[μ,μ],λb a n h lo=>?_];erw[nX,fX,nW,cJ,aQ,cY,true_and,aI,aK];show g _ #[b,a,n,#[h,lo],rfl]
 rintro c ⟨b,a,n,⟨h,lo⟩,rfl⟩;show dP (λc=>∃d f m,pr d f m/\c=[ap (il ns),ap (il b),ap (j6 a),ap (.tup [il d,j6 f]),ξ,ξ,ξ]) (λK g=>?_) ?_
 ·erw[fZ,cH,aE,aV,bC,aA,aB,aI,aK];show#[ns,b,a,n,rfl,#[h,lo],λd f m i=>g _ #[d,f,m,i,rfl]]
 rintro c ⟨d,f,m,i,rfl⟩;let⟨L,u,U⟩:=h.few;let⟨M,v,V⟩:=i.few;have H:=λgs G A=>Fp (gs:=gs) h G A;have R2:=λgs G A=>Fp (gs:=gs) i G A;have bk:=λ(Q:D->Prop) q=>Kl (Q:=Q) h q;have o:=λ(Q:D->Prop) q=>Kl (Q:=Q) i q;have w:LOk (SL b a n++SL d f m):=#[by rw[aU];lia,λp hp=>by
  rcases bV.mp hp with z |z
  ·show(Qy h.cur).each p z
  ·show(Qy i.cur).each p z]
 have j:(SL b a n++SL d f m).length<=16:=by rw[aU];lia
 generalize SL b a n=B at u w j;generalize SL d f m=C at v w j;have E:K22.EsOk (B++C) (eA b a n (b.length-1)):=λe k=>#[(u e k).1,dY _ (u e k).2.1,dY _ (u e k).2.2];have F:K22.EsOk (B++C) (eA d f m (d.length-1)):=λe k=>#[(v e k).1,bI _ (v e k).2.1,bI _ (v e k).2.2];generalize eA b a n (b.length-1)=l at L E H bk;generalize eA d f m (d.length-1)=eb at M F R2 o;show fC [ap (il ns),ap (il b),ap (j6 a),ap (.tup [il d,j6 f]),ap (.lst (l.map (·.1))),ξ,ξ] (λK g=>?_) ?_
 ·erw[fZ,cH,aE,aV,bC,aA,aB,aI,aK];show bk _ g
 show fC [ap (il ns),ap (il b),ap (j6 a),ap (.tup [il d,j6 f]),ap (.lst (l.map (·.1))),ap (.lst (eb.map (·.1))),ξ] (λK g=>?_) ?_
 ·erw[fZ,cH,aE,aV,bD,rC,r2,nM,sT,aA,aB,aI,aK];show o _ g
 show dP (λc=>∃gs:ι P2,(gs.Pairwise we/\∀p,p∈gs↔p∈re l\/p∈re eb)/\c=[ap (il ns),ap (il b),ap (j6 a),ap (.tup [il d,j6 f]),ap (.lst (l.map (·.1))),ap (.lst (eb.map (·.1))),ap (gv gs)]) (λK g=>?_) ?_
 ·erw[fZ,cH,aE,aV,bC,aA,aB,aI,aK];show#[_,l,eb,rfl,#[w,E,F,ν,ν],λgs y s=>g _ #[gs,#[y,s],rfl]]
 rintro c ⟨gs,⟨y,s⟩,rfl⟩;have I:∀p∈gs,p∈B++C:=λp hp=>by
  rcases (s p).mp hp with z |z
  ·show By E p z
  ·show By F p z
 have G:rg gs:=#[dC (len_sub gs _ (y.imp we.ne) I) j,λp hp=>by
  let⟨N,O,_,P⟩:=w.each p (I p hp);show#[N,O,P],y]
 show fC [ap (il ns),ap (il b),ap (j6 a),ap (.tup [il d,j6 f]),ap (.lst (l.map (·.1))),ap (.lst (eb.map (·.1))),ap (gv gs)] (λK g=>?_) ?_
 ·erw[mQ,zO,fJ,cH,aE,aV,bC,fE,rC,iV,aA,aB];show#[b,a,n,rfl,h,l,_,gs,rfl,H gs G (λp hp=>(s p).mpr (.inl hp)),?_];erw[dD,aR,if_false];show g
 erw[fE,cH,aE,aV,bC,bD,rC,r2,nM,sT,aA,aB];show#[d,f,m,rfl,i,eb,_,gs,rfl,R2 gs G (λp hp=>(s p).mpr (.inr hp)),J]
local macro_rules | `(tactic|walk_at "len")=>`(tactic| (intro ds Q h;(repeat let⟨_,h⟩:=h);all_goals (subst_vars;rfl)))
nonrec def top(i:Nat):Stmt:=PySem.Challenge.pw_recut_k39_whole_wedges_left.main.body.getD i (.Pass #[0,0,0,0])
structure TopF(K:aH)(mg:Str->Option aF):Prop where
 d0:jZ K mg (top 46)
 d1:jZ K mg (top 50)
 d2:jZ K mg (top 51)
 d3:jZ K mg (top 52)
 d4:jZ K mg (top 48)
 d5:jZ K mg (top 49)
 d6:jZ K mg (top 55)
 d7:jZ K mg (top 61)
 d8:jZ K mg (top 58)
 d9:jZ K mg (top 47)
 d10:jZ K mg (top 59)
 d11:jZ K mg (top 57)
 d12:jZ K mg (top 60)
 d13:jZ K mg (top 41)
 d14:jZ K mg (top 5)
 d15:jZ K mg (top 7)
 d16:jZ K mg (top 9)
 d17:jZ K mg (top 42)
 d18:jZ K mg (top 43)
 d19:jZ K mg (top 44)
 d20:jZ K mg (top 10)
 d21:jZ K mg (top 26)
 d22:jZ K mg (top 27)
 d23:jZ K mg (top 28)
 d24:jZ K mg (top 29)
 d25:jZ K mg (top 6)
 d26:jZ K mg (top 30)
 d27:jZ K mg (top 8)
 d28:jZ K mg (top 33)
 d29:jZ K mg (top 23)
 d30:jZ K mg (top 36)
 d31:jZ K mg (top 37)
 d32:jZ K mg (top 35)
 d33:jZ K mg (top 24)
 d34:jZ K mg (top 39)
 d35:jZ K mg (top 21)
 d36:jZ K mg (top 34)
 d37:jZ K mg (top 38)
 d38:jZ K mg (top 22)
 d39:jZ K mg (top 40)
 d40:jZ K mg (top 62)
 d41:jZ K mg (top 54)
 d42:jZ K mg (top 53)
 d43:jZ K mg (top 56)
 d44:jZ K mg (top 11)
 d45:jZ K mg (top 16)
 d46:jZ K mg (top 17)
 d47:jZ K mg (top 18)
 d48:jZ K mg (top 19)
 d49:jZ K mg (top 14)
 d50:jZ K mg (top 15)
 d51:jZ K mg (top 20)
 d52:jZ K mg (top 12)
 d53:jZ K mg (top 32)
 d54:jZ K mg (top 63)
 b0:mg "len" = ξ
 b1:mg "min" = ξ
 b2:mg "range" = ξ
 b3:mg "abs" = ξ
 b4:mg "sorted" = ξ
 b5:mg "isinstance" = ξ
 b6:mg "bool" = ξ
 b7:mg "int" = ξ
 b8:mg "list" = ξ
 b9:mg "tuple" = ξ
 b10:mg "max" = ξ
 b11:mg "zip" = ξ
 b12:mg "reversed" = ξ
 b13:mg "set" = ξ
 b14:mg "enumerate" = ξ
 b15:mg "dict" = ξ
 t0:∃c T,fH K "rising" = ψ (c,T)
def TopF.hid{K a:aH}{mg:Str->Option aF}(T:TopF K mg)(z:ou K a):TopF a mg:=by
 cases T;constructor <;> first |assumption | (apply z.def;assumption) | (rename_i h;let⟨c,P,e⟩:=h;show#[c,P,z.tab e])
section
variable{P:bP}{w:cS}{K:aH}{mg:Str->Option aF}{base:Heap}(T:TopF K mg)
variable{lc lt:Addr}(W:ui K mg base "rising" lc lt)
def OH:gZ (["_law_place","_law_script","_law_many_here","_law_start"]:ι Str):=θ
def RJ:gZ (["_law_bit","_law_place"]:ι Str):=θ
def CQ:gZ (["_law_place","_law_bit"]:ι Str):=θ
def CS:gZ (["_law_place","_law_bit"]:ι Str):=θ
def RK:gZ (["_law_wedge","_law_place"]:ι Str):=θ
def RL:gZ (["bit","number"]:ι Str):=θ
def IG:gZ (["x","y","divisor"]:ι Str):=θ
def FI:gZ (["x","y","share"]:ι Str):=θ
def PZ:gZ (["number","lean"]:ι Str):=θ
def OI:gZ (["_law_k","_law_threads","_law_heights_here","_law_low"]:ι Str):=θ
def OJ:gZ (["_law_k","_law_threads","_law_heights_here","_law_low"]:ι Str):=θ
def ME:gZ (["_law_x"]:ι Str):=θ
def MF:gZ (["_law_number"]:ι Str):=θ
def MD:gZ (["_law_x"]:ι Str):=θ
def DQ:gZ (["side","column","bottom"]:ι Str):=θ
def JU:gZ (["height","bottom"]:ι Str):=θ
def JV:gZ (["side"]:ι Str):=θ
def Bd:gZ (["one"]:ι Str):=θ
include T
def rA:T.d0.W P w base 1 ZT:=
 T.d0.mkD OP λa b=>
 aW (nU (jD QA (c7 1) (eb (nN T.b0 (c7 0)))) (jd (jX (c7 0) (c7 1))) iO)
 (jd fM)
def oT:T.d1.W P w base 1 SC:=
 T.d1.mkD VZ λa b=>
 aW (eJ a fM)
 (aW (nU (jD Tz (eb (nN T.b0 (c7 0))) cZ) (dE (eJ a (jX (c7 0) (iy oW (c7 1) (eb (uV (Kp rfl) T.b1 YG (aD fM (aD (nN T.b0 (c7 0)) aT)))))))) iO)
 (aW (eJ a (fU jO (iy oW (c7 2) (iy Bf cZ cZ)) (iy kD cZ (iy jO (c7 1) cZ))))
 (jd (fU oW (iy kD (c7 3) (c7 3)) cZ))))
def RP:T.d2.W P w base 2 C9:=
 T.d2.mkD Zc λa b=>
 aW (eJ a (bG (oT T) b (aD (dv 0) (aD (dv 2) aT))))
 (aW (mC a (iS (aD (fU lV (iy oW (c7 3) cZ) cZ) aT)))
 (aW (nU (jD Be (iy oW (eb (bG (rA T) b (aD (dv 0) (aD fM aT)))) cZ) cZ) (dE (mC a (iS (aD (fU lV (iy oW (eb (bG (rA T) b (aD (dv 0) (aD (dv 2) aT)))) (iy kD cZ (iy Bf cZ cZ))) (iy Bf cZ cZ)) aT)))) iO)
 (aW (iT cI rfl (NZ T.b2 (aD fM (aD (dv 1) aT))) (cW a) (aW (eJ a (bG (oT T) b (aD (dv 0) (aD (fU jO (iy jO cZ (iy kD cZ (c7 2))) (c7 5)) aT))))
 (aW (eJ a (jX (eb (DO.val (iS (aD fM (aD fM (aD (fU oW (iy qE (c7 3) cZ) cZ) (aD (fU oW (iy qE (c7 3) cZ) (eb (jX (eb (DO.val (iS (aD fM (aD (fU Bf cZ cZ) aT))))) (iy oW (eb (bG (rA T) b (aD (dv 0) (aD fM aT)))) cZ)))) aT))))))) (iy oW (c7 3) cZ)))
 (dE (mL 4 (fU jO (eb (jX (c7 4) (eb (UE KE cZ)))) (c7 6)))))))
 (dE (sV 4 (pU (dv 4)))))))
def IH:T.d3.W P w base 3 KK:=
 T.d3.mkD Fb λb a=>
 aW (mC b (iS (aD (fU lV (iy oW (eb (bG (oT T) a (aD (dv 0) (aD (dv 1) aT)))) cZ) cZ) aT)))
 (aW (iT cI rfl (tZ T.b2 (aD (fU jO cZ (iy oW (eb (bG (oT T) a (aD (dv 0) (aD (fU jO (c7 1) cZ) aT)))) cZ)) aT)) (cW b) (dE (mL 2 (fU jO (iy jO (eb (jX (c7 2) (eb (UE KE cZ)))) cZ) (iy oW (eb (bG (oT T) a (aD (dv 0) (aD (fU jO (iy jO (c7 1) cZ) (c7 3)) aT)))) cZ)))))
 (aW (eJ b (fU jO cZ (iy kD cZ (iy oW (eb (bG (oT T) a (aD (dv 0) (aD (fU jO (c7 1) cZ) aT)))) cZ))))
 (dE (sV 2 (pU (fF (aD (dv 2) (aD (DO.val (sU ["_law_place","_law_script","_law_many_here","_law_start"] 1 [0,4,1] (tZ T.b2 (aD (nN T.b0 (c7 2)) aT)) (λc C s H d=>cW OH) (λc C s H d=>bG (RP T) a (aD (dv 1) (aD (dv 2) (aD (fU jO (iy jO (c7 3) cZ) (c7 0)) aT)))))) aT))))))))
def RN:T.d4.W P w base 1 PC:=
 T.d4.mkD OQ λa b=>
 aW (eJ a (uV Ai T.b3 GQ (aD (dv 0) aT)))
 (aW (eJ a (uV Ai T.b3 GQ (aD (dv 1) aT)))
 (aW (UH cI (jD Tz (c7 1) cZ) (dE (F6 rfl a (aD (dv 1) (aD (fU oW (c7 0) (c7 1)) aT)))))
 (jd (dv 0))))
def FL:T.d5.W P w base 2 Ke:=
 T.d5.mkD RW λa b=>
 aW (eJ a (bG (RN T) b (aD (dv 0) (aD (dv 1) aT))))
 (jd (fF (aD (fU qE (c7 0) (c7 2)) (aD (fU qE (c7 1) (c7 2)) aT))))
def CT:T.d6.W P w base 3 Gz:=
 T.d6.mkD Ph λa b=>
 aW (mC a (iS aT))
 (aW (iT cI rfl (tZ T.b2 (aD (fU lV (eb (nN T.b0 (c7 0))) cZ) aT)) (cW a) (aW (eJ a (fU lV (eb (jX (c7 0) (iy jO (c7 3) cZ))) (eb (jX (c7 0) (c7 3)))))
 (dE (iT cI rfl (tZ T.b2 (aD (nN T.b0 (ir 1)) aT)) (cW a) (aW (eJ a (fU lV (eb (jX (eb (jX (c7 1) (iy jO (c7 3) cZ))) (c7 5))) (eb (jX (eb (jX (c7 1) (c7 3))) (c7 5)))))
 (dE (mL 2 (fF (aD (bG (FL T) b (aD (dv 6) (aD (dv 4) aT))) (aD (fU kD (c7 4) (eb (jX (eb (DO.val (iS (aD (UE KE cZ) (aD fM aT))))) (iy oW (c7 5) cZ)))) aT))))))))))
 (dE (sV 2 (pU (dv 2)))))
def Bg:T.d7.W P w base 1 ZS:=
 T.d7.mkD Iz λa d=>
 aW (GU ["_law_place","_law_bit"] 2 [] a (iF (kc 0)) (λb C s H c=>qM rfl (fG (cW CS) (fG (cW CS) nA))) (λb C s H c=>fF (aD (dv 0) (aD (dv 1) aT))))
 (aW (GU ["_law_place","_law_bit"] 2 [] a (iF (kc 0)) (λb C s H c=>qM rfl (fG (cW CQ) (fG (cW CQ) nA))) (λb C s H c=>fF (aD (dv 0) (aD (dv 1) aT))))
 (aW (eJ a (DO.val (iS aT)))
 (aW (iT cI rfl (iF (kc 0)) (qM rfl (fG (cW a) (fG (cW a) (fG (cW a) nA)))) (dE (eJ a (fU wF (c7 3) (eb (DO.val (sU ["_law_bit","_law_place"] 1 [4] (iF (dv 6)) (λb C s H c=>cW RJ) (λb C s H c=>fF (aD (dv 1) (aD (dv 0) aT))))))))))
 (jd (DO.val (Dj d T.b4 (iy wF (iy wF (c7 1) (c7 2)) (c7 3))))))))
def sX:T.d8.W P w base 1 GO:=
 T.d8.mkD Jc λd c=>
 jd (nN T.b0 (eb (DO.val (Di ["_law_wedge","_law_place"] 1 [1] (iF (dv 0)) (λa C s H b=>cW RK) (λa C s H b=>Si (jD (B8 c) (ir 0) (c7 1))) (λa C s H b=>dv 0)))))
def IK:T.d9.W P w base 1 SE:=
 T.d9.mkD WA λa b=>
 jd (E9 (EV (Zt _) T.b5 T.b7 Ng (dv 0)) (F4 (F1 (EV (Wf _) T.b5 T.b6 Hq (dv 0)))))
def XM:T.d10.W P w base 3 Gu:=
 T.d10.mkD Pc λb a=>
 aW (nU (xC (vK (EV (WO _) T.b5 T.b8 JM (dv 0)))) (jd xB) iO)
 (aW (iT cI rfl (iF (dv 0)) (cW b) (aW (nU (DW.tst (EX (xC (vK (EV (OW _) T.b5 T.b9 ER (dv 4)))) (EX (jD VO (eb (nN T.b0 (c7 4))) cZ) (OA (xC (vK (bG (IK T) a (aD (kc 4) aT)))))))) (jd xB) iO)
 (aW (nU (DW.tst (EX (jD QA (ir 4) cZ) (EX (jD W5 (ir 4) (iy lV (eb (nN T.b0 (c7 3))) cZ)) (EX (xC (vK (EV (WO _) T.b5 T.b8 JM (kc 4)))) (OA (jD VO (eb (nN T.b0 (ir 4))) cZ)))))) (jd xB) iO)
 (aW (eJ b (jX (c7 3) (ir 4)))
 (aW (eJ b (jX (c7 3) (iy jO (ir 4) cZ)))
 (dE (nU (jD (El a) (ir 4) (eb (bG (FL T) a (aD (fU lV (iy kD (ir 6) (ir 5)) (iy kD (ir 5) (ir 6))) (aD (fU kD (ir 5) (ir 6)) aT))))) (jd xB) iO)))))))
 (aW (iT cI rfl (tZ T.b2 (aD (fU lV (eb (nN T.b0 (c7 3))) cZ) aT)) (cW b) (dE (nU (jD (El a) (eb (bG (sX T) a (aD (dv 0) (aD (dv 7) aT)))) (eb (uV (Kp rfl) T.b1 YG (aD (bG (sX T) a (aD (dv 1) (aD (dv 7) aT))) (aD (bG (sX T) a (aD (dv 2) (aD (dv 7) aT))) aT))))) (jd xB) iO)))
 (jd xB)))
def MH:T.d11.W P w base 1 Hd:=
 T.d11.mkD Pp λa b=>
 aW (eJ a fM)
 (aW (iT cI rfl (iF (dv 0)) (qM rfl (fG (cW a) (fG (cW a) nA))) (dE (nU (jD B9 (iy kD (ir 3) (ir 1)) (iy kD (ir 1) (ir 3))) (dE (eJ a (fU jO (c7 2) (c7 4)))) iO)))
 (jd (dv 2)))
def Bh:T.d12.W P w base 2 ZV:=
 T.d12.mkD Jb λb a=>
 aW (iT cI rfl (Sg (AM (c7 0) (GT fM) GS)) (cW b) (aW (nU (xC (vK (EV (WO _) T.b5 T.b8 JM (dv 3)))) (jd xB) iO)
 (dE (iT cI rfl (iF (dv 3)) (cW b) (dE (nU (DW.tst (EX (xC (vK (EV (OW _) T.b5 T.b9 ER (dv 4)))) (EX (jD VO (eb (nN T.b0 (c7 4))) cZ) (OA (xC (vK (bG (IK T) a (aD (kc 4) aT)))))))) (jd xB) iO))))))
 (aW (iT cI rfl (tZ T.b2 (aD (fU lV (eb (nN T.b0 (c7 2))) cZ) aT)) (cW b) (aW (eJ b (fU lV cZ (eb (bG (MH T) a (aD (dv 1) (aD (jX (c7 2) (c7 5)) aT))))))
 (dE (nU (DW.tst (EX (jD (El a) (eb (bG (sX T) a (aD (kc 0) (aD (dv 5) aT)))) (eb (uV (Ko rfl) T.b10 YF (aD (dv 6) (aD fM aT))))) (OA (jD (El a) (eb (bG (sX T) a (aD (kc 0) (aD (dv 5) aT)))) (eb (uV (Ko rfl) T.b10 YF (aD (fU lV cZ (c7 6)) (aD fM aT)))))))) (jd xB) iO))))
 (jd xB))
def yI:T.d13.W P w base 1 Qr:=
 T.d13.mkD Ut λa b=>
 aW (Ld a)
 (aW (iT cI rfl (iF (dv 0)) (qM rfl (fG (cW a) (fG (cW a) nA))) (dE (Lc 1 (dv 2) (dv 3))))
 (dE (sV 1 (pU (dv 1)))))
def pG:T.d14.W P w base 1 PC:=
 T.d14.mkD HS λa b=>
 aW (eJ a (uV Ai T.b3 GQ (aD (dv 0) aT)))
 (aW (eJ a (uV Ai T.b3 GQ (aD (dv 1) aT)))
 (aW (UH cI (jD VO (c7 3) cZ) (aW (eJ a (fU oW (c7 2) (c7 3)))
 (aW (eJ a (dv 3))
 (dE (eJ a (dv 4))))))
 (jd (dv 2))))
def VW:T.d15.W P w base 2 oZ:=
 T.d15.mkD Jf λa b=>
 aW (nU (jD Be (c7 1) cZ) (dE Dl) iO)
 (aW (eJ a (bG (pG T) b (aD (dv 0) (aD (dv 1) aT))))
 (aW (nU (jD QA (c7 1) cZ) (dE (eJ a (UE KE (c7 2)))) iO)
 (jd (fF (aD (fU qE (c7 0) (c7 2)) (aD (fU qE (c7 1) (c7 2)) aT))))))
def xI:T.d16.W P w base 3 iW:=
 T.d16.mkD Jd λb a=>
 jd (bG (VW T) a (aD (fU lV (iy kD (ir 0) (ir 1)) (iy kD (ir 1) (ir 0))) (aD (fU kD (ir 0) (ir 1)) aT)))
def Op:T.d17.W P w base 4 ZU:=
 T.d17.mkD Ja λb a=>
 jd (fF (aD (dv 0) (aD (bG (xI T) a (aD (jX (c7 3) (iy jO (c7 0) cZ)) (aD (jX (c7 3) (c7 0)) aT))) (aD (DO.val (iS (aD (dv 1) (aD (dv 2) aT)))) aT))))
def MJ:T.d18.W P w base 1 Gx:=
 T.d18.mkD Pf λa b=>
 aW (mC a (iS aT))
 (aW (iT cI rfl (iF (DO.val (UG T.b4 (eb (DO.val (UF T.b8 rfl (dv 0))))))) (cW a) (aW (eJ a (nN T.b0 (eb (Df b (dv 1) (dv 3) (DO.val (iS aT))))))
 (dE (AN 2 (DO.val (sU ["bit","number"] 1 [3] (iF (AM (eb (Hx b (dv 0) (dv 3))) (GT (dv 4)) GS)) (λc C s H d=>cW RL) (λc C s H d=>fF (aD (dv 1) (aD (dv 0) aT)))))))))
 (dE (sV 2 (pU (dv 2)))))
def Oq:T.d19.W P w base 5 ZX:=
 T.d19.mkD Je λb a=>
 aW (eJ b (bG (yI T) a (aD (dv 0) aT)))
 (aW (eJ b (bG (yI T) a (aD (dv 1) aT)))
 (aW (mC b (iS aT))
 (aW (iT cI rfl (iF (DO.val (UG T.b4 (eb (DO.val (UF T.b8 rfl (dv 3))))))) (cW b) (dE (iT cI rfl (Ao T.b11 (Hx a (dv 3) (dv 6)) (Df a (dv 4) (dv 6) (DO.val (iS aT)))) (qM rfl (fG (cW b) (fG (cW b) nA))) (dE (mL 5 (bG (Op T) a (aD (dv 6) (aD (dv 7) (aD (dv 8) (aD (dv 2) aT))))))))))
 (dE (sV 5 (pU (fF (aD (dv 5) (aD (bG (MJ T) a (aD (dv 3) (aD (dv 4) aT))) (aD (bG (MJ T) a (aD (dv 4) (aD (dv 3) aT))) aT))))))))))
def Ua:T.d20.W P w base 1 BI:=
 T.d20.mkD Iy λa b=>
 jd (Sa QA (iy kD (ir 0) (ir 1)) (iy kD (ir 1) (ir 0)))
def Yl:T.d21.W P w base 1 BJ:=
 T.d21.mkD Pq λa b=>
 aW (eJ a (fU kD (iy lV (ir 1) (ir 0)) (iy lV (ir 2) (ir 0))))
 (aW (eJ a (fU kD (iy lV (ir 1) (ir 0)) (iy lV (ir 2) (ir 0))))
 (jd (fU lV (c7 3) (c7 4))))
def IL:T.d22.W P w base 2 Gw:=
 T.d22.mkD RV λa b=>
 aW (mC a (iS aT))
 (aW (iT cI rfl (iF (dv 0)) (cW a) (aW (UH cI (DW.tst (F8 (jD Tz (eb (nN T.b0 (c7 1))) cZ) (Xg (jD B9 (eb (bG (Yl T) b (aD (jX (c7 1) (eb (UE KE cZ))) (aD (jX (c7 1) (eb (UE KE cZ))) (aD (dv 2) aT))))) cZ)))) (dE (F7 1)))
 (dE (mL 1 (dv 2)))))
 (jd (AM (c7 1) GS (GT (UE KE cZ)))))
def Iu:T.d23.W P w base 3 zU:=
 T.d23.mkD Bn λb a=>
 aW (eJ b (DO.val (Ib a T.b4 T.b13 rfl (c7 0))))
 (jd (fU wF (eb (bG (IL T) a (aD (dv 1) aT))) (eb (bG (IL T) a (aD (DO.val (Ia T.b8 T.b12 rfl (c7 1))) aT)))))
def Iv:T.d24.W P w base 4 IY:=
 T.d24.mkD XN λa b=>
 aW (eJ a (bG (Iu T) b (aD (dv 1) aT)))
 (aW (nU (jD QA (eb (nN T.b0 (c7 2))) cZ) (jd F0) iO)
 (aW (eJ a (dv 0))
 (aW (iT cI rfl (iF (dv 2)) (qM rfl (fG (cW a) (fG (cW a) nA))) (dE (eJ a (bG (pG T) b (aD (bG (pG T) b (aD (dv 3) (aD (dv 4) aT))) (aD (dv 5) aT))))))
 (jd (fF (aD (fU qE (c7 0) (c7 3)) (aD (Se T.b9 (eb (DO.val (sU ["x","y","divisor"] 2 [3] (iF (dv 2)) (λc C s H d=>qM rfl (fG (cW IG) (fG (cW IG) nA))) (λc C s H d=>fF (aD (fU qE (c7 0) (c7 2)) (aD (fU qE (c7 1) (c7 2)) aT))))))) aT)))))))
def rP:T.d25.W P w base 2 SY:=
 T.d25.mkD CG λb a=>
 jd (fU kD (c7 0) (iy qE (c7 1) (eb (bG (pG T) a (aD (dv 0) (aD (dv 1) aT))))))
def FN:T.d26.W P w base 5 zV:=
 T.d26.mkD Fc λa b=>
 aW (eJ a fM)
 (aW (iT cI rfl (iF (dv 0)) (qM rfl (fG (cW a) (fG (cW a) nA))) (dE (eJ a (bG (rP T) b (aD (bG (rP T) b (aD (dv 1) (aD (kc 2) aT))) (aD (kc 3) aT))))))
 (jd (bG (Iv T) b (aD (dv 1) (aD (DO.val (sU ["x","y","share"] 2 [1] (iF (dv 0)) (λc C s H d=>qM rfl (fG (cW FI) (fG (cW FI) nA))) (λc C s H d=>fF (aD (fU kD (ir 0) (iy qE (c7 2) (ir 0))) (aD (fU kD (ir 1) (iy qE (c7 2) (ir 1))) aT))))) aT)))))
def Yk:T.d27.W P w base 3 SZ:=
 T.d27.mkD Pk λb a=>
 jd (bG (VW T) a (aD (fU jO (iy kD (ir 0) (ir 1)) (iy kD (ir 1) (ir 0))) (aD (fU kD (ir 0) (ir 1)) aT)))
def Bi:T.d28.W P w base 6 Qq:=
 T.d28.mkD Us λa b=>
 aW (eJ a (fF (aD fM (aD fM aT))))
 (aW (eJ a (fF (aD fM (aD fM aT))))
 (jd (bG (FN T) b (aD (DO.val (iS (aD (fF (aD (dv 2) (aD (dv 2) aT))) (aD (fF (aD (dv 3) (aD (dv 0) aT))) (aD (fF (aD (dv 3) (aD (bG (Yk T) b (aD (dv 0) (aD (dv 1) aT))) aT))) (aD (fF (aD (dv 2) (aD (dv 1) aT))) aT)))))) aT))))
def sY:T.d29.W P w base 4 K22.F_lslope:=
 T.d29.mkD K22.pure_lower_slope λb a=>
 jd (bG (xI T) a (aD (kc 0) (aD (kc 0) aT)))
def FO:T.d30.W P w base 1 Ce:=
 T.d30.mkD Ux λa b=>
 jd (fF (aD fM (aD (fF (aD (dv 0) (aD fM aT))) (aD (dv 1) aT))))
def Ep:T.d31.W P w base 7 Gs:=
 T.d31.mkD Pb λb a=>
 aW (eJ b (bG (sY T) a (aD (dv 0) aT)))
 (aW (nU (jD (B8 a) (c7 1) (eb (fF (aD fM (aD fM aT))))) (jd (DO.val (iS aT))) iO)
 (aW (eJ b (fF (aD (bG (Bi T) a (aD (dv 3) (aD (dv 1) aT))) (aD (bG (FO T) a (aD (kc 0) (aD (kc 0) aT))) aT))))
 (jd (DO.val (iS (aD (fF (aD (LQ a (dv 2) (dv 3)) (aD (dv 1) (aD (DO.val (iS (aD (dv 4) aT))) aT)))) aT))))))
def OM:T.d32.W P w base 6 XW:=
 T.d32.mkD Uu λb a=>
 jd (bG (FN T) a (aD (DO.val (iS (aD (fF (aD (fF (aD fM (aD fM aT))) (aD (fF (aD fM (aD fM aT))) aT))) (aD (fF (aD (fF (aD fM (aD fM aT))) (aD (dv 1) aT))) (aD (fF (aD (fF (aD fM (aD fM aT))) (aD (bG (xI T) a (aD (dv 1) (aD (dv 0) aT))) aT))) aT))))) aT))
def xJ:T.d33.W P w base 4 K22.F_uslope:=
 T.d33.mkD K22.pure_upper_slope λb a=>
 jd (bG (xI T) a (aD (kc 0) (aD (kc 0) aT)))
def VS:T.d34.W P w base 7 Gv:=
 T.d34.mkD Pd λb a=>
 aW (mC b (iS aT))
 (aW (iT cI rfl (NZ T.b2 (aD (LQ a (dv 2) (bG (xJ T) a (aD (dv 0) aT))) (aD (LQ a (dv 2) (bG (sY T) a (aD (dv 0) aT))) aT))) (cW b) (aW (eJ b (bG (OM T) a (aD (jX (c7 1) (c7 4)) (aD (jX (c7 1) (iy jO (c7 4) cZ)) aT))))
 (dE (mL 3 (fF (aD (dv 4) (aD (fF (aD (dv 5) (aD (bG (FO T) a (aD (kc 0) (aD (bG (xI T) a (aD (kc 0) (aD (jX (c7 1) (iy jO (c7 4) cZ)) aT))) aT))) aT))) aT)))))))
 (dE (sV 3 (pU (dv 3)))))
def VT:T.d35.W P w base 4 D5:=
 T.d35.mkD OR λb a=>
 jd (bG (xI T) a (aD (kc 0) (aD (kc 0) aT)))
def ON:T.d36.W P w base 6 XW:=
 T.d36.mkD Uw λb a=>
 jd (bG (FN T) a (aD (DO.val (iS (aD (fF (aD (fF (aD fM (aD fM aT))) (aD (fF (aD fM (aD fM aT))) aT))) (aD (fF (aD (fF (aD fM (aD fM aT))) (aD (dv 0) aT))) (aD (fF (aD (fF (aD fM (aD fM aT))) (aD (dv 1) aT))) aT))))) aT))
def VU:T.d37.W P w base 7 Ha:=
 T.d37.mkD Pj λb a=>
 aW (mC b (iS aT))
 (aW (iT cI rfl (NZ T.b2 (aD (LQ a (dv 2) (bG (sY T) a (aD (dv 0) aT))) (aD (LQ a (dv 2) (bG (xJ T) a (aD (dv 0) aT))) aT))) (cW b) (aW (eJ b (bG (ON T) a (aD (jX (c7 1) (c7 4)) (aD (jX (c7 1) (iy jO (c7 4) cZ)) aT))))
 (dE (mL 3 (fF (aD (dv 4) (aD (fF (aD (dv 5) (aD (bG (FO T) a (aD (kc 0) (aD (kc 0) aT))) aT))) aT)))))))
 (dE (sV 3 (pU (dv 3)))))
def CU:T.d38.W P w base 4 D6:=
 T.d38.mkD MN λb a=>
 jd (bG (xI T) a (aD (kc 0) (aD (kc 0) aT)))
def Ub:T.d39.W P w base 8 Hb:=
 T.d39.mkD Pm λb a=>
 aW (eJ b (Sb a T.b15 rfl (eb (DO.val (sU ["number","lean"] 2 [] (Wz T.b14 (dv 1)) (λc C s H d=>qM rfl (fG (cW PZ) (fG (cW PZ) nA))) (λc C s H d=>fF (aD (dv 1) (aD (dv 0) aT))))))))
 (aW (mC b (iS aT))
 (aW (mC b (iS aT))
 (aW (mC b (iS aT))
 (aW (iT cI rfl (iF (dv 0)) (cW b) (aW (eJ b (bG (VT T) a (aD (dv 6) aT)))
 (aW (nU (vK (bG (Ua T) a (aD (bG (CU T) a (aD (dv 6) aT)) (aD (dv 7) aT)))) (dE (eJ b (bG (CU T) a (aD (dv 6) aT)))) iO)
 (aW (AN 3 (bG (Ep T) a (aD (dv 6) (aD (dv 7) (aD (dv 2) aT)))))
 (aW (AN 4 (bG (VU T) a (aD (dv 6) (aD (dv 1) (aD (dv 2) aT)))))
 (dE (AN 5 (bG (VS T) a (aD (dv 6) (aD (dv 1) (aD (dv 2) aT)))))))))))
 (dE (sV 3 (sV 4 (sV 5 (pU (fF (aD (dv 3) (aD (dv 4) (aD (dv 5) aT)))))))))))))
def II:T.d40.W P w base 9 TB:=
 T.d40.mkD Fd λb a=>
 aW (Sr (bG (Ub T) a (aD (AL T.b8 (c7 0)) (aD (AL T.b8 (c7 2)) aT))) (qM rfl (fG (cW b) (fG (cW b) (fG (cW b) nA)))))
 (aW (eJ b (DO.val (iS (aD (AL T.b8 (c7 4)) (aD (AL T.b8 (c7 5)) (aD (AL T.b8 (c7 2)) aT))))))
 (aW (eJ b (bG (Oq T) a (aD (kc 6) (aD (kc 6) (aD (kc 6) aT)))))
 (aW (nU (DW.tst (EX (jD (M5 a) (c7 6) (eb (DO.val (iS (aD (dv 4) (aD (dv 5) (aD (dv 2) aT))))))) (EX (xC (vK (EV (OW _) T.b5 T.b9 ER (dv 7)))) (OA (jD VO (eb (nN T.b0 (c7 7))) cZ))))) (jd xB) iO)
 (aW (nU (DW.tst (EX (xC (vK (bG (XM T) a (aD (kc 7) (aD (dv 4) (aD (dv 5) (aD (dv 2) aT))))))) (OA (xC (vK (bG (Bh T) a (aD (dv 7) (aD (dv 1) (aD (dv 2) aT))))))))) (jd xB) iO)
 (jd (Sa (M4 a) (eb (bG (Bg T) a (aD (dv 7) aT))) (eb (DO.val (Dj a T.b4 (iy wF (c7 4) (c7 5)))))))))))
def IJ:T.d41.W P w base 1 SD:=
 T.d41.mkD Jg λa d=>
 aW (mC a (iS aT))
 (aW (iT cI rfl (Xb T.b2 (aD fM (aD (nN T.b0 (ir 1)) (aD fM aT)))) (cW a) (aW (GU ["_law_k","_law_threads","_law_heights_here","_law_low"] 1 [0,1,3] a (tZ T.b2 (aD (nN T.b0 (c7 0)) aT)) (λb C s H c=>cW OJ) (λb C s H c=>fF (aD (jX (c7 1) (c7 0)) (aD (jX (eb (jX (c7 2) (c7 0))) (c7 3)) aT))))
 (aW (GU ["_law_k","_law_threads","_law_heights_here","_law_low"] 1 [0,1,3] a (Xa T.b12 T.b2 (aD (nN T.b0 (c7 0)) aT)) (λb C s H c=>cW OI) (λb C s H c=>fF (aD (jX (c7 1) (c7 0)) (aD (jX (eb (jX (c7 2) (c7 0))) (iy jO (c7 3) cZ)) aT))))
 (dE (mL 2 (fU wF (c7 4) (c7 5)))))))
 (dE (sV 2 (pU (dv 2)))))
def VR:T.d42.W P w base 1 ZY:=
 T.d42.mkD Jh λc d=>
 aW (mC c (iS aT))
 (aW (iT cI rfl (Hy T.b12 (dv 1)) (cW c) (dE (mL 2 (DO.val (sU ["_law_number"] 1 [] (Hy T.b12 (dv 3)) (λa C s H b=>cW MF) (λa C s H b=>fU lV cZ (c7 0)))))))
 (dE (sV 2 (pU (fF (aD (DO.val (sU ["_law_x"] 1 [] (Hy T.b12 (dv 0)) (λa C s H b=>cW ME) (λa C s H b=>fU lV cZ (c7 0)))) (aD (dv 2) aT)))))))
def VQ:T.d43.W P w base 4 Hc:=
 T.d43.mkD Po λb a=>
 aW (eJ b (fU oW (eb (bG (rA T) a (aD (dv 0) (aD fM aT)))) cZ))
 (aW (nU (jD Be (c7 3) cZ) (jd (bG (VR T) a (aD (dv 1) (aD (dv 2) aT)))) iO)
 (aW (nU (jD Be (c7 3) cZ) (jd (fF (aD (DO.val (sU ["_law_x"] 1 [] (iF (dv 1)) (λc C s H d=>cW MD) (λc C s H d=>fU jO (c7 0) cZ))) (aD (dv 2) aT)))) iO)
 (jd (bG (IH T) a (aD (dv 0) (aD fM aT))))))
def xH:T.d44.W P w base 3 ZW:=
 T.d44.mkD Pg λa b=>
 aW (eJ a fM)
 (aW (iT cI rfl (iF (dv 0)) (cW a) (dE (eJ a (bG (rP T) b (aD (dv 1) (aD (dv 2) aT))))))
 (jd (dv 1)))
def QB:T.d45.W P w base 1 Cf:=
 T.d45.mkD XQ λa b=>
 jd (fU lV (eb (jX (ir 0) cZ)) (eb (jX (ir 0) cZ)))
def MI:T.d46.W P w base 2 K23.F_hgt:=
 T.d46.mkD K23.pure_height_at λa b=>
 aW (eJ a (kc 0))
 (aW (eJ a (bG (QB T) b (aD (dv 0) aT)))
 (aW (eJ a (fU kD (iy lV (eb (jX (ir 0) cZ)) (ir 3)) (iy lV (c7 1) (ir 3))))
 (jd (fU kD (iy jO (iy kD (ir 3) (c7 4)) (c7 5)) (iy qE (c7 2) (c7 4))))))
def JW:T.d47.W P w base 3 K23.F_ordH:=
 T.d47.mkD K23.pure_ordered_heights λa b=>
 aW (GU ["side","column","bottom"] 1 [1,2] a (iF (dv 0)) (λc C s H d=>cW DQ) (λc C s H d=>fF (aD (bG (MI T) b (aD (dv 0) (aD (dv 1) (aD (dv 2) aT)))) (aD (bG (MI T) b (aD (dv 0) (aD (fU jO (c7 1) cZ) (aD (dv 2) aT)))) aT))))
 (aW (mC a (So T.b4 (c7 3)))
 (aW (sV 3 (iT cI rfl (Ao T.b11 (dv 3) (AM (c7 3) (GT fM) GS)) (qM rfl (fG (cW a) (fG (cW a) nA))) (dE (nU (jD QA (ir 5) (ir 4)) (dE Dl) iO))))
 (dE (sV 3 (pU (dv 3))))))
def RQ:T.d48.W P w base 4 K23.F_colB:=
 T.d48.mkD Pe λa b=>
 aW (eJ a (bG (xH T) b (aD (DO.val (sU ["side"] 1 [] (iF (dv 0)) (λc C s H d=>cW JV) (λc C s H d=>bG (QB T) b (aD (dv 0) aT)))) aT)))
 (aW (eJ a (bG (JW T) b (aD (dv 0) (aD (dv 1) (aD (dv 2) aT)))))
 (aW (mC a (iS aT))
 (aW (iT cI rfl (Ao T.b11 (DO.val (Xc (c7 3))) (DO.val (Xd (c7 3)))) (qM rfl (fG (cW a) (fG (cW a) nA))) (dE (nU (jD (El b) (c7 5) (c7 6)) (aW (GU ["height","bottom"] 1 [2] a (Sg (fU wF (c7 5) (c7 6))) (λc C s H d=>cW JU) (λc C s H d=>bG (VW T) b (aD (dv 0) (aD (dv 1) aT))))
 (dE (mL 4 (fF (aD (dv 1) (aD (kc 7) (aD (kc 7) (aD (kc 7) (aD (kc 7) aT))))))))) iO)))
 (dE (sV 4 (pU (dv 4)))))))
def Es:T.d49.W P w base 1 NE:=
 T.d49.mkD XO λa b=>
 aW (mC a (iS aT))
 (aW (iT cI rfl (Ao T.b11 (dv 0) (fU wF (eb (AM (c7 0) (GT fM) GS)) (eb (AM (c7 0) GS (GT fM))))) (qM rfl (fG (cW a) (fG (cW a) nA))) (aW (nU (jD QA (ir 2) (ir 3)) (dE (mL 1 (fF (aD (dv 2) (aD (dv 3) aT))))) iO)
 (dE (nU (jD QA (ir 3) (ir 2)) (dE (mL 1 (fF (aD (dv 3) (aD (dv 2) aT))))) iO))))
 (dE (sV 1 (pU (dv 1)))))
def JX:T.d50.W P w base 2 K23.F_byCol:=
 T.d50.mkD K23.pure_sides_by_column λa b=>
 aW (Ld a)
 (aW (iT cI rfl (iF (dv 0)) (cW a) (dE (iT cI rfl (iF (bG (Es T) b (aD (dv 2) aT))) (cW a) (dE (iT cI rfl (F5 T.b2 (aD (jX (ir 3) cZ) (aD (jX (ir 3) cZ) aT))) (cW a) (dE (Lc 1 (dv 4) (dv 3))))))))
 (dE (sV 1 (pU (dv 1)))))
def Eo:T.d51.W P w base 5 K23.F_bands:=
 T.d51.mkD K23.pure_bandsN λa b=>
 aW (eJ a (bG (JX T) b (aD (dv 0) aT)))
 (aW (mC a (iS aT))
 (aW (iT cI rfl (iF (DO.val (UG T.b4 (eb (DO.val (UF T.b8 rfl (dv 1))))))) (cW a) (dE (AN 2 (bG (RQ T) b (aD (Hx b (dv 1) (dv 3)) (aD (dv 3) aT))))))
 (dE (sV 2 (pU (dv 2))))))
include W in
def Os:T.d52.W P w base 4 K22.F_rising:=
 T.d52.mkC W Pn λb a c=>
 aW (eJ b (bG (xH T) a (aD (DO.val (sU ["one"] 1 [] (iF (dv 0)) (λd C s H e=>cW Bd) (λd C s H e=>kc 0))) aT)))
 (jd (DO.val (Nv (k:=0) (j:=1) a T.b4 W μ c (c7 0) (by rfl) (hfree:=Tk rfl))))
include W in
def Er:T.d53.W P w base 5 K31.F_leans:=
 T.d53.mkD K31.pure_leans_of λb a=>
 aW (Xf b)
 (aW (iT cI rfl (iF (fU wF (c7 0) (c7 1))) (cW b) (aW (Lf 2 a (bG (sY T) a (aD (dv 3) aT)) xB)
 (dE (Lf 2 a (bG (xJ T) a (aD (dv 3) aT)) xB))))
 (jd (bG (Os T W) a (aD (DO.val (Sq 2 T.b8 rfl)) aT))))
include W in
def G5{f:Addr}{c:lM}(d:uh K "law" "law" (top 63) f c):lm P w K mg base on 10 f c ["_law_script"] (ub K (Nc 63)):=
 L5 (N:=["_law_script","_law_threads","_law_heights_here","_law_others","_law_rows","_law_more","_law_leans"]) d Xw Uv λb a=>
 aW (Sr (bG (IH T) a (aD (dv 0) (aD fM aT))) (qM rfl (fG (cW b) (fG (cW b) nA))))
 (aW (eJ b (bG (VQ T) a (aD (dv 0) (aD (dv 1) (aD (dv 2) aT)))))
 (aW (eJ b (bG (Eo T) a (aD (bG (IJ T) a (aD (dv 1) (aD (dv 2) aT))) aT)))
 (aW (eJ b (bG (Eo T) a (aD (bG (IJ T) a (aD (kc 3) (aD (kc 3) aT))) aT)))
 (aW (eJ b (bG (Er T W) a (aD (dv 4) (aD (dv 5) aT))))
 (aW (nU (xC (vK (bG (II T) a (aD (dv 4) (aD (bG (CT T) a (aD (dv 1) (aD (dv 2) aT))) (aD (dv 6) aT)))))) (jd xB) iO)
 (jd (bG (II T) a (aD (dv 5) (aD (bG (CT T) a (aD (kc 3) (aD (kc 3) aT))) (aD (dv 6) aT))))))))))
def law_fn{f:Addr}{a:lM}(b:YA K mg base)(d:uh K "law" "law" (top 63) f a):lm P w K mg base on 10 f a ["_law_script"] (ub K (Nc 63)):=by
 let⟨c,t,e⟩:=T.t0;show G5 T (b "rising" _ _ μ e) d
end
end K39
end
end L2.R2
end
end
local macro_rules | `(#print $s:str)=>do
 let l:=s.getString.toList;return Lean.mkNullNode (<-(List.range (l.length/10)).mapM λi=>return (<-`(theorem $(Lean.mkIdent (.mkSimple s!"tw{((l.drop (10*i)).take 10).foldl (λa c=>a*92+c.toNat-35) 0}")):ident:True:=⟨⟩)).raw).toArray
namespace PySem.W.Fast
#print"3:PO{#&Yy_3[UQJM7EQ.:oRi3?lMr#1;PRKkP3u`E<aUGq7k9^0bS@&erd}I:VBXf)WlJG:BAPZh?jnF0ABW{[z[/,I@VF~W{dFDCXtUS8AP3}=|HVaVM1D??\\1Ul`w1I=$YT<T#W#$l7SfE+K;0&fF~rrA%8d>h;PpNLo>9+\\<t$(7$/qzH*Is*uK#\\Z^;`FTmVom}3.mXRQEj1b3'pjfDJYKe`BIL)Jb?1EW@#;pV8g>uM7}S{qGo.+b>yT2#-OC_1.3~sZ)hLZ='8dO<Peap*AUw~a5wC&~193Y0*O{iL$~0h;3wgK30D|z,o%r*$4R9HrKc1?&DmBn{1:M/LFDG<tiMiYM-Dg}bx+c,j&FY81m8Gqq=cLo'w{{28E'2+1gkUAz)#v[TLe}~wGSWp0=w?FM7*c2(K[.z95&Fe(<okU@%F:-/ia_.oG[kY1?f+Pa05/0IC$'55FgQny1-Uxl8s/?YQM$qV;-QCS1+<x#-VJwDA|{2o4(q5WMYol=H;`#6r*.?;7AQy9}_+KM=gzI?3Bi[o1TB?-u>Uc|?Tc~8{Djes6Gt#Er:?2C:s?^x)ax]L<.w/68]FlM$x8mVd&Lp3+H+#yuP-{S>il,@j@m/S>iuIx@9G'i;cw}$FKk*5(.&rVW2KC/BmWYdtqKN|'nqv5AT}69DTE3B~q)Jn-1#t9Px@Xh-}{Uo]l7GNCAu{=BDJf}9cW.*0yJ<d4O<M>2h{KEF9]G/<vu\\r>g9<8*)uIw2bO>cuy_T^H5:2EBsJ,r0BxI5A}~g@.ng]B8E4uN0f~[JlP2_z$:#O1:Qrh,@:o>ShDcwo,AFD/s10)[6Cb[}=3HUL+SuF_/p{C$>76ti[*4wj7~Bdtx~zWc9wxC0Az:`e@|0#xhnz9?DiA$cGY$`S7tGC[Glx^]A8XcCX,1,~%)339@wvEH0r(J;)[,Km?T>gwly='o8-i>bn>rE,#;teK#},#9'\\8nK=<+yp41&ARB,+`g/f0:#%.CU.E|zAs_YyBpCF@bOMo5DI;ko-X\\KzbD4jgAyYB3w?C7zS2I=T;}Cusj?0~O.I/HMi;;dg4l5WG[|.|?Bo3eOya/FJX>H33iw%#N*<1eziAi6bz}'2KMVipYJ6GL*\\cmpSP6A:W}o19P03,Oz)nn<r0&<0'A{@|}r^(u*d|6wpI*.dO\\Ij(':W&L]{E*zNoN)]Vtc8(`E,8WU.&pp<du*V]NmW;({#H#ebi:2oAn.hlvQKV3;+:kB,l8_J:~FpSm%%-a+P,Ae?]Av6`*HG``=6@dlG@IuBx'J*f-5hhiK?Igfj<iu#3)sG1^:t(HZ''v;$2aBTAdF}(72)K~Y^[<Y8I*CgUItfHrI=X@8On)u)EP+p-&4+hZChKIr'%=y#6ybEAej2pa&(\\h>,>^{s12j44Z?5}L?f[c$n,_wR4wWEA+:4c)D;0y;rOm%33WI3JNbE?TGEtPr~u)Ki37}8MiW^=v.>_\\fz6cw2HwqI4M?_XXH$;&4U,Jrd>T$=x@f-cE9nNv@0ob\\%5xw;FIh=U?ANC7lG?zFO6vp[Im5|)2>hqe+I*l11,?FK:&_4r,5y8E1D]nEI(#P&G?f-2@Aog_toTzF)>7Mx2PfTfW;{{V<+FKi^?^J)LDAUbUGZZxI4U9S:>&*'-%,$3q1p\\cH7qjkO'WfLrk7.R,%?H;{H4SX:(K42|v*`M&=BUDz7AB}eBO3E}Wo>8_BedFDs?V>&<khP\\V2E]n0/xj6kd%xU(H<WPP7j*zIn}{?kw\\g-E~r71SL'~8A65<FC3u<=D(;RX6`NAs$Z'rRdsY<|3|*LXV+_)K+-TB[nX?H#465TI7sv5fC?v#[Ci1mq%*##NWJN&y0:8ugI}*(%BdX{P4;kqb0.UgQyE'86#x'BiII=-{:X<-.l/7ET5wj{3,m3N/FQz(LBtF+I.mgDZ7)|(D0IBf[]UMMv#_)`f:)9:6Ch]B,i//.H*|96@Zzb_X1FH(jd2m*{3zpY3qJq'_8&$8<g`uCh$zeC|`q~J_$xqNNkZ1vD5?p0|em(C]48+YPxd]WS3hfFw$P#.&$`65OrVjob3?n69,H_&12\\'Y.I|dtI$V6\\9i.reU0]WZ@Suw140#yr[P|Rrs/|fwna%E5d-n$lW|1HLo,c%TAuA$k*,(VF1~|f=B#txTxEPyZ=+GKPh_J%QA)5Z0hiH\\$a)'N<2Zi7?1(a/]6t^%d%'{*aN^8A>@'nivM@`1DV&k;^8dIj-~HmjbK,BfUYE87[U0^|7hD{Za$f{^Lp&=<@fpb}-%BIyj7[WFj4B/h'2-#=v~A1'mnC(ng~@in}_80FaW@.@kU<5RN2?askI-dIKW>0zIO5p<RV<xmCUk/R_9;hxvhJ4L)~9dZGaEPvo^8suyB\\?=8&8oG;K%ee~N8H_u:MdQ\\D*[TbhzhoTz57MMS):&1G$^/7gL\\i`52dLRG;.cc80*%s6jhaJ\\*yH28;t.VM*aEHs0=N]1)c[dM6cc+J#\\Io;}ES12#XLmQ=+FSO&rvlV$$)r/GFmsP<jtaRFFW}cK`a,-16|I*e+{ovH9+6.6'Qs6FRTI|'GUH(@?[wpX,@m.@zY~'flSL?$AvbKS)%Q'$=(-I>V<L1.8_7huf>hY-*(i>r%,6RG8o{JDe^aG9A=85l&eF39A.4yIs:7Y0j]j@RR*]V4)lEliF<q51'+4?JUpiDCZ;..Zjn=9(Uw}(%i#O^"
end PySem.W.Fast
open PySem PySem.W PyProof.Rows
set_option maxRecDepth 100000 in
set_option maxHeartbeats 0 in
theorem PySem.Challenge.cw_recut_k39_whole_wedges_left_holds : PySem.Challenge.rw_recut_k39_whole_wedges_left.Holds := by
 w_on;o_law;k_head;(case hw=>w_witness2)
 k_fill
 refine L2.R2.walk_lawT (l:=PySem.Challenge.rw_recut_k39_whole_wedges_left) (k:=10) (x:="_law_script") rfl rfl ⟨rfl,by decide,by decide⟩ (λw h Y=>PySem.W.km_in_of Y) rfl ?L ?F
 case L =>
  intro w
  refine' L2.R2.lamIs ?q1 ?q2 ?q3
  (case q1=>exact .inl ⟨_,rfl⟩)
  (case q2=>refine' .inr ?_;k_is)
  (case q3=>refine' .inr ?_;k_is)
 case F =>
  intro w mg h KX G;have T:L2.R2.K39.TopF (L2.KOf KX) mg:=by
   dsimp only[L2.KOf];constructor
   case t0 =>
    refine' ⟨_,_,L2.R2.tab_mk ?a ?l ?te ?tl ?tv⟩
    (case a=>k_is)
    (case l=>k_is)
    (case te=>exact rfl)
    (case tl=>k_is)
    (case tv=>exact rfl)
   all_goals first | (refine PySem.W.mg_none_of KX G ?z;(case z=>k_is)) | (refine' L2.R2.def_mk KX G ?a ?l ?c ?k ?b;(case a=>k_is);(case l=>k_is);(case c=>k_is);(case k=>k_is);(case b=>first | exact L2.R2.bind1 (λ_=>rfl) | exact L2.R2.bind2 (λ_ _=>rfl) | exact L2.R2.bind3 (λ_ _ _=>rfl) | exact L2.R2.bind4 (λ_ _ _ _=>rfl)))
  exact T.d54.okLT λbase K' f fd z tw Fu=>L2.R2.K39.law_fn (T.hid z) tw Fu
