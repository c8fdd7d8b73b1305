import PyProof.Rows.All
import Wide.All
import OpenK.AllK
import Wide.FinOn
import Lean
import PyProof.EqAt
import PyProof.EqKinds
import PyProof.TupleCall
import PySem.Challenge.RW_recut_k38_whole_strip
set_option Elab.async false
set_option linter.all false
set_option maxRecDepth 100000
set_option maxHeartbeats 4000000
noncomputable section
open Array renaming append_assoc->vI,append_empty->GN,forIn_toList->rB,getD->lP,getD_eq_getD_getElem?->iE,getElem?_eq_getElem->cR,getElem?_eq_none->yZ,getElem?_eq_some_iff->lQ,getElem?_toList->BA,length_toList->dD,mem_toList_iff->kD,replicate->NS,size_map->PN,toList->HX,toList_extract->BK,toList_push->HY
open Array.Perm renaming mem_iff->GM,refl->qU
open Bool renaming and_eq_true->jI,and_false->BM,and_true->xF,beq_eq_decide_eq->oR,eq_iff_iff->qV,false_and->BN,false_eq_true->aS,false_ne_true->cQ,false_or->UG,not_false->nH,not_true->fZ,or_eq_true->NU,or_false->xG
open Classical renaming byContradiction->bK
open False renaming elim->oA
open ForInStep renaming yield->NV
open Function renaming comp->FH
open Int renaming add_le_add->QF,add_nonneg->vM,add_zero->uU,dvd_coe_gcd->NW,dvd_mul_right->wK,dvd_refl->pW,dvd_trans->lH,ediv_mul_cancel->uJ,ediv_one->IF,emod_lt_of_pos->vN,emod_nonneg->AH,eq_of_mul_eq_mul_left->cV,eq_of_mul_eq_mul_right->iK,fdiv_eq_ediv_of_nonneg->cS,gcd->cO,gcd_dvd_left->nM,gcd_dvd_right->mP,gcd_ediv_gcd_ediv_gcd->wH,gcd_pos_of_ne_zero_left->lD,le_of_dvd->xH,le_of_lt->aK,le_of_mul_le_mul_right->dQ,le_refl->rM,le_trans->zE,lt_asymm->pX,lt_irrefl->nD,lt_of_mul_lt_mul_right->pK,lt_or_eq_of_le->iM,lt_or_gt_of_ne->GO,lt_trichotomy->fN,mul_assoc->lI,mul_comm->dS,mul_dvd_mul->AI,mul_ediv_add_emod->BB,mul_ediv_cancel'->jJ,mul_ediv_cancel_left->gJ,mul_eq_zero->tY,mul_le_mul_of_nonneg_left->dY,mul_le_mul_of_nonneg_right->aX,mul_lt_mul_left->EZ,mul_lt_mul_of_pos_left->lR,mul_lt_mul_of_pos_right->iF,mul_ne_zero->AJ,mul_neg_of_neg_of_pos->fU,mul_neg_of_pos_of_neg->eJ,mul_nonneg->bT,mul_nonpos_of_nonneg_of_nonpos->eU,mul_nonpos_of_nonpos_of_nonneg->dP,mul_one->rN,mul_pos->aJ,mul_zero->mQ,natAbs_dvd_natAbs->oS,natAbs_mul->iZ,natAbs_neg->QG,natAbs_of_nonneg->BV,natCast_nonneg->vO,ne_of_gt->rS,ne_of_lt->zF,neg_eq_zero->NX,neg_lt_neg_iff->GP,neg_mul->MZ,neg_pos_of_neg->GQ,not_le->fG,not_lt->fP,ofNat_natAbs_of_nonpos->vP,pos_of_mul_pos_left->iH,sub_pos_of_lt->IG,toNat_natCast->pD,toNat_of_nonneg->FA,zero_mul->rT
open List renaming Nodup->nE,all_cons->FI,all_eq_true->pY,any_cons->FJ,any_eq_false->II,any_toArray->KW,append_assoc->gA,append_inj_left'->mC,append_inj_right'->gS,append_nil->eH,append_of_mem->oB,concat_eq_append->sO,cons_append->aW,dropLast_concat->kE,drop_eq_getElem_cons->gR,drop_length->KY,drop_zero->QI,eq_nil_of_length_eq_zero->kF,eq_nil_or_concat->fF,ext_getElem->KZ,ext_getElem?->wN,filterMap_cons->fI,filter_append->lS,filter_congr->wO,filter_cons->sS,filter_filter->GR,find?_cons->oJ,flatMap_append->kX,flatMap_cons->IJ,foldl_append->wP,foldl_cons->tZ,forIn_cons->oK,forIn_nil->vQ,getD_eq_getElem?_getD->eD,getElem?_append_left->dN,getElem?_append_right->dR,getElem?_cons_succ->aE,getElem?_cons_zero->aB,getElem?_drop->GS,getElem?_eq_getElem->aG,getElem?_eq_none->iX,getElem?_eq_some_iff->cB,getElem?_map->cG,getElem?_range->uK,getElem?_replicate->jK,getElem?_set_ne->iO,getElem?_set_self->gT,getElem?_take->GT,getElem?_zip_eq_some->qJ,getElem_drop->IK,getElem_mem->pZ,getElem_of_mem->eB,length->eW,length_append->bR,length_cons->bP,length_drop->nN,length_dropLast->BY,length_eq_zero_iff->nO,length_erase_of_mem->xI,length_filter_le->oT,length_map->aY,length_nil->dG,length_pos_iff->jT,length_pos_of_mem->zG,length_range->IL,length_replicate->mD,length_reverse->uL,length_singleton->sP,length_take->nQ,lookup_cons->sT,map->qS,map_append->cI,map_congr_left->kY,map_cons->aR,map_eq_append_iff->oC,map_eq_cons_iff->kG,map_id->mR,map_map->dF,map_nil->bO,map_reverse->LA,map_take->kB,mem_append->bQ,mem_append_left->dC,mem_append_right->bD,mem_cons->aO,mem_cons_of_mem->bH,mem_cons_self->dU,mem_erase_of_ne->BZ,mem_filter->jE,mem_filterMap->GU,mem_map->bG,mem_map_of_mem->cT,mem_of_getElem?->eY,mem_of_mem_drop->CB,mem_of_mem_take->kH,mem_range->kJ,mem_reverse->qA,mem_singleton->cJ,nil_append->bF,nodup_append->jQ,nodup_cons->fS,nodup_nil->QJ,nodup_range->LB,not_mem_nil->eM,of_mem_zip->uA,pairwise_append->kK,pairwise_cons->cN,pairwise_iff_getElem->mI,pairwise_map->pG,pairwise_reverse->oU,pairwise_singleton->nR,range->fH,range_succ->NY,range_succ_eq_map->zH,replicate->fL,replicate_zero->FC,reverse_cons->wQ,set_cons_succ->aP,set_cons_zero->aM,singleton_append->BE,size_toArray->bI,take_append_drop->oV,take_length->sU,take_of_length_le->oD,take_sublist->IM,take_succ->nS,take_succ_cons->uM,take_zero->CC,toArray->lE,zip->QK,zipIdx_cons->LC,zipIdx_nil->NZ,zipWith->lF,zipWith_cons_cons->rW,zip_cons_cons->rE
open List.Pairwise renaming map->wM,nil->pF,of_map->BW,sublist->mB
open List.Perm renaming append_left->BC,refl->BX
open List.Sublist renaming refl->IH
open List.cons renaming injEq->gW
open Nat renaming add_mod->NA,add_mod_right->IN,eq_zero_of_zero_dvd->yD,eq_zero_or_pos->vR,gcd_comm->zJ,gcd_zero_right->GV,le_mul_of_pos_left->rX,le_mul_of_pos_right->kP,le_of_dvd->xJ,le_of_eq->zK,le_of_lt->oE,le_of_lt_succ->mS,le_of_succ_le->IP,le_refl->bU,le_succ->CD,le_succ_of_le->rY,le_trans->fR,lt_irrefl->jB,lt_of_le_of_lt->GW,lt_of_lt_of_le->cF,lt_or_eq_of_le->GX,lt_succ_of_lt->jR,lt_succ_self->qB,lt_trans->qC,lt_trichotomy->IQ,min_eq_left->OA,min_self->IR,mod_eq_of_lt->hU,mod_lt->lU,mul_le_mul_left->FE,mul_le_mul_right->CF,ne_of_gt->fC,ne_of_lt->cE,not_lt_zero->oM,strongRecOn->OB,sub_le_sub_right->CG,sub_zero->zL,succ_le_succ->LF,succ_ne_self->sV,zero_add->uW,zero_le->gH
open Nat.Coprime renaming dvd_of_dvd_mul_left->sL
open Nat.succ renaming inj->rZ
open Option renaming bind_some->LG,getD_none->LH,getD_some->lM,map_some->qX,none->CH
open Option.some renaming inj->eK,injEq->sA
open Or renaming inl->dA,inr->cX
open Prod renaming ext->lV,fst->Ad
open Prod.mk renaming injEq->fK
open PyProof.Rows renaming assignInOrder_cons->vV,assignInOrder_nil->IY,callWith_builtin1->nT,callWith_type1->fO,get?_update_seq->OG,listUpdate_at->UW,slicePart_none->TV,slot_tuple_getitem->sM,subscriptTail_builtinR->AG
open PyProof.Rows.IsTup renaming new->KU
open PyProof.Rows.KeyOrd renaming kle_antisymm->FB,kle_of_klt->pE,kle_refl->kT,kle_trans->sR
open PySem renaming Around->dJ,FuncData->nK,Keyword->qW,Program->cC,Shared->aH,Value->aF,World->cZ,builtinLookup_eq_fast->mE,call->QM,callType_codes->QS,call_list_seq->UN,call_meets->zP,codeAny_builtin->iP,codeAny_mono->uY,codeAny_of_tree->OF,code_list_new->UR,concat_meets->JA,evalPart_none->UU,intBits_le_iff->RX,isSubtype_stop->RY,isSubtype_type->RZ,list_append->IT,mem_of_lookup->kZ,noFill_tuple_add->MH,plainId_quiet->jP,seq_tuple_add->VG,sizeLine_eq->lK,sub_zip->ZX,typeLookup_type->qZ,wpAny_Call_Name_kw->gL,wpAny_Name->UA,wpAny_askSetting->qH,wpAny_assign_Name->KQ,wpAny_attempt->xX,wpAny_bind->aA,wpAny_bindName->UB,wpAny_callSpecial?_slot->iJ,wpAny_call_entry->iR,wpAny_comprehension_free->xY,wpAny_eqIsQuiet_tuple->BJ,wpAny_execs_cons->MX,wpAny_execs_nil->uH,wpAny_field->gE,wpAny_fieldsOf->UC,wpAny_forIn_list->tJ,wpAny_handled->VL,wpAny_holding->gM,wpAny_isInstance->tK,wpAny_letGo->nY,wpAny_loadPart'->uI,wpAny_mono->iW,wpAny_newList->VM,wpAny_newObj_type->gB,wpAny_newTuple->EH,wpAny_of_eq->rQ,wpAny_onRaise->xZ,wpAny_passesOwn->mM,wpAny_pure->aN,wpAny_pyIter_list->kR,wpAny_pyIter_slot->KR,wpAny_pyIter_tuple->lZ,wpAny_rule->wF,wpAny_runValue->UD,wpAny_seqItems->fX,wpAny_setEntries_of->uS,wpAny_setField->EI,wpAny_setField_rec->kA,wpAny_setState_of->jS,wpAny_specialOf->mN,wpAny_standAt->GL,wpAny_storeSet_of->KS,wpAny_truthy_bool->pJ,wpAny_tryCatch->wG,wpAny_typeOf->sK,wpAny_updateSeq->iQ,wpAny_updateSeq_pair->tX
open PySem.Around renaming under_plainId->gG
open PySem.Builtin renaming divisionGoesByPylong->oI
open PySem.Builtin.Builtins renaming bindParams->uT
open PySem.Builtin.Int renaming intBits->EY
open PySem.Builtin.List renaming listExtendWith->fY,listItems->nZ,listLengthHint->jM,listSameRef->iY,listTooLong->mY,listUpdate->rK
open PySem.Builtin.Slice renaming sliceAdjust->qI,sliceApplied->vJ,slicePlaces->mH
open PySem.Builtin.SmallTypes renaming nextOf->dM,ownedTupleHandOut->qN,ownedTupleIsFree->eQ
open PySem.Builtin.Tuple renaming tupleExact->mZ
open PySem.Calls renaming Name_function_global->vK,callWith_builtin->zA,spliced_cons->rD,spliced_nil->rR
open PySem.F renaming args_tuple_add_2->xK,entry_extend_loop->wI,entry_tuple_add->yE,plainAttrs_list->kQ,plain_extend_loop->iS,plain_set_new->BF,slot_dict_setdefault->uB,slot_list_append->xL,slot_tuple_add->zM,type_list_append->xM
open PySem.Heap renaming ExtBut->MY,IsList->BU,IsTuple->zD,SameBut->mO,get?_push_of_some->aU,get?_push_size->cD,get?_update_other->dE,get?_update_self->fE,lt_size->bC,size_push->gU
open PySem.Heap.SameBut renaming update->iB
open PySem.IsL renaming update->LI
open PySem.NameKind renaming cell->tL,free->jA
open PySem.Obj renaming data_mapFields->GZ,mapSeq->eG,putSet->pL
open PySem.Paired renaming length->UI
open PySem.PassesOwn renaming never->cU
open PySem.SeqAt renaming EqAt->HA,RcAt->vU,notIn_listAt->HF
open PySem.SeqAt.EqAt renaming int_int->vT,of_refs->HC,same->uC
open PySem.SetFound renaming there->QN
open PySem.SetTable renaming grown->QO
open PySem.SetTable.below renaming go->QP
open PySem.SetTable.layClean renaming free->tQ
open PySem.SetTable.probe renaming go->Cz
open PySem.Shared renaming TypeIs->FK,heap->mT
open PySem.Str renaming ofString->mU
open PySem.Value renaming bool->HG,int->LK,isInt->CJ,isStrOf->UL,none->gK,ref->gD,str->LL,type->iU
open PySem.W renaming Frag->aI,OpenLaw->OC,WalkO->UJ,cellsFrom_some->zN,codeIn->vS,findIn->QL,fnOf->qD,instObj->AK,kas_asc->wU,kas_bin->YW,kas_count->sZ,kas_desc->lY,kas_descPart->qE,kas_place->yL,kas_rev->ER,kas_sort->CT,kas_tail3->vE,keepIn->pM,kia_one->gX,kitOne->lW,kitx_dict->IS,kitx_list->wR,lookIn->CI,methodObj->wS,nsIn->uX,plainGet->LJ,tabIn->UK
open PySem.pickOrder renaming go->KB
open Rat renaming intCast_add->oN,intCast_inj->AL,intCast_lt_intCast->zO,intCast_mul->gY
open Sum renaming inl->iG,inr->EJ
open True renaming intro->rF
set_option compiler.extract_closed false
open Option renaming some→ψ,none→ξ
open Bool renaming true→ζ,false→χ
theorem qz1{a b c d:Nat}(h:b<=d):min a (b-c)<=d:=Nat.le_trans (Nat.min_le_right ..) (Nat.le_trans (Nat.sub_le ..) h)
theorem qz2{n k j:Nat}(h:n-j=k+1):n-(j+1)=k:=congrArg Nat.pred h
theorem qz3{n:Nat}{a:Int}(h:n<=(-a).natAbs):n<=a.natAbs:=Int.natAbs_neg a▸h
theorem qz4{n i:Nat}(h:i<n):n-(i+1)<n-i:=Nat.sub_lt_sub_left h (Nat.lt_succ_self i)
theorem qz5{n j:Nat}(h:n-(j+1)=0)(k:j+1<=n):n=j+1:=Nat.le_antisymm (Nat.sub_eq_zero_iff_le.mp h) k
theorem qz6(n:Nat):(-1+(n:Int)).toNat=n-1:=by rw[Int.add_comm];exact Int.toNat_sub n 1
theorem qz7{v:Int}{n:Nat}(h:¬v<0):min v n=(min v.toNat n:Nat):=by
 obtain⟨m,rfl⟩:=Int.eq_ofNat_of_zero_le (Int.not_lt.mp h);show(if(m:Int)<=n then _ else _)=((if m<=n then m else n:Nat):Int);simp only[Int.ofNat_le];split<;>rfl
theorem qz8{v:Int}{n:Nat}(h:¬v<0):max 0 (min v n)=(min v.toNat n:Nat):=by rw[qz7 h];exact Int.max_eq_right (Int.natCast_nonneg _)
theorem ν {p:Prop} (h:p:=by lia):p:=h
theorem η {p:Prop} (h:p:=by decide):p:=h
theorem δ {p:Prop} (h:p:=by simp):p:=h
theorem ε {p:Prop} (h:p:=by grind):p:=h
theorem θ {p:Prop} (h:p:=by simp;lia):p:=h
theorem ι {p:Prop} (h:p:=by decide +kernel):p:=h
abbrev ω (α:Type):=List α
def υ:=@if_neg
def Ω:=@if_pos
def Ψ:=@absurd
def Φ:=@congrArg
abbrev Δ{α:Type}(p:PySem.Program)(w:PySem.World):=@PySem.wpAny α (PySem.model p w)
local macro_rules | `(tactic|walk_at "vis")=>`(tactic|first |exact dA rfl |exact cX (dA rfl) |exact cX (cX rfl) |exact cX rfl)
local macro_rules | `(tactic|walk_at "loc")=>`(tactic|first |exact .inl rfl |exact .inr rfl |assumption)
abbrev PySem.Shared.z(s:PySem.Shared):=s.heap.objs.size
namespace L2
open PySem PySem.Spec PyProof.Rows
abbrev f6:=Sum Int Str
def SC:f6->aF->Bool
 | .inl k,v=>CJ k v
 | .inr x,v=>UL x v
def S5(w:cZ):f6->Int
 | .inl k=>hashInt k
 | .inr x=>hashStr w x
theorem lJ:∀{k:f6}{v:aF},SC k v=ζ->(∃i t,k=iG i/\v=LK i t)\/(∃x t,k=EJ x/\v=LL x t)
 | .inl i,v,h=>by
  obtain⟨t,e⟩:=Value.isInt_shape (k:=i) (v:=v) h;exact .inl ⟨i,t,rfl,e⟩
 | .inr x,v,h=>by
  obtain⟨t,e⟩:=Value.isStrOf_shape (x:=x) (v:=v) h;exact .inr ⟨x,t,rfl,e⟩
def Li(i:Int)(t:Tok):SC (.inl i) (.int i t)=ζ:=by simp[SC,CJ]
def Lj(x:Str)(t:Tok):SC (.inr x) (.str x t)=ζ:=by simp[SC,UL]
def Zk(a b:Int):decide ((iG a:f6)=iG b)=(a == b):=by
 by_cases e:a=b
 ·subst e;simp
 ·have h:¬(iG a:f6)=iG b:=λq=>e (Sum.inl.inj q);rw[decide_eq_false h];exact(beq_eq_false_iff_ne.mpr e).symm
def Zn(a b:Str):decide ((EJ a:f6)=EJ b)=decide (a=b):=by
 by_cases e:a=b
 ·subst e;simp
 ·have h:¬(EJ a:f6)=EJ b:=λq=>e (Sum.inr.inj q);rw[decide_eq_false h,decide_eq_false e]
def Zl(a:Int)(b:Str):decide ((iG a:f6)=EJ b)=χ:=decide_eq_false (λq=>nomatch q)
def Zm(a:Str)(b:Int):decide ((EJ a:f6)=iG b)=χ:=decide_eq_false (λq=>nomatch q)
def oG(prog:cC)(w:cZ):PySem.KeyKind prog w f6 where
 is:=SC
 hash:=S5 w
 inj:=λv a b ha hb=>by
  rcases lJ ha with⟨i,t,rfl,rfl⟩ | ⟨x,t,rfl,rfl⟩
  ·rcases lJ hb with⟨j,u,rfl,e⟩ | ⟨y,u,rfl,e⟩
   ·injection e with e1 _;rw[e1]
   ·exact nomatch e
  ·rcases lJ hb with⟨j,u,rfl,e⟩ | ⟨y,u,rfl,e⟩
   ·exact nomatch e
   ·injection e with e1 _;rw[e1]
 byValue:=λk v h=>by
  rcases lJ h with⟨i,t,rfl,rfl⟩ | ⟨x,t,rfl,rfl⟩ <;> rfl
 pyHash:=λhv h=>by
  rcases lJ hv with⟨i,t,rfl,rfl⟩ | ⟨x,t,rfl,rfl⟩
  ·exact wpAny_pyHash_int h
  ·exact wpAny_pyHash_str h
 eqBool:=λhu hv h=>by
  rcases lJ hu with⟨i,t,rfl,rfl⟩ | ⟨x,t,rfl,rfl⟩
  ·rcases lJ hv with⟨j,u,rfl,rfl⟩ | ⟨y,u,rfl,rfl⟩
   ·rw[Zk] at h;exact wpAny_eqBool_int h
   ·rw[Zl] at h;exact SeqAt.EqAt.int_str i t y u _ _ _ _ h
  ·rcases lJ hv with⟨j,u,rfl,rfl⟩ | ⟨y,u,rfl,rfl⟩
   ·rw[Zm] at h;exact SeqAt.EqAt.str_int x t j u _ _ _ _ h
   ·rw[Zn] at h;exact wpAny_eqBool_str h
 «strs»:=λk x t v h=>by
  rcases lJ h with⟨i,u,rfl,e⟩ | ⟨y,u,rfl,e⟩
  ·exact nomatch e
  ·injection e with e1 _;subst e1;cases v <;> rfl
def Cc(prog:cC)(w:cZ)(i:Int)(t:Tok):(oG prog w).is (.inl i) (.int i t)=ζ:=Li i t
def Cd(prog:cC)(w:cZ)(x:Str)(t:Tok):(oG prog w).is (.inr x) (.str x t)=ζ:=Lj x t
inductive V where
 |non |bl (b:Bool) |int (i:Int) |str (x:Str) |byt (b:Array UInt8) |flt (b:UInt64) |ref (a:Addr) |ty (n:String)
 deriving DecidableEq
def RelV:V->aF->Prop
 | .non,u=>u=gK
 | .bl b,u=>u=HG b
 | .int i,u=>∃t,u=LK i t
 | .str x,u=>∃t,u=LL x t
 | .byt b,u=>∃t,u=Value.bytes b t
 | .flt b,u=>∃t,u=Value.float b t
 | .ref a,u=>u=gD a
 | .ty n,u=>u=iU n
abbrev au:ω V->ω aF->Prop:=Paired RelV
def au.length(r:au xs us):xs.length=us.length:=UI r
theorem au.get:∀{xs:ω V}{us:ω aF}{i:Nat}{x:V},au xs us->xs[i]?=ψ x->∃u,us[i]?=ψ u/\RelV x u
 |_,_,_,_,.nil,e=>by simp at e
 |_,_,0,_,.cons r _,e=>by simp at e;subst e;exact⟨_,rfl,r⟩
 |_,_,i+1,x,.cons _ t,e=>by
  obtain⟨u,h1,h2⟩:=au.get (i:=i) (x:=x) t (by simpa using e);exact⟨u,by simpa using h1,h2⟩
theorem au.append:∀{xs ys:ω V}{us ws:ω aF},au xs us->au ys ws->au (xs++ys) (us++ws)
 |_,_,_,_,.nil,s=>s
 |_,_,_,_,.cons r t,s=>.cons r (au.append t s)
theorem au.take:∀{xs:ω V}{us:ω aF}(n:Nat),au xs us->au (xs.take n) (us.take n)
 |_,_,0,_=>.nil
 |_,_,_+1,.nil=>.nil
 |_,_,n+1,.cons r t=>.cons r (au.take n t)
theorem au.drop:∀{xs:ω V}{us:ω aF}(n:Nat),au xs us->au (xs.drop n) (us.drop n)
 |_,_,0,r=>r
 |_,_,_+1,.nil=>.nil
 |_,_,n+1,.cons _ t=>au.drop n t
def mj:Option V->Option aF->Prop
 |some v,ψ u=>RelV v u
 |none,ξ=>True
 |_,_=>False
def KV{a:Type}:ω (a×V)->ω (a×aF)->Prop:=Paired λ(p:a×V) (q:a×aF)=>p.1=q.1/\RelV p.2 q.2
def kV:f6->V
 | .inl i=>.int i
 | .inr x=>.str x
inductive HO where
  |lst (xs:List V)
  |tup (xs:List V)
  |dK (kvs:List (f6×V)) |dT (kvs:List (List f6×V))
  |set (S:Int->Bool) (n:Nat)
  |ins (C dx:Addr) (fs:List (Str×V))
  |own (x:Addr)
  |xd (fs:List (Str×V))
  |met (f x:Addr)
  |rng (lo hi:Int)
  |frz (o:Obj) (u:HO)
  |tbl (ps:Array aF)
  |ext (φ:Heap->Prop)
abbrev Hp:=Addr->Option HO
def ck(H:Hp)(a:Addr)(o:HO):Hp:=λb=>if b=a then ψ o else H b
def gN:ck H a o a=ψ o:=by unfold ck;rw[Ω rfl]
def dX(h:b≠a):ck H a o b=H b:=by unfold ck;rw[υ h]
def fD{H:Hp}{a b:Addr}{o:HO}(h:H a=ψ o)(h':H b=ξ):a≠b:=by
 intro e;subst e;rw[h] at h';cases h'
section
variable(P:cC)(w:cZ)
def ca(H:Hp)(h:Heap)(a:Addr):HO->Prop
 | .lst xs=>xs.length<=sizeLine/\∃(its:List aF)(n:Nat),au xs its/\h.get? a=ψ {cls:=.type "list",data:=.seq its.toArray n}
 | .tup xs=>xs.length<=sizeLine/\∃its:List aF,au xs its/\IsTup h a its.toArray
 | .dK kvs=>kvs.length<=sizeLine/\(a == sysModules)=χ/\∃vs,KV kvs vs/\h.DictOf (oG P w) a vs
 | .dT kvs=>kvs.length<=sizeLine/\(a == sysModules)=χ/\∃xs:List (List f6×Addr×aF),
   Paired (λ(p:ω f6×V) (q:ω f6×Addr×aF)=>p.1=q.1/\H q.2.1=ψ (.tup (p.1.map kV))/\RelV p.2 q.2.2) kvs xs /\
   ∃o es ep,h.get? a=ψ o/\o.ExactDict/\o.data = .dict es ep/\es.toList=xs.map (entryOfKey (tupleKind (oG P w)))/\(xs.map (·.1)).Nodup
 | .set S n=>h.SetOf (intKind P w) a S n
 | .ins C dx fs=>H dx=ψ (.own a)/\fs.length<=1000/\dx≠a/\h.get? a=ψ (AK C dx) /\
   ∃mA,h.Ns1 dx mA/\(∀f,mj (fs.lookup f) (mA f))/\PySem.Within mA (fs.map (·.1))
 | .own _=>∃o,h.get? a=ψ o
 | .xd fs=>∃mA,h.Ns1 a mA/\∀f,mj (fs.lookup f) (mA f)
 | .rng lo hi=>∃t u v,h.get? a=ψ {cls:=.type "range",data:=.fields #[.int lo t,.int hi u,.int 1 v]}
 | .frz o u=>h.get? a=ψ o/\ca H h a u
 | .tbl ps=>h.get? a=ψ {cls:=.none,data:=.fields ps}
 | .met f x=>h.get? a=ψ (wS (.ref f) (.ref x))
 | .ext b=>b h/\(∃o,h.get? a=ψ o)/\∀h1 h2:Heap,b h1->(∀o,h1.get? a=ψ o->h2.get? a=ψ o)->b h2
def ga(H:Hp)(h:Heap):Prop:=∀a o,H a=ψ o->ca P w H h a o
end
section
variable{a:Addr}
theorem ca.lt(x:ca P w H h a o):a<h.objs.size:=by
 cases o with
 |lst xs=>obtain⟨_,_,_,_,e⟩:=x;exact bC e
 |tup xs=>obtain⟨_,_,_,p⟩:=x;exact p.lt
 |dK kvs=>obtain⟨_,_,_,_,o,_,_,e,_⟩:=x;exact bC e
 |dT kvs=>obtain⟨_,_,_,_,o,_,_,e,_⟩:=x;exact bC e
 |set S n=>obtain⟨o,_,_,_,e,_⟩:=x;exact bC e
 |ins C dx fs=>obtain⟨_,_,_,e,_⟩:=x;exact bC e
 |own y=>obtain⟨_,e⟩:=x;exact bC e
 |xd fs=>obtain⟨_,⟨_,_,_,e,_⟩,_⟩:=x;exact bC e
 |rng lo hi=>obtain⟨_,_,_,e⟩:=x;exact bC e
 |frz ob u=>obtain⟨e,_⟩:=x;exact bC e
 |tbl ps=>exact bC (show h.get? a=ψ _ from x)
 |met f y=>exact bC (show h.get? a=ψ _ from x)
 |ext b=>obtain⟨_,⟨_,e⟩,_⟩:=x;exact bC e
theorem Paired.mapP{α β:Type}{F G:α->β->Prop}:∀{l₁:ω α}{l₂:ω β},Paired F l₁ l₂->(∀a b,F a b->G a b)->Paired G l₁ l₂
 |_,_,.nil,_=>.nil
 |_,_,.cons r t,f=>.cons (f _ _ r) (Paired.mapP t f)
theorem ca.stay(x:ca P w H h a o)(k:∀b u,(b=a\/H b=ψ (.own a))->h.get? b=ψ u->h'.get? b=ψ u)
  (ho:∀b,H b=ψ (.own a)->H' b=ψ (.own a)) (ht:∀b xs,H b=ψ (.tup xs)->H' b=ψ (.tup xs)):ca P w H' h' a o:=by
 induction o with
 |lst xs=>obtain⟨z,its,n,r,e⟩:=x;exact⟨z,its,n,r,k _ _ (.inl rfl) e⟩
 |tup xs=>obtain⟨z,its,r,ob,e,c⟩:=x;exact⟨z,its,r,ob,k _ _ (.inl rfl) e,c⟩
 |dK kvs=>obtain⟨z,y,vs,r,ob,es,ep,e,c⟩:=x;exact⟨z,y,vs,r,ob,es,ep,k _ _ (.inl rfl) e,c⟩
 |dT kvs=>
  obtain⟨z,y,xs,r,ob,es,ep,e,c⟩:=x;exact⟨z,y,xs,Paired.mapP r λp q z=>⟨z.1,ht _ _ z.2.1,z.2.2⟩,ob,es,ep,k _ _ (.inl rfl) e,c⟩
 |set S n=>obtain⟨ob,es,ep,t,e,c⟩:=x;exact⟨ob,es,ep,t,k _ _ (.inl rfl) e,c⟩
 |ins C dx fs=>
  obtain⟨d,z,ne,e,mA,⟨od,es,ep,e2,c⟩,r⟩:=x;exact⟨ho _ d,z,ne,k _ _ (.inl rfl) e,mA,⟨od,es,ep,k _ _ (.inr d) e2,c⟩,r⟩
 |own y=>obtain⟨ob,e⟩:=x;exact⟨ob,k _ _ (.inl rfl) e⟩
 |xd fs=>obtain⟨mA,⟨od,es,ep,e,c⟩,r⟩:=x;exact⟨mA,⟨od,es,ep,k _ _ (.inl rfl) e,c⟩,r⟩
 |rng lo hi=>obtain⟨t,u,v,e⟩:=x;exact⟨t,u,v,k _ _ (.inl rfl) e⟩
 |frz ob u ih=>obtain⟨e,q⟩:=x;exact⟨k _ _ (.inl rfl) e,ih q⟩
 |tbl ps=>
  have e:h.get? a=ψ {cls:=.none,data:=.fields ps}:=x;show h'.get? a=ψ {cls:=.none,data:=.fields ps};exact k a _ (.inl rfl) e
 |met f y=>
  have e:h.get? a=ψ (wS (.ref f) (.ref y)):=x;show h'.get? a=ψ (wS (.ref f) (.ref y));exact k a _ (.inl rfl) e
 |ext g=>obtain⟨p,⟨o,e⟩,st⟩:=x;exact⟨st _ _ p λo q=>k _ _ (.inl rfl) q,⟨o,k _ _ (.inl rfl) e⟩,st⟩
theorem ga.lt(x:ga P w H h)(e:H a=ψ o):a<h.objs.size:=(x a o e).lt
theorem ga.fresh(x:ga P w H h)(e:h.objs.size<=a):H a=ξ:=by
 cases q:H a with
 |none=>rfl
 |some u=>exact Ψ (cF (x.lt q) e) (jB _)
theorem ga.kept(x:ga P w H h)(k:∀b u,h.get? b=ψ u->h'.get? b=ψ u):ga P w H h':=λa o e=>
 (x a o e).stay (λb u _ q=>k b u q) (λ_ q=>q) λ_ _ q=>q
theorem ga.laid(x:ga P w H h)(k:∀b u,h.get? b=ψ u->h'.get? b=ψ u)(hp:h.objs.size<=a)(new:ca P w (ck H a o) h' a o):ga P w (ck H a o) h':=λb u e=>by
 have hn:=x.fresh hp;by_cases hb:b=a
 ·subst hb;rw[gN] at e;cases e;exact new
 ·rw[dX hb] at e;exact(x b u e).stay (λc v _ q=>k c v q) (λc q=>by rw[dX (fD q hn)];exact q) λc xs q=>by rw[dX (fD q hn)];exact q
end
def Rd(H:Hp)(a:Addr)(u:HO):Prop:=H a=ψ u\/∃o,H a=ψ (.frz o u)
def Rd.ok(r:Rd H a u)(x:ga P w H h):ca P w H h a u:=by
 rcases r with r | ⟨o,r⟩
 ·exact x a u r
 ·obtain⟨_,q⟩:=x a _ r;exact q
def yq:Option HO->Prop
 |some (.lst _)=>True
 |some (.dK _)=>True
 |some (.dT _)=>True
 |some (.set _ _)=>True
 |some (.ins _ _ _)=>True
 |some (.ext _)=>True
 |_=>False
def ga.write(ok:ga P w H h)(mu:yq (H x))(he:e=x\/H e=ψ (.own x))(k:∀b u,b≠e->h.get? b=ψ u->h'.get? b=ψ u)(x9:∃u,h'.get? e=ψ u)
  (new:ca P w (ck H x o') h' x o'):ga P w (ck H x o') h':=λb u q=>by
 have K_:∀c y,H c=ψ (.own y)->c≠x:=λc y r z=>by subst z;rw[r] at mu;exact mu
 have o9:∀c xs,H c=ψ (.tup xs)->c≠x:=λc xs r z=>by subst z;rw[r] at mu;exact mu
 by_cases hb:b=x
 ·subst hb;rw[gN] at q;cases q;exact new
 ·rw[dX hb] at q;by_cases w5:b=e
  ·have q':H b=ψ (.own x):=by
    rcases he with z |z
    ·exact Ψ (w5.trans z) hb
    ·rw[w5];exact z
   rw[q] at q';cases q';obtain⟨v,hv⟩:=x9;exact⟨v,by rw[w5];exact hv⟩
  ·refine(ok b u q).stay (λc v hc r=>k c v ?_ r) (λc r=>by rw[dX (K_ c b r)];exact r) λc xs r=>by rw[dX (o9 c xs r)];exact r
   rcases hc with rfl |hc
   ·exact w5
   ·rintro rfl;rcases he with z |z
    ·exact K_ c b hc z
    ·rw[hc] at z;cases z;exact hb rfl
structure Un(fs ex:List Addr)(H H':Hp)(h h':Heap):Prop where
 keep:∀b o,h.get? b=ψ o->H b=ξ->b∉fs->b∉ex->h'.get? b=ψ o
 slot:∀b o,h.get? b=ψ o->H b=ξ->b∈fs->b∉ex->∃sl,h'.get? b=ψ {o with slots:=sl}
 free:∀b o,h.get? b=ψ o->H b=ξ->b∉ex->H' b=ξ
 there:∀b o,h.get? b=ψ o->b∉ex->∃o',h'.get? b=ψ o'
 tups:∀b xs,H b=ψ (.tup xs)->H' b=ψ (.tup xs)
 frzs:∀b o u,H b=ψ (.frz o u)->H' b=ψ (.frz o u)
 tbls:∀b ps,H b=ψ (.tbl ps)->∃more,H' b=ψ (.tbl (ps++more))
section
variable{fs fs' ex ex':ω Addr}
theorem Un.any(u:Un fs ex H H1 h h1)(q:h.get? b=ψ ob)(n:H b=ξ)(hx:b∉ex):∃sl,h1.get? b=ψ {ob with slots:=sl}:=by
 by_cases hb:b∈fs
 ·exact u.slot b ob q n hb hx
 ·exact⟨ob.slots,u.keep b ob q n hb hx⟩
theorem Un.kept(k:∀b u,h.get? b=ψ u->h'.get? b=ψ u):Un fs ex H H h h':=
 ⟨λb ob q _ _ _=>k b ob q,λb ob q _ _ _=>⟨ob.slots,k b ob q⟩,λ_ _ _ n _=>n,λb ob q _=>⟨ob,k b ob q⟩,λ_ _ q=>q,λ_ _ _ q=>q,λ_ ps q=>⟨#[],by rw[q];simp⟩⟩
theorem Un.refl:Un fs ex H H h h:=Un.kept λ_ _ q=>q
theorem Un.laid(k:∀b u,h.get? b=ψ u->h'.get? b=ψ u)(hp:h.objs.size<=a)(hn:H a=ξ):Un fs ex H (ck H a o) h h' where
 keep:=λb u q _ _ _=>k b u q
 slot:=λb u q _ _ _=>⟨u.slots,k b u q⟩
 free:=λb u q n _=>by rw[dX (cE (cF (bC q) hp))];exact n
 there:=λb u q _=>⟨u,k b u q⟩
 tups:=λb xs q=>by rw[dX (fD q hn)];exact q
 frzs:=λb u xs q=>by rw[dX (fD q hn)];exact q
 tbls:=λb ps q=>⟨#[],by rw[dX (fD q hn),q];simp⟩
theorem Un.write(mu:yq (H x))(he:e=x\/H e=ψ (.own x))(k:∀b u,b≠e->h.get? b=ψ u->h'.get? b=ψ u)(x9:∃u,h'.get? e=ψ u):Un fs ex H (ck H x o) h h':=by
 have hx:∀b,H b=ξ->b≠x:=λb n z=>by subst z;rw[n] at mu;exact mu
 have hb:∀b,H b=ξ->b≠e:=λb n z=>by
  subst z;rcases he with r |r
  ·exact hx b n r
  ·rw[n] at r;cases r
 have hm:∀b u,H b=ψ u->¬yq (ψ u)->b≠x:=λb u q nm z=>by subst z;rw[q] at mu;exact nm mu
 refine⟨λb u q n _ _=>k b u (hb b n) q,λb u q n _ _=>⟨u.slots,k b u (hb b n) q⟩,λb u q n _=>by rw[dX (hx b n)];exact n,λb u q _=>?_,
  λb xs q=>by rw[dX (hm b _ q λz=>z)];exact q,λb u xs q=>by rw[dX (hm b _ q λz=>z)];exact q,λb ps q=>⟨#[],by rw[dX (hm b _ q λz=>z),q];simp⟩⟩
 by_cases w5:b=e
 ·subst w5;exact x9
 ·exact⟨u,k b u w5 q⟩
end
def trk(h:Heap)(H:Hp):ω Addr:=(fH h.objs.size).filter λa=>(H a).isSome
def YS(h:Heap)(H:Hp):Heap:=PySem.W.hideAll h (trk h H)
def Ld(h:Heap)(H:Hp):(YS h H).objs.size=h.objs.size:=PySem.W.hideAll_size _ _
def Py(e:h.get? b=ψ o)(n:H b=ξ):(YS h H).get? b=ψ o:=
 PySem.W.hideAll_get _ e λhm=>by
  have q:(H b).isSome=ζ:=(jE.mp hm).2;rw[n] at q;simp at q
def Uw(e:(YS h H).get? b=ψ o):h.get? b=ψ o/\H b=ξ:=by
 have e':h.get? b=ψ o:=PySem.W.of_hideAll (trk h H) e;refine⟨e',?_⟩;cases q:H b with
 |none=>rfl
 |some x=>
  have hm:b∈trk h H:=jE.mpr ⟨kJ.mpr (bC e'),by simp[q]⟩;have z:(YS h H).get? b=ξ:=PySem.W.hideAll_none (trk h H) hm;rw[z] at e;cases e
def Ti(g h:Heap)(L:Addr):ω (Addr×Obj):=(fH h.objs.size).filterMap λa=>if a=L\/(g.get? a).isSome=ζ then ξ else(h.get? a).map λo=>(a,o)
def rest(g h:Heap)(L d:Addr):ω (Addr×Obj):=(Ti g h L).filter λp=>decide (p.1≠d)
structure Mod(K:aI)(mg:Str->Option aF)(base:Heap):Prop where
 kin:K.In base
 glob:base.Ns mainGlobals mg
 blt:∃mb,base.Ns builtinsNs mb/\∀x:Str,x≠"__name__"->mb x=bootBuiltins x
 nolimit:base.NoLimit
structure Cx where
 prog:cC
 w:cZ
 K:aI
 mg:Str->Option aF
 base:Heap
 A:dJ
 N:ω Str
 s₀:aH
 H₀:Hp
 env:Env
 outer:ω Env
 stack:ω Env
 ex:ω Addr
 fn:Str->Bool
 calm:Bool
 pn:ω (Addr×Obj)
 xe:aF->aH->Prop
def qu(l:ω Env):ω Addr:=l.filterMap (·.frame)
abbrev Cx.fs(X:Cx):ω Addr:=qu X.outer
def qq(sc:Scope)(x:Str):Prop:=sc.names.lookup x=ψ .local\/sc.names.lookup x=ψ .cell\/sc.names.lookup x=ψ .free
def Loc(sc:Scope)(x:Str):Prop:=sc.names.lookup x=ψ .local\/sc.names.lookup x=ψ .cell
def Look(env:Env)(h:Heap)(m:Str->Option aF)(x:Str)(u:aF):Prop:=
 (env.kindOf x=ψ .local/\m x=ψ u)\/((env.kindOf x=ψ .cell\/env.kindOf x=ψ .free)/\∃c,env.cells.lookup x=ψ c/\h.IsCell c (ψ u))
structure Cx.Ok(X:Cx):Prop where
 mod:Mod X.K X.mg X.base
 kind:X.env.scope.kind = .function
 glob:X.env.globals=mainGlobals
 blt:X.env.builtins=builtinsNs
 above:X.s₀.z<=X.env.locals
 inj:∀x y c,X.env.cells.lookup x=ψ c->X.env.cells.lookup y=ψ c->x=y
 has:∀x,(X.env.kindOf x=ψ .cell\/X.env.kindOf x=ψ .free)->∃c,X.env.cells.lookup x=ψ c
 cab:∀x c,X.fn x=ζ->X.env.cells.lookup x=ψ c->X.s₀.z<=c
 hd:X.calm=ζ->X.A.handled=ξ
 frames:X.A.frames=ψ X.stack
 stk:X.stack=X.outer\/(X.stack=X.env::X.outer/\X.env.frame=ψ X.env.locals)
 exf:∀b∈X.ex,b≠X.env.locals/\∀x c,X.env.cells.lookup x=ψ c->c≠b
 bs:∀b o,X.base.get? b=ψ o->X.s₀.heap.get? b=ψ o/\X.H₀ b=ξ
 bsz:X.base.objs.size<=X.s₀.z
 noex:∀b o,X.base.get? b=ψ o->b∉X.ex
 exfs:∀b∈X.ex,b∉X.fs
 funs:X.s₀.heap.FunFrames X.base X.outer
 frf:∀b∈X.fs,X.H₀ b=ξ
structure Inv(X:Cx)(Γ:List (Addr×Obj))(σ:List (Option V))(H:Hp)(s:aH):Prop where
 ok:X.Ok
 os:s.os=X.s₀.os
 bare:AllBare s.gens
 base:Un X.fs X.ex X.H₀ H X.s₀.heap s.heap
 loc:∃m,s.heap.Ns X.env.locals m/\∀(i:Nat)(x:Str)(v:V),X.N[i]?=ψ x->σ[i]?=ψ (ψ v)->qq X.env.scope x->∃u,RelV v u/\Look X.env s.heap m x u
 cell:∀x c,X.env.cells.lookup x=ψ c->∃v,s.heap.IsCell c v
 free:H X.env.locals=ξ
 freeC:∀x c,X.env.cells.lookup x=ψ c->H c=ξ
 pin:∀p∈X.pn++Γ,s.heap.get? p.1=ψ p.2/\H p.1=ξ/\p.1≠X.env.locals/\p.1∉X.fs/\∀v,p.2.data≠.cell v
 hok:ga X.prog X.w H s.heap
 len:σ.length=X.N.length
section
variable{X:Cx}{Γ:ω (Addr×Obj)}{σ:ω (Option V)}{H H':Hp}{s:aH}{h':Heap}
theorem Cx.Ok.nofr(ok:X.Ok){b:Addr}{o:Obj}(e:X.base.get? b=ψ o):b∉X.fs:=λhb=>by
 have:=(ok.funs.mem hb).1;rw[e] at this;cases this
theorem Inv.bs(I:Inv X Γ σ H s):∀b o,X.base.get? b=ψ o->s.heap.get? b=ψ o/\H b=ξ:=λb o e=>
 ⟨I.base.keep b o (I.ok.bs b o e).1 (I.ok.bs b o e).2 (I.ok.nofr e) (I.ok.noex b o e),I.base.free b o (I.ok.bs b o e).1 (I.ok.bs b o e).2 (I.ok.noex b o e)⟩
theorem Inv.bk(I:Inv X Γ σ H s):∀b o,X.base.get? b=ψ o->s.heap.get? b=ψ o:=λb o e=>(I.bs b o e).1
theorem Inv.mod(I:Inv X Γ σ H s):Mod X.K X.mg X.base:=I.ok.mod
theorem Inv.kIn(I:Inv X Γ σ H s):X.K.In s.heap:=I.ok.mod.kin.keeps I.bk
theorem Inv.lt(I:Inv X Γ σ H s):X.env.locals<s.z:=let ⟨_,hn,_⟩:=I.loc;hn.lt
theorem Inv.sz(I:Inv X Γ σ H s):X.s₀.z<=s.z:=fR I.ok.above (oE I.lt)
theorem Inv.nofs(I:Inv X Γ σ H s){a:Addr}(h:s.z<=a):a∉X.fs:=λhb=>by
 obtain⟨_,o,ho,_⟩:=I.ok.funs.mem hb;exact Ψ (cF (bC ho) (fR I.sz h)) (jB _)
theorem Inv.cne(I:Inv X Γ σ H s):∀x c,X.env.cells.lookup x=ψ c->c≠X.env.locals:=λx c e z=>by
 obtain⟨v,o,ho,hd⟩:=I.cell x c e;obtain⟨m,⟨o',es,ep,sd,w6,_⟩,_⟩:=I.loc;rw[z,sd] at ho;cases ho;rw[w6] at hd;cases hd
theorem Inv.funs(I:Inv X Γ σ H s):s.heap.FunFrames X.base X.outer:=by
 have all:∀(l:ω Env),(∀b∈qu l,b∈X.fs)->X.s₀.heap.FunFrames X.base l->s.heap.FunFrames X.base l:=by
  intro l
  induction l with
  |nil=>intro _ _;trivial
  |cons env r ih=>
   intro hs hl;obtain⟨hk,⟨L,o,hf,hn,ho,hd⟩,hr⟩:=hl;have hL:L∈X.fs:=hs L (by unfold qu;rw[fI,hf];exact dU);obtain⟨sl,e⟩:=I.base.slot L o ho (I.ok.frf L hL) hL λz=>I.ok.exfs L z hL;exact⟨hk,⟨L,_,hf,hn,e,hd⟩,ih (λb hb=>hs b (by unfold qu;rw[fI,hf];exact bH _ hb)) hr⟩
 exact all X.outer (λ_ hb=>hb) I.ok.funs
theorem Inv.stack(I:Inv X Γ σ H s):s.heap.FunFrames X.base X.stack:=by
 rcases I.ok.stk with e | ⟨e,hf⟩
 ·rw[e];exact I.funs
 ·rw[e];obtain⟨m,hn,_⟩:=I.loc;refine .cons (by rw[I.ok.kind];decide) hf hn ?_ I.funs;exact Heap.get?_none_of_le (fR I.ok.bsz I.ok.above)
theorem Inv.stkSub(I:Inv X Γ σ H s):∀b∈qu X.stack,b∈X.env.locals::X.fs:=λb hb=>by
 rcases I.ok.stk with e | ⟨e,hf⟩
 ·rw[e] at hb;exact bH _ hb
 ·rw[e] at hb;unfold qu at hb;rw[fI,hf] at hb;exact hb
theorem Inv.stkFree(I:Inv X Γ σ H s):∀b∈qu X.stack,H b=ξ:=λb hb=>by
 rcases aO.mp (I.stkSub b hb) with e |hb
 ·rw[e];exact I.free
 ·obtain⟨_,o,ho,_⟩:=I.ok.funs.mem hb;exact I.base.free b o ho (I.ok.frf b hb) λz=>I.ok.exfs b z hb
theorem Inv.step{g':Array GenState}{t':Nat}{d':Drawn}{ch:ω Addr}(I:Inv X Γ σ H s)
  (tx:∀b∈ch,(b∈X.ex\/X.s₀.z<=b)/\b≠X.env.locals/\(∀x c,X.env.cells.lookup x=ψ c->c≠b)/\∀p∈X.pn++Γ,p.1≠b)
  (keep:∀b o,b≠X.env.locals->b∉X.fs->b∉ch->s.heap.get? b=ψ o->H b=ξ->h'.get? b=ψ o)
  (slot:∀b o,b≠X.env.locals->b∈X.fs->b∉ch->s.heap.get? b=ψ o->H b=ξ->∃sl,h'.get? b=ψ {o with slots:=sl}) (free:∀b o,b∉ch->s.heap.get? b=ψ o->H b=ξ->H' b=ξ)
  (there:∀b o,b∉ch->s.heap.get? b=ψ o->∃o',h'.get? b=ψ o')
  (tups:∀b xs,H b=ψ (.tup xs)->H' b=ψ (.tup xs)) (frzs:∀b o u,H b=ψ (.frz o u)->H' b=ψ (.frz o u)) (tbls:∀b ps,H b=ψ (.tbl ps)->∃more,H' b=ψ (.tbl (ps++more)))
  (ns:∀m,s.heap.Ns X.env.locals m->h'.Ns X.env.locals m) (hok:ga X.prog X.w H' h') (hg:AllBare g'):
  Inv X Γ σ H' {s with heap:=h',gens:=g',drawn:=d',toks:=t'}:=by
 have neL:∀b o,X.s₀.heap.get? b=ψ o->b≠X.env.locals:=λb o e=>cE (cF (bC e) I.ok.above);have neC:∀b o,X.s₀.heap.get? b=ψ o->b∉X.ex->b∉ch:=λb o e hx hb=>by
  rcases (tx b hb).1 with z |z
  ·exact hx z
  ·exact Ψ (cF (bC e) z) (jB _)
 have cellK:∀x c,X.env.cells.lookup x=ψ c->∀v,s.heap.IsCell c v->h'.IsCell c v:=λx c e v ⟨o,ho,hd⟩=>by
  have I_:c∉ch:=λz=>(tx c z).2.2.1 x c e rfl;by_cases hc:c∈X.fs
  ·obtain⟨sl,q⟩:=slot c o (I.cne x c e) hc I_ ho (I.freeC x c e);exact⟨_,q,hd⟩
  ·exact⟨o,keep c o (I.cne x c e) hc I_ ho (I.freeC x c e),hd⟩
 refine⟨I.ok,I.os,hg,⟨λb o e n hb hx=>?_,λb o e n hb hx=>?_,λb o e n hx=>?_,λb o e hx=>?_,λb xs e=>tups b xs (I.base.tups b xs e),λb o xs e=>frzs b o xs (I.base.frzs b o xs e),λb ps e=>?_⟩,?_,λx c e=>?_,?_,λx c e=>?_,λp hp=>?_,hok,I.len⟩
 ·exact keep b o (neL b o e) hb (neC b o e hx) (I.base.keep b o e n hb hx) (I.base.free b o e n hx)
 ·obtain⟨sl,e1⟩:=I.base.slot b o e n hb hx;obtain⟨sl',e2⟩:=slot b _ (neL b o e) hb (neC b o e hx) e1 (I.base.free b o e n hx);exact⟨sl',e2⟩
 ·obtain⟨o',e1⟩:=I.base.there b o e hx;exact free b o' (neC b o e hx) e1 (I.base.free b o e n hx)
 ·obtain⟨o',e1⟩:=I.base.there b o e hx;exact there b o' (neC b o e hx) e1
 ·obtain⟨m1,e1⟩:=I.base.tbls b ps e;obtain⟨m2,e2⟩:=tbls b _ e1;exact⟨m1++m2,by rw[e2,vI]⟩
 ·obtain⟨m,hn,hl⟩:=I.loc;refine⟨m,ns m hn,λi x v e1 e2 e3=>?_⟩;obtain⟨u,r,l⟩:=hl i x v e1 e2 e3;refine⟨u,r,?_⟩;rcases l with l | ⟨k,c,e,z⟩
  ·exact .inl l
  ·exact .inr ⟨k,c,e,cellK x c e _ z⟩
 ·obtain⟨v,z⟩:=I.cell x c e;exact⟨v,cellK x c e v z⟩
 ·obtain⟨m,⟨o,_,_,ho,_⟩,_⟩:=I.loc;exact free _ o (λz=>(tx _ z).2.1 rfl) ho I.free
 ·obtain⟨v,o,ho,hd⟩:=I.cell x c e;exact free c o (λz=>(tx c z).2.2.1 x c e rfl) ho (I.freeC x c e)
 ·obtain⟨e,n,ne,nf,d⟩:=I.pin p hp;have I_:p.1∉ch:=λz=>(tx p.1 z).2.2.2 p hp rfl;exact⟨keep p.1 p.2 ne nf I_ e n,free p.1 p.2 I_ e n,ne,nf,d⟩
theorem Inv.un(I:Inv X Γ σ H s)(u:Un X.fs [] H H' s.heap h')(hok:ga X.prog X.w H' h'):Inv X Γ σ H' {s with heap:=h',toks:=t'}:=by
 obtain⟨m,⟨o,es,ep,ho,r⟩,_⟩:=id I.loc;obtain⟨sl,hL⟩:=u.any ho I.free δ;exact I.step (g':=s.gens) (d':=s.drawn) (ch:=[]) (λ_ z=>nomatch z) (λb o _ hb _ e n=>u.keep b o e n hb δ) (λb o _ hb _ e n=>u.slot b o e n hb δ) (λb o _ e n=>u.free b o e n δ) (λb o _ e=>u.there b o e δ) u.tups u.frzs u.tbls (λm' hm=>by
  obtain⟨o',rq,y7,sd,r'⟩:=hm;rw[ho] at sd;cases sd;exact⟨_,rq,y7,hL,r'⟩) hok I.bare
theorem Inv.call(I:Inv X Γ σ H s)(u:Un (qu X.stack) ch H H' s.heap h')(hok:ga X.prog X.w H' h')(hg:AllBare g')
  (tx:∀b∈ch,(b∈X.ex\/X.s₀.z<=b)/\b≠X.env.locals/\(∀x c,X.env.cells.lookup x=ψ c->c≠b)/\∀p∈X.pn++Γ,p.1≠b):
  Inv X Γ σ H' {s with heap:=h',gens:=g',drawn:=d',toks:=t'}:=by
 obtain⟨m,⟨o,es,ep,ho,r⟩,_⟩:=id I.loc;obtain⟨sl,hL⟩:=u.any ho I.free λz=>(tx _ z).2.1 rfl;exact I.step (ch:=ch) tx (λb o hL hb hc e n=>u.keep b o e n (λz=>(aO.mp (I.stkSub b z)).elim hL hb) hc) (λb o _ _ hc e n=>u.any e n hc) (λb o hc e n=>u.free b o e n hc) (λb o hc e=>u.there b o e hc) u.tups u.frzs u.tbls (λm' hm=>by
  obtain⟨o',rq,y7,sd,r'⟩:=hm;rw[ho] at sd;cases sd;exact⟨_,rq,y7,hL,r'⟩) hok hg
theorem Inv.turned(I:Inv X Γ σ H s)(k:∀b o,b≠it->s.heap.get? b=ψ o->h'.get? b=ψ o)(hn:H it=ξ)(hL:it≠X.env.locals)
  (h1:it∈X.ex\/X.s₀.z<=it) (h2:∀x c,X.env.cells.lookup x=ψ c->c≠it) (h3:∀p∈X.pn++Γ,p.1≠it):Inv X Γ σ H {s with heap:=h',toks:=t'}:=by
 have nit:∀b u,H b=ψ u->b≠it:=λb u e z=>by rw[z,hn] at e;cases e
 refine I.step (g':=s.gens) (d':=s.drawn) (ch:=[it]) (λb hb=>?_) (λb o _ _ hc e _=>k b o (λz=>hc (by simp[z])) e) (λb o _ _ hc e _=>⟨o.slots,k b o (λz=>hc (by simp[z])) e⟩) (λ_ _ _ _ n=>n)
  (λb o hc e=>⟨o,k b o (λz=>hc (by simp[z])) e⟩) (λ_ _ e=>e) (λ_ _ _ e=>e) (λb ps e=>⟨#[],by rw[e];simp⟩) (λm hm=>?_) (λb u e=>?_) I.bare
 ·have e:b=it:=by simpa using hb
  subst e;exact⟨h1,hL,h2,h3⟩
 ·obtain⟨o,es,ep,ho,r⟩:=hm;exact⟨o,es,ep,k _ o (Ne.symm hL) ho,r⟩
 ·refine(I.hok b u e).stay (λc v hc q=>k c v ?_ q) (λ_ q=>q) λ_ _ q=>q;rcases hc with z |z
  ·rw[z];exact nit b u e
  ·exact nit c _ z
theorem Inv.tok(I:Inv X Γ σ H s)(t:Nat):Inv X Γ σ H {s with toks:=t}:=I.un (h':=s.heap) (t':=t) Un.refl I.hok
theorem Inv.kept(I:Inv X Γ σ H s)(k:∀b u,s.heap.get? b=ψ u->h'.get? b=ψ u):Inv X Γ σ H {s with heap:=h',toks:=t'}:=I.un (Un.kept k) (I.hok.kept k)
theorem Inv.laid{a:Addr}(I:Inv X Γ σ H s)(k:∀b u,s.heap.get? b=ψ u->h'.get? b=ψ u)(hp:s.z<=a)(new:ca X.prog X.w (ck H a o) h' a o):
  Inv X Γ σ (ck H a o) {s with heap:=h',toks:=t'}:=I.un (Un.laid k hp (I.hok.fresh hp)) (I.hok.laid k hp new)
theorem Inv.write(I:Inv X Γ σ H s)(mu:yq (H x))(he:e=x\/H e=ψ (.own x))(k:∀b u,b≠e->s.heap.get? b=ψ u->h'.get? b=ψ u)(x9:∃u,h'.get? e=ψ u)
  (new:ca X.prog X.w (ck H x o) h' x o):Inv X Γ σ (ck H x o) {s with heap:=h',toks:=t'}:=I.un (Un.write mu he k x9) (I.hok.write mu he k x9 new)
theorem Inv.pins_of(I:Inv X Γ σ H s)(h:∀p∈L_,s.heap.get? p.1=ψ p.2/\H p.1=ξ/\p.1≠X.env.locals/\p.1∉X.fs/\∀v,p.2.data≠.cell v):Inv X L_ σ H s:=
 ⟨I.ok,I.os,I.bare,I.base,I.loc,I.cell,I.free,I.freeC,λp hp=>(bQ.mp hp).elim (λz=>I.pin p (dC _ z)) (h p),I.hok,I.len⟩
def Ch{N:ω Str}(hN:N.Nodup){i j:Nat}{x:Str}(a:N[i]?=ψ x)(b:N[j]?=ψ x):i=j:=by
 obtain⟨h1,e1⟩:=cB.mp a;obtain⟨h2,e2⟩:=cB.mp b;exact(List.getElem_inj hN).mp (e1.trans e2.symm)
theorem XH(I:Inv X Γ σ H s)(hN:X.N.Nodup)(hi:X.N[i]?=ψ x)(hx:Loc X.env.scope x)(r:RelV v u)
  (h:∀s',Inv X Γ (σ.set i (ψ v)) H s'->(∃a,mO a s.heap s'.heap/\(a=X.env.locals\/X.env.cells.lookup x=ψ a))->Q () s') (hf:X.fn x=ζ\/X.env.scope.names.lookup x=ψ .local:=by walk_at "loc"):wpAny M A (storeName X.env x u) Q E s:=by
 obtain⟨m,hn,hl⟩:=id I.loc;have hcls:(X.env.scope.kind == .class || (X.env.scope.kind == .module && X.env.locals != X.env.globals))=χ:=by rw[I.ok.kind];rfl
 have hiσ:i<σ.length:=by rw[I.len];exact(cB.mp hi).1
 have cne:=I.cne;have tracked:∀{a:Addr}{h':Heap},(∃o,s.heap.get? a=ψ o/\H a=ξ)->mO a s.heap h'->ga X.prog X.w H h':=λ{a h'} ha hs b ob e=>by
  obtain⟨_,_,vn⟩:=ha;refine(I.hok b ob e).stay (λc w' hc q=>(hs.2 c ?_).trans q) (λ_ q=>q) λ_ _ q=>q;rintro rfl;rcases hc with rfl |hc
  ·rw[vn] at e;cases e
  ·rw[vn] at hc;cases hc
 rcases hx with hk |hk
 ·refine wpAny_storeName_local hk hn (λh' n8 hs=>?_) hcls;obtain⟨oL,_,_,hoL,_⟩:=id hn;refine h _ ⟨I.ok,I.os,I.bare,⟨λb o e n hb hx=>?_,λb o e n hb hx=>?_,I.base.free,λb o e hx=>?_,I.base.tups,I.base.frzs,I.base.tbls⟩,⟨_,n8,λj y v' e1 e2 e3=>?_⟩,λy c e=>?_,I.free,I.freeC,λp hp=>?_,tracked ⟨oL,hoL,I.free⟩ hs,by simpa using I.len⟩ ⟨_,hs,.inl rfl⟩
  ·exact(hs.2 b (cE (cF (bC e) I.ok.above))).trans (I.base.keep b o e n hb hx)
  ·obtain⟨sl,e1⟩:=I.base.slot b o e n hb hx;exact⟨sl,(hs.2 b (cE (cF (bC e) I.ok.above))).trans e1⟩
  ·obtain⟨o',e1⟩:=I.base.there b o e hx;exact⟨o',(hs.2 b (cE (cF (bC e) I.ok.above))).trans e1⟩
  ·by_cases hj:j=i
   ·subst hj;rw[hi] at e1;cases e1;rw[gT hiσ] at e2;cases e2;exact⟨u,r,.inl ⟨hk,δ⟩⟩
   ·rw[iO (Ne.symm hj)] at e2;obtain⟨u',r',q⟩:=hl j y v' e1 e2 e3;refine⟨u',r',?_⟩;rcases q with⟨k,e⟩ | ⟨k,c,e,z⟩
    ·refine .inl ⟨k,?_⟩;have:y≠x:=λe=>hj (Ch hN e1 (e▸hi));simp[this,e]
    ·exact .inr ⟨k,c,e,z.sameBut hs (cne y c e)⟩
  ·obtain⟨w',z⟩:=I.cell y c e;exact⟨w',z.sameBut hs (cne y c e)⟩
  ·obtain⟨e,n,ne,nf,d⟩:=I.pin p hp;exact⟨(hs.2 p.1 ne).trans e,n,ne,nf,d⟩
 ·have hfn:X.fn x=ζ:=by
   rcases hf with z |z
   ·exact z
   ·rw[z] at hk;cases hk
  obtain⟨c,hc⟩:=I.ok.has x (.inl hk);obtain⟨w',z⟩:=I.cell x c hc;refine wpAny_storeName_cell I.ok.kind hk hc z (λh' nI hs=>?_);obtain⟨oc,hoc,hocd⟩:=id z;refine h {s with heap:=h'} ⟨I.ok,I.os,I.bare,⟨λb o e n hb hx=>?_,λb o e n hb hx=>?_,I.base.free,λb o e hx=>?_,I.base.tups,I.base.frzs,I.base.tbls⟩,⟨m,hn.sameBut hs (Ne.symm (cne x c hc)),λj y v' e1 e2 e3=>?_⟩,λy c' e=>?_,I.free,I.freeC,λp hp=>?_,tracked ⟨oc,hoc,I.freeC x c hc⟩ hs,by simpa using I.len⟩ ⟨c,hs,.inr hc⟩
  ·exact(hs.2 b (cE (cF (bC e) (I.ok.cab x c hfn hc)))).trans (I.base.keep b o e n hb hx)
  ·obtain⟨sl,e1⟩:=I.base.slot b o e n hb hx;exact⟨sl,(hs.2 b (cE (cF (bC e) (I.ok.cab x c hfn hc)))).trans e1⟩
  ·obtain⟨o',e1⟩:=I.base.there b o e hx;exact⟨o',(hs.2 b (cE (cF (bC e) (I.ok.cab x c hfn hc)))).trans e1⟩
  ·by_cases hj:j=i
   ·subst hj;rw[hi] at e1;cases e1;rw[gT hiσ] at e2;cases e2;exact⟨u,r,.inr ⟨.inl hk,c,hc,nI⟩⟩
   ·rw[iO (Ne.symm hj)] at e2;obtain⟨u',r',q⟩:=hl j y v' e1 e2 e3;refine⟨u',r',?_⟩;rcases q with q | ⟨k,c',e,z'⟩
    ·exact .inl q
    ·refine .inr ⟨k,c',e,z'.sameBut hs ?_⟩;rintro rfl;exact hj (Ch hN e1 (I.ok.inj _ _ _ e hc▸hi))
  ·by_cases zj:c'=c
   ·subst zj;exact⟨_,nI⟩
   ·obtain⟨w2,z2⟩:=I.cell y c' e;exact⟨w2,z2.sameBut hs zj⟩
  ·obtain⟨e,n,ne,nf,d⟩:=I.pin p hp;refine⟨(hs.2 p.1 ?_).trans e,n,ne,nf,d⟩;intro q;rw[q,hoc] at e;have q':oc=p.2:=eK e;exact d w' (by rw[<-q'];exact hocd)
def KP(I:Inv X Γ σ H s)(hN:X.N.Nodup)(hi:X.N[i]?=ψ x)(hx:Loc X.env.scope x)(r:RelV v u)
  (h:∀s',Inv X Γ (σ.set i (ψ v)) H s'->Q () s') (hf:X.fn x=ζ\/X.env.scope.names.lookup x=ψ .local:=by walk_at "loc"):wpAny M A (storeName X.env x u) Q E s:=
 XH I hN hi hx r (λs' I' _=>h s' I') hf
theorem Inv.call'(I:Inv X Γ σ H s)(ho:s'.os=s.os)(u:Un (qu X.stack) ch H H' s.heap s'.heap)(hok:ga X.prog X.w H' s'.heap)(hg:AllBare s'.gens)
  (tx:∀b∈ch,(b∈X.ex\/X.s₀.z<=b)/\b≠X.env.locals/\(∀x c,X.env.cells.lookup x=ψ c->c≠b)/\∀p∈X.pn++Γ,p.1≠b):Inv X Γ σ H' s':=by
 obtain⟨h',g',d',t',o'⟩:=s';have e:o'=s.os:=ho;subst e;exact I.call (g':=g') (t':=t') (d':=d') u hok hg tx
end
abbrev XK:=aF->Option Addr->Hp->Prop
abbrev St:=ω (Option V)
abbrev VK:=V->Hp->Prop
abbrev TE:=St->Hp->VK->Prop
abbrev TT:=St->Hp->(Bool->Hp->Prop)->Prop
abbrev TA:=St->Hp->(ω V->Hp->Prop)->Prop
structure qf where
 nx:St->Hp->Prop
 rt:VK
 bk:St->Hp->Prop:=λ_ _=>False
 ct:St->Hp->Prop:=λ_ _=>False
abbrev TS:=qf->St->Hp->Prop
def EP(X:Cx)(Γ:ω (Addr×Obj))(Z:St)(Q:VK)(u:aF)(s':aH):Prop:=∃v H',Inv X Γ Z H' s'/\RelV v u/\Q v H'
def TP(X:Cx)(Γ:ω (Addr×Obj))(Z:St)(Q:Bool->Hp->Prop)(b:Bool)(s':aH):Prop:=∃H',Inv X Γ Z H' s'/\Q b H'
def AP(X:Cx)(Γ:ω (Addr×Obj))(Z:St)(Q:ω V->Hp->Prop)(us:ω aF)(s':aH):Prop:=∃vs H',Inv X Γ Z H' s'/\au vs us/\Q vs H'
def SP(X:Cx)(Γ:ω (Addr×Obj))(D:qf)(f:Flow)(s':aH):Prop:=
 match f with
 | .next=>∃Z' H',Inv X Γ Z' H' s'/\D.nx Z' H'
 | .brk=>∃Z' H',Inv X Γ Z' H' s'/\D.bk Z' H'
 | .cont=>∃Z' H',Inv X Γ Z' H' s'/\D.ct Z' H'
 | .ret u=>∃v Z' H',Inv X Γ Z' H' s'/\RelV v u/\D.rt v H'
abbrev Θ{α:Type}(X:Cx):=@PySem.wpAny α (PySem.model X.prog X.w) X.A
def PE(X:Cx)(e:Expr)(t:TE):Prop:=
 ∀(Γ:ω (Addr×Obj))(s:aH)(Z:St)(H:Hp)(Q:VK),Inv X Γ Z H s->t Z H Q->Θ X (eval e X.env) (EP X Γ Z Q) X.xe s
def PT(X:Cx)(e:Expr)(t:TT):Prop:=
 ∀(Γ:ω (Addr×Obj))(s:aH)(Z:St)(H:Hp)(Q:Bool->Hp->Prop),Inv X Γ Z H s->t Z H Q->Θ X (isTrue e X.env (eval e X.env)) (TP X Γ Z Q) X.xe s
def PW(X:Cx)(e:Expr)(t:TT):Prop:=
 ∀(whole:Sem aF)(Γ:ω (Addr×Obj))(s:aH)(Z:St)(H:Hp)(Q:Bool->Hp->Prop),Inv X Γ Z H s->t Z H Q->Θ X (isTrue e X.env whole) (TP X Γ Z Q) X.xe s
def PW.pt(h:PW X e t):PT X e t:=h _
def PA(X:Cx)(es:ω Expr)(t:TA):Prop:=
 ∀(pos:Pos)(Γ:ω (Addr×Obj))(s:aH)(Z:St)(H:Hp)(Q:ω V->Hp->Prop),Inv X Γ Z H s->t Z H Q->Θ X (spliced (backTo pos (starEach es X.env))) (AP X Γ Z Q) X.xe s
def PS(X:Cx)(st:Stmt)(t:TS):Prop:=
 ∀(Γ:ω (Addr×Obj))(s:aH)(Z:St)(H:Hp)(D:qf),Inv X Γ Z H s->t D Z H->Θ X (exec st X.env) (SP X Γ D) X.xe s
def mh(X:Cx)(st:ω Stmt)(t:TS):Prop:=
 ∀(Γ:ω (Addr×Obj))(s:aH)(Z:St)(H:Hp)(D:qf),Inv X Γ Z H s->t D Z H->Θ X (execs st X.env) (SP X Γ D) X.xe s
def dh{α:Type}{t:Sem α}{Q Q':α->aH->Prop}{s:aH}(h:wpAny M A t Q E s)(hQ:∀a s,Q a s->Q' a s):wpAny M A t Q' E s:=iW h hQ λ_ _ x=>x
section
variable{X:Cx}
def Q3(i:Nat):TE:=λZ H Q=>∃v,Z[i]?=ψ (ψ v)/\Q v H
def tC(v:V):TE:=λ_ H Q=>Q v H
theorem B5{i:Nat}{x:Str}{pos:Pos}(hN:X.N[i]?=ψ x)(hv:qq X.env.scope x)(hd:(x == ("__debug__":Str))=χ:=by decide)(j9:(x == ("__classdict__":Str))=χ:=by decide):PE X (.Name x pos) (Q3 i):=by
 intro Γ s Z H Q I h;obtain⟨v,e,h⟩:=h;obtain⟨m,hn,hl⟩:=I.loc;obtain⟨u,r,l⟩:=hl i x v hN e hv;have fin:EP X Γ Z Q u s:=⟨v,H,I,r,h⟩;rcases l with⟨hk,hm⟩ | ⟨hk,c,hc,j_⟩
 ·exact UA (wpAny_loadName_local I.ok.kind hk hn hm fin) hd
 ·rcases hk with hk |hk
  ·exact UA (wpAny_loadName_cell I.ok.kind hk hc j_ fin) hd
  ·exact UA (wpAny_loadName_free I.ok.kind hk hc j_ fin j9) hd
def A7{i j pos}:PE X (.Constant (.int i) j pos) (tC (.int i)):=λ_ _ _ H _ I h=>wpAny_Constant_int ⟨.int i,H,I.tok _,⟨_,rfl⟩,h⟩
def M2{b j pos}:PE X (.Constant (.bool b) j pos) (tC (.bl b)):=λ_ _ _ H _ I h=>Constant_bool ⟨.bl b,H,I,rfl,h⟩
def A8{j pos}:PE X (.Constant .none j pos) (tC .non):=λ_ _ _ H _ I h=>Constant_none ⟨.non,H,I,rfl,h⟩
def Gl(X:Cx)(x:Str):Prop:=X.env.kindOf x=ψ .globalImplicit
theorem Uk{s:aH}{Z:St}(I:Inv X Γ Z H s)(hg:Gl X x)(hm:X.mg x=ψ u)(h:Q u s)
  (hd:(x == ("__debug__":Str))=χ:=by decide):Θ X (eval (.Name x pos) X.env) Q E s:=
 vK I.ok.kind hg (Calls.loadGlobal_global (by rw[I.ok.glob];exact I.mod.glob.keeps I.bk) hm h) hd
theorem tD{E:aF->aH->Prop}{Γ:ω (Addr×Obj)}{s:aH}{Z:St}{H:Hp}{x:Str}{u:aF}{pos:Pos}{Q:aF->aH->Prop}(I:Inv X Γ Z H s)(hg:Gl X x)(hm:X.mg x=ξ)(hv:bootBuiltins x=ψ u)(h:Q u s)
  (hn:x≠"__name__":=by decide) (hd:(x == ("__debug__":Str))=χ:=by decide):Θ X (eval (.Name x pos) X.env) Q E s:=by
 obtain⟨mb,h1,h2⟩:=I.mod.blt;exact vK I.ok.kind hg (Calls.loadGlobal_builtin (by rw[I.ok.glob];exact I.mod.glob.keeps I.bk) hm (by rw[I.ok.blt];exact h1.keeps I.bk) ((h2 x hn).trans hv) h) hd
theorem Ve{x:Str}{v:V}{u:aF}{pos:Pos}(hg:Gl X x)(hm:X.mg x=ξ)(hv:bootBuiltins x=ψ u)(r:RelV v u)(hn:x≠"__name__":=by decide)(hd:(x == ("__debug__":Str))=χ:=by decide):PE X (.Name x pos) (tC v):=
 λ_ _ _ H _ I h=>tD I hg hm hv ⟨v,H,I,r,h⟩ hn hd
variable{ta tb:TE}
def tB(t:TE):TT:=λZ H Q=>t Z H λx H1=>∃c,x = .bl c/\Q c H1
def C6(h:PE X e t)(he:∀whole,isTrue e X.env whole=(do let v <-whole;standAt e.pos;holding [v] (truthy v)):=by intro _;rfl):PT X e (tB t):=by
 intro Γ s Z H Q I hw;refine isTrue_plain (dh (h Γ s Z H _ I hw) λv s1 ⟨x,H1,I1,r1,q1⟩=>?_) (he _);obtain⟨d,rfl,q⟩:=q1;cases r1;exact pJ ⟨H1,I1,q⟩
variable{rest:ω Expr}
def V4(t u:TT):TT:=λZ H Q=>t Z H λc H1=>if c=ζ then u Z H1 Q else Q χ H1
def tOr(t u:TT):TT:=λZ H Q=>t Z H λc H1=>if c=ζ then Q ζ H1 else u Z H1 Q
def W0(t:TT):TT:=λZ H Q=>t Z H λc H1=>Q (!c) H1
def Vt(ha:PT X a tA):PW X (.BoolOp .And [a] pos) tA:=by
 intro wh Γ s Z H Q I h;refine isTrue_and (dh (ha Γ s Z H Q I h) λc s1 e=>?_);cases c with
 |true=>exact isTrue_and_nil e
 |false=>exact e
def D4(ha:PT X a tA):PW X (.BoolOp .Or [a] pos) tA:=by
 intro wh Γ s Z H Q I h;refine isTrue_or (dh (ha Γ s Z H Q I h) λc s1 e=>?_);cases c with
 |false=>exact isTrue_or_nil e
 |true=>exact e
def D0(ha:PT X a tA)(hb:PW X (.BoolOp .And (b::rest) pos) tB'):PW X (.BoolOp .And (a::b::rest) pos) (V4 tA tB'):=by
 intro wh Γ s Z H Q I h;refine isTrue_and (dh (ha Γ s Z H _ I h) λc s1 ⟨H1,I1,q1⟩=>?_);cases c with
 |true=>exact hb wh Γ s1 Z H1 Q I1 q1
 |false=>exact⟨H1,I1,q1⟩
def N0(ha:PT X a tA)(hb:PW X (.BoolOp .Or (b::rest) pos) tB'):PW X (.BoolOp .Or (a::b::rest) pos) (tOr tA tB'):=by
 intro wh Γ s Z H Q I h;refine isTrue_or (dh (ha Γ s Z H _ I h) λc s1 ⟨H1,I1,q1⟩=>?_);cases c with
 |true=>exact⟨H1,I1,q1⟩
 |false=>exact hb wh Γ s1 Z H1 Q I1 q1
def C5(ha:PT X a tA):PT X (.UnaryOp .Not a pos) (W0 tA):=by
 intro Γ s Z H Q I h;exact isTrue_not (ha Γ s Z H (λc H1=>Q (!c) H1) I h)
def O9(ta tb:TE):TE:=λZ H Q=>ta Z H λx H1=>∃c,x = .bl c/\if c=ζ then tb Z H1 Q else Q (.bl χ) H1
def P9(ta:TE):TE:=λZ H Q=>ta Z H λx H1=>∃c,x = .bl c/\Q (.bl (!c)) H1
def B3{op}(h:PE X a t):PE X (.BoolOp op [a] pos) t:=λΓ s Z H Q I hw=>BoolOp_one (h Γ s Z H Q I hw)
def A5(ha:PE X a ta)(hb:PE X (.BoolOp .And (b::rest) pos) tb):PE X (.BoolOp .And (a::b::rest) pos) (O9 ta tb):=by
 intro Γ s Z H Q I h;refine BoolOp_and (dh (ha Γ s Z H _ I h) λv s1 ⟨x,H1,I1,r1,q1⟩=>?_);obtain⟨c,rfl,q1⟩:=q1;cases r1;refine pJ ?_;cases c with
 |true=>exact hb Γ s1 Z H1 Q I1 q1
 |false=>exact⟨.bl χ,H1,I1,rfl,q1⟩
def A9(ha:PE X a ta):PE X (.UnaryOp .Not a pos) (P9 ta):=by
 intro Γ s Z H Q I h;refine UnaryOp_ (dh (ha Γ s Z H _ I h) λv s1 ⟨x,H1,I1,r1,q1⟩=>?_);obtain⟨c,rfl,q1⟩:=q1;cases r1;exact not_of (pJ ⟨.bl (!c),H1,I1,rfl,q1⟩)
end
def iu(K:aI)(H:Hp)(a:Addr)(xs:ω V):Prop:=
 Rd H a (.lst xs) \/
  ∃(o:Obj)(its:Array aF)(n:Nat),K.lookup a=ψ o/\o.cls = .type "list"/\o.dict=ξ/\o.data = .seq its n/\its.size<=sizeLine/\au xs its.toList
def f8(K:aI)(H:Hp)(a:Addr)(xs:ω V):Prop:=
 Rd H a (.tup xs) \/
  ∃(o:Obj)(its:Array aF)(n:Nat),K.lookup a=ψ o/\o.cls = .type "tuple"/\o.data = .seq its n/\its.size<=sizeLine/\au xs its.toList
def R5:aF->Option V
 | .none=>ψ .non
 | .bool b=>ψ (.bl b)
 | .int i _=>ψ (.int i)
 | .str x _=>ψ (.str x)
 | .bytes b _=>ψ (.byt b)
 | .float b _=>ψ (.flt b)
 | .ref a=>ψ (.ref a)
 | .type n=>ψ (.ty n)
 |_=>ξ
theorem RelV.abs(r:RelV x u):R5 u=ψ x:=by
 cases x with
 |non=>cases r;rfl
 |bl _=>cases r;rfl
 |int _=>obtain⟨t,rfl⟩:=r;rfl
 |str _=>obtain⟨t,rfl⟩:=r;rfl
 |byt _=>obtain⟨t,rfl⟩:=r;rfl
 |flt _=>obtain⟨t,rfl⟩:=r;rfl
 |ref _=>cases r;rfl
 |ty _=>cases r;rfl
def RelV.inj(r:RelV x u)(q:RelV y u):x=y:=eK (r.abs.symm.trans q.abs)
theorem au.inj(h:au xs us)(k:au ys us):xs=ys:=by
 induction h generalizing ys with
 |nil=>cases k;rfl
 |cons r t ih=>cases k with |cons r' t'=>rw[r.inj r',ih t']
section
variable{σ:St}{H:Hp}{s:aH}{a:Addr}{xs ys:ω V}
theorem iu.of{K:aI}(h:H a=ψ (.lst xs)):iu K H a xs:=.inl (.inl h)
theorem f8.of{K:aI}(h:H a=ψ (.tup xs)):f8 K H a xs:=.inl (.inl h)
theorem Inv.list(I:Inv X Γ σ H s)(h:iu X.K H a xs):∃its:ω aF,au xs its/\PlainL s.heap a its.toArray/\xs.length<=sizeLine:=by
 rcases h with h | ⟨o,its,n,hk,hc,hd,hs,hz,r⟩
 ·obtain⟨z,its,n,r,e⟩:=h.ok I.hok;exact⟨its,r,⟨_,n,e,rfl,rfl,rfl⟩,z⟩
 ·refine⟨its.toList,r,⟨o,n,I.kIn a o hk,hc,hd,by simpa using hs⟩,?_⟩;have e:=r.length;simp only[dD] at e;lia
theorem Inv.tuple(I:Inv X Γ σ H s)(h:f8 X.K H a xs):∃its:ω aF,au xs its/\IsTup s.heap a its.toArray/\xs.length<=sizeLine:=by
 rcases h with h | ⟨o,its,n,hk,hc,hs,hz,r⟩
 ·obtain⟨z,its,r,p⟩:=h.ok I.hok;exact⟨its,r,p,z⟩
 ·refine⟨its.toList,r,⟨o,I.kIn a o hk,hc,n,by simpa using hs⟩,?_⟩;have e:=r.length;simp only[dD] at e;lia
theorem Inv.list_inj(I:Inv X Γ σ H s)(h:iu X.K H a xs)(h':iu X.K H a ys):xs=ys:=by
 obtain⟨its,r,⟨o,n,e,_,_,d⟩,_⟩:=I.list h;obtain⟨its',r',⟨o',n',e',_,_,d'⟩,_⟩:=I.list h';rw[e] at e';cases e';rw[d] at d';injection d' with d1 _;have:its=its':=by simpa using Φ HX d1
 subst this;exact r.inj r'
theorem Inv.tuple_inj(I:Inv X Γ σ H s)(h:f8 X.K H a xs)(h':f8 X.K H a ys):xs=ys:=by
 obtain⟨its,r,⟨o,e,_,n,d⟩,_⟩:=I.tuple h;obtain⟨its',r',⟨o',e',_,n',d'⟩,_⟩:=I.tuple h';rw[e] at e';cases e';rw[d] at d';injection d' with d1 _;have:its=its':=by simpa using Φ HX d1
 subst this;exact r.inj r'
end
abbrev Cx.wish(X:Cx)(E:aF->aH->Prop):Cx:={X with xe:=E}
abbrev Cx.nox(X:Cx):Cx:=X.wish λ_ _=>False
def Cx.Ok.wish{X:Cx}(ok:X.Ok)(E:aF->aH->Prop):(X.wish E).Ok:=
 ⟨ok.mod,ok.kind,ok.glob,ok.blt,ok.above,ok.inj,ok.has,ok.cab,ok.hd,ok.frames,ok.stk,ok.exf,ok.bs,ok.bsz,ok.noex,ok.exfs,ok.funs,ok.frf⟩
def Cx.Ok.unwish{X:Cx}{E:aF->aH->Prop}(ok:(X.wish E).Ok):X.Ok:=
 ⟨ok.mod,ok.kind,ok.glob,ok.blt,ok.above,ok.inj,ok.has,ok.cab,ok.hd,ok.frames,ok.stk,ok.exf,ok.bs,ok.bsz,ok.noex,ok.exfs,ok.funs,ok.frf⟩
section
variable{X:Cx}{σ:St}{s:aH}
theorem Inv.wish(I:Inv X Γ σ H s)(E:aF->aH->Prop):Inv (X.wish E) Γ σ H s:=⟨I.ok.wish E,I.os,I.bare,I.base,I.loc,I.cell,I.free,I.freeC,I.pin,I.hok,I.len⟩
theorem Inv.unwish(I:Inv (X.wish E) Γ σ H s):Inv X Γ σ H s:=⟨I.ok.unwish,I.os,I.bare,I.base,I.loc,I.cell,I.free,I.freeC,I.pin,I.hok,I.len⟩
theorem SP.unwish{D:qf}(h:SP (X.wish E) Γ D f s'):SP X Γ D f s':=by
 cases f with
 |next=>obtain⟨Z',H',I,q⟩:=h;exact⟨Z',H',I.unwish,q⟩
 |brk=>obtain⟨Z',H',I,q⟩:=h;exact⟨Z',H',I.unwish,q⟩
 |cont=>obtain⟨Z',H',I,q⟩:=h;exact⟨Z',H',I.unwish,q⟩
 |ret u=>obtain⟨v,Z',H',I,r,q⟩:=h;exact⟨v,Z',H',I.unwish,r,q⟩
theorem mh.nox{st:ω Stmt}{t:TS}(h:mh X.nox st t):mh X st t:=λΓ s σ H D I hw=>
 iW (h Γ s σ H D (I.wish _) hw) (λ_ _ q=>q.unwish) λ_ _ z=>oA z
end
section
variable{X:Cx}{st:Stmt}{rest:ω Stmt}{t u:TS}{te:TE}
def P8:TS:=λD Z H=>D.nx Z H
def W5(t u:TS):TS:=λD Z H=>t {D with nx:=u D} Z H
def Vo:mh X [] P8:=λ_ _ Z H _ I h=>uH ⟨Z,H,I,h⟩
def Ro(h1:PS X st t)(h2:mh X rest u):mh X (st::rest) (W5 t u):=by
 intro Γ s Z H D I h;refine MX (dh (h1 Γ s Z H {D with nx:=u D} I h) λf s1 q=>?_);cases f with
 |next=>
  obtain⟨Z',H',I',q⟩:=q;exact h2 Γ s1 Z' H' D I' q
 |ret v=>exact q
 |brk=>exact q
 |cont=>exact q
def Vp(h1:PS X st t):mh X [st] t:=by
 intro Γ s Z H D I h;refine MX (dh (h1 Γ s Z H D I h) λf s1 q=>?_);cases f with
 |next=>exact uH q
 |ret v=>exact q
 |brk=>exact q
 |cont=>exact q
theorem Inv.quiet{Z:St}{s:aH}(I:Inv X Γ Z H s):interactive X.env=χ:=by simp[interactive,I.ok.kind]
def P7(te:TE):TS:=λD Z H=>te Z H λ_ H1=>D.nx Z H1
def PJ(he:PE X e te)(hs:swapsWith e ξ pos.line X.env=pure χ:=by rfl):PS X (.Expr e pos) (P7 te):=by
 intro Γ s Z H D I h;exact wpAny_Expr_any (dh (he Γ s Z H _ I h) λv s1 ⟨x,H1,I1,r1,q1⟩=>⟨Z,H1,I1,q1⟩) I.quiet hs
def W4(te:TE):TS:=λD Z H=>te Z H D.rt
def C4(he:PE X e te):PS X (.Return (ψ e) pos) (W4 te):=by
 intro Γ s Z H D I h;exact wpAny_Return_some (dh (he Γ s Z H _ I h) λv s1 ⟨x,H1,I1,r1,q1⟩=>⟨x,Z,H1,I1,r1,q1⟩)
def V7(c:TT)(t u:TS):TS:=λD Z H=>c Z H λb H1=>if b=ζ then t D Z H1 else u D Z H1
def M7{c:Expr}(hc:PT X c tc)(ha:mh X a t)(hb:mh X b u):PS X (.If c a b pos) (V7 tc t u):=by
 intro Γ s Z H D I h;refine wpAny_If (dh (hc Γ s Z H _ I h) λd s1 ⟨H1,I1,q1⟩=>?_);cases d with
 |true=>exact ha Γ s1 Z H1 D I1 q1
 |false=>exact hb Γ s1 Z H1 D I1 q1
def F3:TS:=λ_ _ _=>False
def Rm:PS X st F3:=λ_ _ _ _ _ _ h=>h.elim
end
abbrev TG:=V->St->Hp->(St->Hp->Prop)->Prop
abbrev u_:=ω V->St->Hp->(St->Hp->Prop)->Prop
def PG(X:Cx)(target:Expr)(t:TG):Prop:=
 ∀(Γ:ω (Addr×Obj))(s:aH)(Z:St)(H:Hp)(v:V)(u:aF)(Q:St->Hp->Prop),Inv X Γ Z H s->RelV v u->t v Z H Q ->
  Θ X (assign target X.env u) (λ_ s'=>∃Z' H',Inv X Γ Z' H' s'/\Q Z' H') X.xe s
def tq(X:Cx)(ts:ω Expr)(t:u_):Prop:=
 ∀(Γ:ω (Addr×Obj))(s:aH)(Z:St)(H:Hp)(vs:ω V)(us:ω aF)(Q:St->Hp->Prop),Inv X Γ Z H s->au vs us->t vs Z H Q ->
  Θ X (assignInOrder ((assignEach ts X.env).map (·.2)) us) (λ_ s'=>∃Z' H',Inv X Γ Z' H' s'/\Q Z' H') X.xe s
section
variable{X:Cx}{pos:Pos}
def Xk(i:Nat):TG:=λv Z H Q=>Q (Z.set i (ψ v)) H
def Vi(hN:X.N.Nodup)(hi:X.N[i]?=ψ x)(hx:Loc X.env.scope x)(hf:X.fn x=ζ\/X.env.scope.names.lookup x=ψ .local:=by walk_at "loc"):PG X (.Name x pos) (Xk i):=by
 intro Γ s Z H v u Q I r h;exact KQ (KP I hN hi hx r (λs' I'=>⟨_,H,I',h⟩) hf)
def R9:u_:=λvs Z H Q=>vs=[]/\Q Z H
def J8(t:TG)(u:u_):u_:=λvs Z H Q=>∃v r,vs=v::r/\t v Z H λZ' H'=>u r Z' H' Q
def Vj:tq X [] R9:=by
 intro Γ s Z H vs us Q I r h;obtain⟨e,h⟩:=h;subst e;cases r;exact IY ⟨Z,H,I,h⟩
def Rj(h1:PG X e t)(h2:tq X es u)
  (hs:(assignEach (e::es) X.env).map (·.2)=assign e X.env::(assignEach es X.env).map (·.2):=by rfl):tq X (e::es) (J8 t u):=by
 intro Γ s Z H vs us Q I r h;obtain⟨v,vr,e1,h⟩:=h;subst e1;cases r with
 |cons r rr=>
  rw[hs];refine vV (dh (h1 Γ s Z H _ _ _ I r h) λ_ s1 ⟨Z1,H1,I1,q1⟩=>?_);exact h2 Γ s1 Z1 H1 _ _ Q I1 rr q1
def S3(K:aI)(n:Nat)(t:u_):TG:=λv Z H Q=>∃a xs,v = .ref a/\f8 K H a xs/\xs.length=n/\t xs Z H Q
def B6{es:ω Expr}{k:Nat}{t:u_}{n:Nat}(hc:X.calm=ζ)(h:tq X es t)
  (hn:(assignEach es X.env).length=n:=by rfl) (o7:(assignEach es X.env).findIdx? (·.1)=ξ:=by rfl):PG X (.Tuple es k pos) (S3 X.K n t):=by
 intro Γ s Z H v u Q I r hw;obtain⟨a,xs,e1,hq,hl,hw⟩:=hw;subst e1;cases r;obtain⟨its,rv,ht,hz⟩:=I.tuple hq;refine assign_Tuple_tuple (I.ok.hd hc) ht (by simp[hn,<-hl,rv.length]) o7 λh' hx=>?_;have I1:Inv X Γ Z H {s with heap:=h'}:=I.kept (t':=s.toks) λb o e=>hx b o (cE (bC e)) e;exact h Γ _ Z H xs _ Q I1 (by simpa using rv) hw
def P0(te:TE)(g:TG):TS:=λD Z H=>te Z H λx H1=>g x Z H1 D.nx
def B8{tg e:Expr}{te:TE}{g:TG}(he:PE X e te)(hg:PG X tg g)(hs:swapsWithSole [tg] e pos.line X.env=pure χ:=by rfl)(hw:swappedStores [tg] e X.env=pure ξ:=by rfl)
  (h1:(assignEach [tg] X.env).map (·.2)=[assign tg X.env]:=by rfl):PS X (.Assign [tg] e pos) (P0 te g):=by
 intro Γ s Z H D I h;refine wpAny_Assign_stores (dh (he Γ s Z H _ I h) λv s1 ⟨x,H1,I1,r1,q1⟩=>?_) hs hw;rw[h1];exact dh (hg Γ s1 Z H1 x v _ I1 r1 q1) λ_ s2 q=>q
def Gv{i:Nat}{x:Str}{e:Expr}{te:TE}{pos':Pos}(hN:X.N.Nodup)(hi:X.N[i]?=ψ x)(hx:Loc X.env.scope x)(he:PE X e te)(hs:swapsWith e (ψ (.Name x pos')) pos.line X.env=pure χ:=by rfl)(hf:X.fn x=ζ\/X.env.scope.names.lookup x=ψ .local:=by walk_at "loc"):
  PS X (.Assign [.Name x pos'] e pos) (P0 te (Xk i)):=by
 intro Γ s Z H D I h;refine wpAny_Assign_Name (dh (he Γ s Z H _ I h) λv s1 ⟨y,H1,I1,r1,q1⟩=>?_) hs;exact KP I1 hN hi hx r1 (λs2 I2=>⟨_,H1,I2,q1⟩) hf
def W3(i j:Nat)(ta:TA):TS:=λD Z H=>ta Z H λvs H1=>∃v w,vs=[v,w]/\D.nx ((Z.set i (ψ v)).set j (ψ w)) H1
theorem C0{px py pt:Pos}{kt k2 xp}(hc:X.calm=ζ)(hN:X.N.Nodup)(hi:X.N[i]?=ψ x)(hj:X.N[j]?=ψ y)(n6:i≠j)
  (hx:X.env.scope.names.lookup x=ψ .local) (hy:X.env.scope.names.lookup y=ψ .local) (ha:PA X [a,b] ta)
  (hw:swappedStores [.Tuple [.Name x px,.Name y py] kt pt] (.Tuple [a,b] k2 xp) X.env=pure (ψ [x,y]))
  (hs:swapsWithSole [.Tuple [.Name x px,.Name y py] kt pt] (.Tuple [a,b] k2 xp) pos.line X.env=pure χ:=by rfl):
  PS X (.Assign [.Tuple [.Name x px,.Name y py] kt pt] (.Tuple [a,b] k2 xp) pos) (W3 i j ta):=by
 intro Γ s Z H D I h;rw[exec_Assign_arm];refine aA (GL ?_);rw[hs];refine aA (aN ?_);rw[υ η];refine aA (Tuple_ (dh (ha _ Γ s Z H _ I h) λus s1 ⟨vs,H1,I1,r1,q1⟩=>?_));obtain⟨v,w,e1,q1⟩:=q1;subst e1;obtain⟨u1,u2,rfl,rv,kc⟩:∃u1 u2,us=[u1,u2]/\RelV v u1/\RelV w u2:=by
  cases r1 with
  |cons p q=>
   cases q with
   |cons p' q'=>
    cases q';exact⟨_,_,rfl,p,p'⟩
 refine gB ?_ (by show 2<=sizeLine;decide);have I2:Inv X Γ Z H1 {s1 with heap:=s1.heap.push {cls:=.type "tuple",data:=.seq [u1,u2].toArray}}:=I1.kept (t':=s1.toks) λb o e=>aU _ e;rw[hw];refine aA (aN ?_);show Θ X (do rule "assign.swapped-stores";let items <-unpackItems (.ref s1.z) 2 ξ;assignInOrder [λv=>bindName X.env y v,λv=>bindName X.env x v] items.reverse;pure Flow.next) _ _ _;refine aA (wF (aA (unpackItems_tuple (items:=#[u1,u2]) (I.ok.hd hc) (KU s1.heap _) λh' ou=>?_)));have I3:=I2.kept (h':=h') (t':=s1.toks) λb o e=>ou b o (cE (bC e)) e;show wpAny _ _ (assignInOrder [λv=>bindName X.env y v,λv=>bindName X.env x v] [u2,u1] >>= λ_=>pure Flow.next) _ _ _;refine aA (vV (UB (KP I3 hN hj (.inl hy) kc (λs2 I4=>?_) (.inr hy))));refine vV (UB (KP I4 hN hi (.inl hx) rv (λs3 I5=>IY (aN ?_)) (.inr hx)));rw[List.set_comm _ _ (Ne.symm n6)] at I5;exact⟨_,H1,I5,q1⟩
end
def F4(c:TT)(tb:TS):TS:=λD Z H=>∃W:Nat->St->Hp->Prop,(∃m,W m Z H)/\∀m Z H,W m Z H ->
 c Z H λb H1=>if b=ζ then ∃N:St->Hp->Prop,(∀Z' H',N Z' H'->∃m',m'<m/\W m' Z' H')/\tb {D with nx:=N,ct:=N,bk:=D.nx} Z H1 else D.nx Z H1
def Rn{c:Expr}(hp:PassesOwn (model X.prog X.w) X.A X.env X.xe)(hc:PT X c tc)(hb:mh X body tb):PS X (.While c body [] pos) (F4 tc tb):=by
 intro Γ s Z H D I h;obtain⟨W,⟨m0,w0⟩,turn⟩:=h;refine wpAny_While (codeAny_whileLoop (λn s'=>∃Z' H',Inv X Γ Z' H' s'/\W n Z' H') ?_ m0 ⟨Z,H,I,w0⟩);rintro n s1 ⟨Z1,H1,I1,w1⟩;refine mM hp (dh (hc Γ s1 Z1 H1 _ I1 (turn n Z1 H1 w1)) λb s2 ⟨H2,I2,q2⟩=>?_);cases b with
 |true=>
  obtain⟨N,hN,q2⟩:=q2;rw[Ω rfl];refine mM hp (dh (hb Γ s2 Z1 H2 _ I2 q2) λf s3 q3=>?_);cases f with
  |next=>
   obtain⟨Z3,H3,I3,n3⟩:=q3;obtain⟨m',hm,w3⟩:=hN Z3 H3 n3;exact⟨m',hm,Z3,H3,I3,w3⟩
  |cont=>
   obtain⟨Z3,H3,I3,n3⟩:=q3;obtain⟨m',hm,w3⟩:=hN Z3 H3 n3;exact⟨m',hm,Z3,H3,I3,w3⟩
  |brk=>exact q3
  |ret v=>exact q3
 |false=>
  rw[υ cQ];exact uH ⟨Z1,H2,I2,q2⟩
structure It where
 go:Nat->Hp->Prop
 yld:Nat->Hp->V->Hp->Prop
 stop:Nat->Hp->Prop
def UH(X:Cx)(Γ:ω (Addr×Obj))(H:Hp)(b:Addr):Prop:=
 H b=ξ/\b≠X.env.locals/\b∉X.fs/\(b∈X.ex\/X.s₀.z<=b)/\(∀x c,X.env.cells.lookup x=ψ c->c≠b)/\∀p∈X.pn++Γ,p.1≠b
def Inv.fpOk{Z:St}{s:aH}{b:Addr}(I:Inv X Γ Z H s)(hb:s.z<=b)(hn:H' b=ξ):UH X Γ H' b:=by
 refine⟨hn,fC (cF I.lt hb),I.nofs hb,.inr (fR I.sz hb),λx c e z=>?_,λp hp z=>?_⟩
 ·obtain⟨v,q⟩:=I.cell x c e;exact Ψ (cF q.lt (by rw[z];exact hb)) (jB _)
 ·exact Ψ (cF (bC (I.pin p hp).1) (by rw[z];exact hb)) (jB _)
structure rl(P:cC)(w:cZ)(K:aI)(tg:Expr)(J:It)(fp:List Addr)(it:Addr)(tn:Nat->Heap->Prop):Prop where
 mem:it∈fp
 obj:∀i h,tn i h->∀b∈fp,∃o,h.get? b=ψ o/\∀v,o.data≠.cell v
 keep:∀i h h',tn i h->(∀b∈fp,∀o,h.get? b=ψ o->h'.get? b=ψ o)->tn i h'
 item:∀(X:Cx),X.prog=P->X.w=w->X.K=K->X.calm=ζ->∀(i:Nat)(Γ:ω (Addr×Obj))(s:aH)(σ:St)(H:Hp)(E:aF->aH->Prop),Inv X Γ σ H s->(∀b∈fp,UH X Γ H b)->tn i s.heap->J.go i H ->
  wpAny (model P w) X.A (pyNext (.ref it)) (λr s1=>∃u,r=ψ u /\
   wpAny (model P w) X.A (letOwnedTupleGo tg (.ref it) u) (λ_ s2=>∃x H',Inv X Γ σ H' s2/\RelV x u/\J.yld i H x H'/\tn (i+1) s2.heap/\∀b∈fp,H' b=ξ) E s1) E s
 done:∀(X:Cx),X.prog=P->X.w=w->X.K=K->X.calm=ζ->∀(i:Nat)(Γ:ω (Addr×Obj))(s:aH)(σ:St)(H:Hp)(E:aF->aH->Prop),Inv X Γ σ H s->(∀b∈fp,UH X Γ H b)->tn i s.heap->J.stop i H ->
  wpAny (model P w) X.A (pyNext (.ref it)) (λr s1=>r=ξ/\Inv X Γ σ H s1) E s
 self:∀(A:dJ)(i:Nat)(s:aH)(Q:aF->aH->Prop)(E:aF->aH->Prop),tn i s.heap->Q (.ref it) s->wpAny (model P w) A (pyIter (.ref it)) Q E s
abbrev TI:=St->Hp->(It->Hp->Prop)->Prop
def PIE(X:Cx)(Γ:ω (Addr×Obj))(Z:St)(tg:Expr)(R:It->Hp->Prop)(itv:aF)(s2:aH):Prop:=
 ∃(it:Addr)(fp:ω Addr)(tn:Nat->Heap->Prop)(J:It)(H':Hp),itv = .ref it/\Inv X Γ Z H' s2/\rl X.prog X.w X.K tg J fp it tn/\tn 0 s2.heap/\(∀b∈fp,UH X Γ H' b)/\R J H'
def PI(X:Cx)(tg iter:Expr)(wi:TI):Prop:=
 ∀(Γ:ω (Addr×Obj))(s:aH)(Z:St)(H:Hp)(R:It->Hp->Prop),Inv X Γ Z H s->wi Z H R ->
  Θ X (eval iter X.env) (λv s1=>Θ X (pyIter v) (PIE X Γ Z tg R) X.xe s1) X.xe s
def Pw{s:aH}(ho:s.heap.get? it=ψ o)(hc:o.cls = .type n)(hd:o.data = .fields vs)
  (hn:["enumerate","zip","dict_itemiterator","dict_reverseitemiterator","odict_iterator","itertools.zip_longest","itertools.pairwise"].contains n=χ) (hQ:Q () s):wpAny M A (letOwnedTupleGo tg (.ref it) u) Q E s:=by
 unfold letOwnedTupleGo;cases tg <;> first
  |exact aN hQ
  | (cases u <;> first
    |exact aN hQ
    | (refine aA (wpAny_load ho ?_);rw[hc,hd];show wpAny M A (if(["enumerate","zip","dict_itemiterator","dict_reverseitemiterator","odict_iterator","itertools.zip_longest","itertools.pairwise"].contains n && vs[0]? == ψ (rawInt _))=ζ then _ else _) Q E s;rw[υ (by intro h;rw[hn,BN] at h;cases h)];exact aN hQ))
def yn(K:aI)(a:Addr):It:=
 ⟨λi H=>∃xs x,iu K H a xs/\xs[i]?=ψ x,λi H x H'=>H'=H/\∀xs,iu K H a xs->xs[i]?=ψ x,λi H=>∃xs,iu K H a xs/\xs.length<=i⟩
def Itt(K:aI)(a:Addr):It:=
 ⟨λi H=>∃xs x,f8 K H a xs/\xs[i]?=ψ x,λi H x H'=>H'=H/\∀xs,f8 K H a xs->xs[i]?=ψ x,λi H=>∃xs,f8 K H a xs/\xs.length<=i⟩
def yo(lo:Int)(n:Nat):It:=⟨λi _=>i<n,λi H x H'=>H'=H/\x = .int (lo+i),λi _=>n<=i⟩
def Nc{P:cC}{w:cZ}{K:aI}{tg:Expr}(a it:Addr):rl P w K tg (yn K a) [it] it (λi h=>h.IsListIter it a i) where
 mem:=δ
 obj:=λi h st b hb=>by
  have e:b=it:=by simpa using hb
  subst e;obtain⟨o,e,c,d⟩:=st;exact⟨o,e,λv z=>by rw[d] at z;cases z⟩
 keep:=λi h h' st k=>st.at λo e=>k it δ o e
 item:=by
  intro X hP hw hK hc i Γ s Z H E I hf st hg;subst hP hw hK;obtain⟨xs,x,hq,hx⟩:=hg;obtain⟨its,rv,p,hz⟩:=I.list hq;obtain⟨u,hu,ru⟩:=rv.get hx;obtain⟨f0,f1,f2,f3,f4,f5⟩:=hf it δ;refine wpAny_pyNext_list_item st p.isList (x:=u) (by simpa using hu) λh' gz sb=>?_;have I1:Inv X Γ Z H {s with heap:=h'}:=I.turned (t':=s.toks) (λb o hb e=>(sb.2 b hb).trans e) f0 f1 f3 f4 f5;obtain⟨o,e,c,d⟩:=id gz;exact⟨u,rfl,Pw (s:={s with heap:=h'}) e c d η ⟨x,H,I1,ru,⟨rfl,λys hy=>by rw[I.list_inj hy hq];exact hx⟩,gz,λb hb=>(hf b hb).1⟩⟩
 done:=by
  intro X hP hw hK hc i Γ s Z H E I hf st hg;subst hP hw hK;obtain⟨xs,hq,hx⟩:=hg;obtain⟨its,rv,p,hz⟩:=I.list hq;obtain⟨f0,f1,f2,f3,f4,f5⟩:=hf it δ;have hl:=rv.length;exact wpAny_pyNext_list_end (I.ok.hd hc) st p.isList θ λh' eb=>⟨rfl,I.turned (t':=s.toks) (λb o hb e=>eb b o hb e) f0 f1 f3 f4 f5⟩
 self:=λ_ _ _ _ _ st h=>wpAny_pyIter_listiter st h
def Hx{P:cC}{w:cZ}{K:aI}{tg:Expr}(a it:Addr):rl P w K tg (Itt K a) [it] it (λi h=>h.IsTupleIter it a i) where
 mem:=δ
 obj:=λi h st b hb=>by
  have e:b=it:=by simpa using hb
  subst e;obtain⟨o,e,c,d⟩:=st;exact⟨o,e,λv z=>by rw[d] at z;cases z⟩
 keep:=λi h h' st k=>st.at λo e=>k it δ o e
 item:=by
  intro X hP hw hK hc i Γ s Z H E I hf st hg;subst hP hw hK;obtain⟨xs,x,hq,hx⟩:=hg;obtain⟨its,rv,p,hz⟩:=I.tuple hq;obtain⟨u,hu,ru⟩:=rv.get hx;obtain⟨f0,f1,f2,f3,f4,f5⟩:=hf it δ;refine wpAny_pyNext_tuple_item st (show s.heap.IsTuple a its.toArray from p) (x:=u) (by simpa using hu) λh' gz sb=>?_;have I1:Inv X Γ Z H {s with heap:=h'}:=I.turned (t':=s.toks) (λb o hb e=>(sb.2 b hb).trans e) f0 f1 f3 f4 f5;obtain⟨o,e,c,d⟩:=id gz;exact⟨u,rfl,Pw (s:={s with heap:=h'}) e c d η ⟨x,H,I1,ru,⟨rfl,λys hy=>by rw[I.tuple_inj hy hq];exact hx⟩,gz,λb hb=>(hf b hb).1⟩⟩
 done:=by
  intro X hP hw hK hc i Γ s Z H E I hf st hg;subst hP hw hK;obtain⟨xs,hq,hx⟩:=hg;obtain⟨its,rv,p,hz⟩:=I.tuple hq;obtain⟨f0,f1,f2,f3,f4,f5⟩:=hf it δ;have hl:=rv.length;exact wpAny_pyNext_tuple_end (I.ok.hd hc) st (show s.heap.IsTuple a its.toArray from p) θ λh' eb=>⟨rfl,I.turned (t':=s.toks) (λb o hb e=>eb b o hb e) f0 f1 f3 f4 f5⟩
 self:=λ_ _ _ _ _ st h=>wpAny_pyIter_tupleiter st h
def Hw{P:cC}{w:cZ}{K:aI}{tg:Expr}(it:Addr)(lo:Int)(n:Nat):rl P w K tg (yo lo n) [it] it (λi h=>IsRangeIter h it (lo+(i:Nat)*1) ((n:Int)-(i:Nat)) 1) where
 mem:=δ
 obj:=λi h st b hb=>by
  have e:b=it:=by simpa using hb
  subst e;exact⟨_,st,λv z=>by
   have z':Data.fields _=Data.cell v:=z;cases z'⟩
 keep:=λi h h' st k=>k it δ _ st
 item:=by
  intro X hP hw hK hc i Γ s Z H E I hf st hg;subst hP hw hK;obtain⟨f0,f1,f2,f3,f4,f5⟩:=hf it δ;have W:=Walks.range (prog:=X.prog) (w:=X.w) (I.ok.hd hc) it lo 1 n;refine W.item i s _ _ hg st λv h' tk hv gz kk=>?_;obtain⟨t,rfl⟩:=hv;have I1:Inv X Γ Z H {s with heap:=h',toks:=tk}:=I.turned (λb o hb e=>kk b o (by simpa using hb) e) f0 f1 f3 f4 f5;refine⟨_,rfl,Pw (s:={s with heap:=h',toks:=tk}) (n:="range_iterator") gz rfl rfl η ⟨.int (lo+i),H,I1,⟨t,?_⟩,⟨rfl,rfl⟩,gz,λb hb=>(hf b hb).1⟩⟩;rw[rN]
 done:=by
  intro X hP hw hK hc i Γ s Z H E I hf st hg;subst hP hw hK;obtain⟨f0,f1,f2,f3,f4,f5⟩:=hf it δ;exact wpAny_pyNext_range_end (I.ok.hd hc) st (by have:n<=i:=hg;lia) λh' eb=>⟨rfl,I.turned (t':=s.toks) (λb o hb e=>eb b o hb e) f0 f1 f3 f4 f5⟩
 self:=λ_ _ _ _ _ st h=>wpAny_pyIter_rangeiter st h
section
variable{X:Cx}{tg:Expr}
def J9(K:aI)(tl:TE):TI:=λZ H R=>tl Z H λx H1=>∃a,x = .ref a/\(∃xs,iu K H1 a xs)/\R (yn K a) H1
def S4(K:aI)(tl:TE):TI:=λZ H R=>tl Z H λx H1=>∃a,x = .ref a/\(∃xs,f8 K H1 a xs)/\R (Itt K a) H1
def Vk(hl:PE X l tl):PI X tg l (J9 X.K tl):=by
 intro Γ s Z H R I h;refine dh (hl Γ s Z H _ I h) λv s1 ⟨x,H1,I1,r1,q1⟩=>?_;obtain⟨a,e,⟨xs,hq⟩,q⟩:=q1;subst e;cases r1;obtain⟨its,rv,p,hz⟩:=I1.list hq;refine kR p.isList ?_;refine⟨s1.z,[s1.z],_,_,H1,rfl,I1.kept (t':=s1.toks) λb o e=>aU _ e,Nc a _,⟨_,cD _ rfl,rfl,rfl⟩,λb hb=>?_,q⟩;have e:b=s1.z:=by simpa using hb
 subst e;exact I1.fpOk (bU _) (I1.hok.fresh (bU _))
def B7(hl:PE X l tl):PI X tg l (S4 X.K tl):=by
 intro Γ s Z H R I h;refine dh (hl Γ s Z H _ I h) λv s1 ⟨x,H1,I1,r1,q1⟩=>?_;obtain⟨a,e,⟨xs,hq⟩,q⟩:=q1;subst e;cases r1;obtain⟨its,rv,p,hz⟩:=I1.tuple hq;refine lZ (show s1.heap.IsTuple a its.toArray from p) ?_;refine⟨s1.z,[s1.z],_,_,H1,rfl,I1.kept (t':=s1.toks) λb o e=>aU _ e,Hx a _,⟨_,cD _ rfl,rfl,rfl⟩,λb hb=>?_,q⟩;have e:b=s1.z:=by simpa using hb
 subst e;exact I1.fpOk (bU _) (I1.hok.fresh (bU _))
theorem Dv{Z:St}{s:aH}{lo hi:Int}(I:Inv X Γ Z H s)(h1:-(2 ^ 62)<=lo)(h2:lo<2 ^ 62)(h3:-(2 ^ 62)<=hi)(h4:hi<2 ^ 62)
  (q:R (yo lo (hi-lo).toNat) H):Θ X (pyIter (.ref s.z)) (PIE X Γ Z tg R) E {s with heap:=s.heap.push {cls:=.type "range",data:=.fields #[.int lo t,.int hi u,.int 1 v]},toks:=tk}:=by
 refine wpAny_pyIter_range (IsRange.new ..) (small_one h1 h2 h3 h4) ?_;have I1:Inv X Γ Z H {s with heap:=s.heap.push {cls:=.type "range",data:=.fields #[.int lo t,.int hi u,.int 1 v]},toks:=tk}:=I.kept λb o e=>aU _ e;refine⟨(s.heap.push {cls:=.type "range",data:=.fields #[.int lo t,.int hi u,.int 1 v]}).objs.size,[(s.heap.push {cls:=.type "range",data:=.fields #[.int lo t,.int hi u,.int 1 v]}).objs.size],_,_,H,rfl,
  I1.kept (t':=tk) λb o e=>aU _ e,Hw _ lo (hi-lo).toNat,?_,λb hb=>?_,q⟩
 ·have e1:lo+((0:Nat):Int)*1=lo:=δ
  have e2:(((hi-lo).toNat:Nat):Int)-((0:Nat):Int)=Builtin.Range.rangeSize lo hi 1:=by rw[rangeSize_one];split <;> lia
  show IsRangeIter _ _ (lo+((0:Nat):Int)*1) ((((hi-lo).toNat:Nat):Int)-((0:Nat):Int)) 1;rw[e1,e2];exact cD _ rfl
 ·have e:b=(s.heap.push {cls:=.type "range",data:=.fields #[.int lo t,.int hi u,.int 1 v]}).objs.size:=by simpa using hb
  subst e;exact I1.fpOk (bU _) (I1.hok.fresh (bU _))
def K3(ta:TA):TI:=λZ H R=>ta Z H λvs H1=>∃j:Int,vs=[.int j]/\-(2 ^ 62)<=j/\j<2 ^ 62/\R (yo 0 j.toNat) H1
def K4(ta:TA):TI:=λZ H R=>ta Z H λvs H1=>∃i j:Int,vs=[.int i,.int j]/\(-(2 ^ 62)<=i/\i<2 ^ 62/\-(2 ^ 62)<=j/\j<2 ^ 62)/\R (yo i (j-i).toNat) H1
theorem Mg(hg:Gl X "range")(hm:X.mg "range" = ξ)(ha:PA X [a] ta)(hs:starEach [a] X.env=[(χ,eval a X.env)]:=by rfl):PI X tg (.Call (.Name "range" p) [a] [] pos) (K3 ta):=by
 intro Γ s Z H R I h;refine Call_ (tD I hg hm boot_range (fO (dh (ha pos Γ s Z H _ I h) λus s1 ⟨vs,H1,I1,r1,q1⟩=>?_) hs rfl));obtain⟨j,e,q1,q2,q⟩:=q1;subst e;cases r1 with
 |cons r rr=>
  cases rr;obtain⟨t,rfl⟩:=r;exact call_range_1 (Dv I1 ν ν q1 q2 (by simpa using q))
def Mh{a b:Expr}{ta:TA}{p pos:Pos}(hg:Gl X "range")(hm:X.mg "range" = ξ)(ha:PA X [a,b] ta)(hs:starEach [a,b] X.env=[(χ,eval a X.env),(χ,eval b X.env)]:=by rfl)(p8:starEach [b] X.env=[(χ,eval b X.env)]:=by rfl):
  PI X tg (.Call (.Name "range" p) [a,b] [] pos) (K4 ta):=by
 intro Γ s Z H R I h;refine Call_ (tD I hg hm boot_range (fO (dh (ha pos Γ s Z H _ I h) λus s1 ⟨vs,H1,I1,r1,q1⟩=>?_) (by rw[hs,p8]) (by rw[p8];rfl)));obtain⟨i,j,e,⟨q1,q2,q3,q4⟩,q⟩:=q1;subst e;cases r1 with
 |cons r rr=>
  cases rr with
  |cons r' rr=>
   cases rr;obtain⟨t,rfl⟩:=r;obtain⟨t',rfl⟩:=r';exact call_range_2 (Dv I1 q1 q2 q3 q4 q)
def V6(wi:TI)(g:TG)(tb:TS):TS:=λD Z H=>wi Z H λJ H1=>∃W:Nat->Nat->St->Hp->Prop,(∃m,W 0 m Z H1)/\∀i m Z H,W i m Z H ->
 (J.stop i H/\D.nx Z H)\/(J.go i H/\∃N:St->Hp->Prop,(∀Z' H',N Z' H'->∃m',m'<m/\W (i+1) m' Z' H')/\∀x H',J.yld i H x H'->g x Z H' λZ2 H2=>tb {D with nx:=N,ct:=N,bk:=D.nx} Z2 H2)
def ZL(fp:ω Addr)(h:Heap):ω (Addr×Obj):=fp.filterMap λb=>(h.get? b).map λo=>(b,o)
def tF(hb:b∈fp)(e:h.get? b=ψ o):(b,o)∈ZL fp h:=GU.mpr ⟨b,hb,by rw[e];rfl⟩
def Ly(hp:p∈ZL fp h):p.1∈fp/\h.get? p.1=ψ p.2:=by
 obtain⟨b,hb,e⟩:=GU.mp hp;cases q:h.get? b with
 |none=>rw[q] at e;cases e
 |some o=>
  rw[q] at e;have e':(b,o)=p:=eK e;subst e';exact⟨hb,q⟩
theorem Inv.pinned{Z:St}{s:aH}(I:Inv X Γ Z H s)(hf:∀b∈fp,UH X Γ H b)(ho:∀b∈fp,∃o,s.heap.get? b=ψ o/\∀v,o.data≠.cell v):Inv X (Γ++ZL fp s.heap) Z H s:=
 I.pins_of λp hp=>(bQ.mp hp).elim (λz=>I.pin p (bD _ z)) λz=>by
  obtain⟨hb,e⟩:=Ly z;obtain⟨f0,f1,f2,_⟩:=hf p.1 hb;obtain⟨o,e',d⟩:=ho p.1 hb;rw[e] at e';cases e';exact⟨e,f0,f1,f2,d⟩
theorem Inv.unpinned{Z:St}{s:aH}(I:Inv X (Γ++pl) Z H s):Inv X Γ Z H s:=I.pins_of λp hp=>I.pin p (bD _ (dC _ hp))
def B9(hp:PassesOwn (model X.prog X.w) X.A X.env X.xe)(hc:X.calm=ζ)(hi:PI X tg iter wi)(hg:PG X tg g)(hb:mh X body tb)
  (hs:∀x,foldedSetIterable iter X.env x=pure x:=by intro _;rfl):PS X (.For tg iter body [] pos) (V6 wi g tb):=by
 intro Γ s Z H D I h;refine wpAny_For (dh (hi Γ s Z H _ I h) λv s1 h1=>dh h1 λitv s2 h2=>?_) hs;obtain⟨it,fp,tn,J,H2,e,I2,T,st2,f2,W,⟨m0,w0⟩,turn⟩:=h2;subst e;have xu:∀{H':Hp},(∀b∈fp,H' b=ξ)->∀b∈fp,UH X Γ H' b:=λhn b hb=>⟨hn b hb,(f2 b hb).2⟩;refine codeAny_forLoop_any (λn s'=>∃i Z' H',Inv X Γ Z' H' s'/\tn i s'.heap/\(∀b∈fp,H' b=ξ)/\W i n Z' H') ?_ m0 ⟨0,Z,H2,I2,st2,λb hb=>(f2 b hb).1,w0⟩;rintro n s3 ⟨i,Z3,H3,I3,st3,fr3,w3⟩;rcases turn i n Z3 H3 w3 with⟨stop,qn⟩ | ⟨go,N,hN,step⟩
 ·refine mM hp (dh (T.done X rfl rfl rfl hc i Γ s3 Z3 H3 X.xe I3 (xu fr3) st3 stop) λr s4 ⟨hr,I4⟩=>?_);subst hr;exact uH ⟨Z3,H3,I4,qn⟩
 ·refine mM hp (dh (T.item X rfl rfl rfl hc i Γ s3 Z3 H3 X.xe I3 (xu fr3) st3 go) λr s4 ⟨u,hr,h4⟩=>?_);subst hr;refine mM hp (dh h4 λ_ s5 ⟨x,H5,I5,r5,y5,uw,fr5⟩=>?_);have I5':=I5.pinned (xu fr5) (T.obj _ _ uw);refine mM hp (dh (hg _ s5 Z3 H5 x u _ I5' r5 (step x H5 y5)) λ_ s6 ⟨Z6,H6,I6,q6⟩=>?_);refine mM hp (dh (hb _ s6 Z6 H6 _ I6 q6) λf s7 q7=>?_);have again:∀{Z7:St}{H7:Hp},Inv X (Γ++ZL fp s5.heap) Z7 H7 s7->N Z7 H7->∃m,m<n/\∃i Z' H',Inv X Γ Z' H' s7/\tn i s7.heap/\(∀b∈fp,H' b=ξ)/\W i m Z' H':=λ{Z7 H7} I7 n7=>by
   obtain⟨m',hm,w7⟩:=hN Z7 H7 n7;refine⟨m',hm,i+1,Z7,H7,I7.unpinned,T.keep _ _ _ uw λb hb o e=>(I7.pin (b,o) (bD _ (bD _ (tF hb e)))).1,λb hb=>?_,w7⟩;obtain⟨o,e,d⟩:=T.obj _ _ uw b hb;exact(I7.pin (b,o) (bD _ (bD _ (tF hb e)))).2.1
  cases f with
  |next=>obtain⟨Z7,H7,I7,n7⟩:=q7;exact again I7 n7
  |cont=>obtain⟨Z7,H7,I7,n7⟩:=q7;exact again I7 n7
  |brk=>obtain⟨Z7,H7,I7,q7⟩:=q7;exact⟨Z7,H7,I7.unpinned,q7⟩
  |ret v=>obtain⟨x7,Z7,H7,I7,r7,q7⟩:=q7;exact⟨x7,Z7,H7,I7.unpinned,r7,q7⟩
end
def Bl{K:aI}{a:Addr}{xs:ω V}{g:TG}{tb:TS}{D:qf}{Z:St}{H:Hp}(Pv:Nat->St->Hp->Prop)(h0:Pv 0 Z H)(hl:∀i Z H,i<=xs.length->Pv i Z H->iu K H a xs)
  (hs:∀i x Z H,xs[i]?=ψ x->Pv i Z H->g x Z H λZ2 H2=>tb {D with nx:=Pv (i+1),ct:=Pv (i+1),bk:=D.nx} Z2 H2) (hd:∀Z H,Pv xs.length Z H->D.nx Z H):
  ∃W:Nat->Nat->St->Hp->Prop,(∃m,W 0 m Z H)/\∀i m Z H,W i m Z H ->
   ((yn K a).stop i H/\D.nx Z H)\/((yn K a).go i H/\∃N:St->Hp->Prop,(∀Z' H',N Z' H'->∃m',m'<m/\W (i+1) m' Z' H')/\∀x H',(yn K a).yld i H x H'->g x Z H' λZ2 H2=>tb {D with nx:=N,ct:=N,bk:=D.nx} Z2 H2):=by
 refine⟨λi m Z H=>m=xs.length-i/\i<=xs.length/\Pv i Z H,⟨xs.length,δ,gH _,h0⟩,?_⟩;rintro i m Z H ⟨rfl,hi,p⟩;have q:=hl i Z H hi p;by_cases e_:i<xs.length
 ·refine .inr ⟨⟨xs,xs[i],q,by simp[e_]⟩,Pv (i+1),λZ' H' p'=>⟨xs.length-(i+1),ν,rfl,e_,p'⟩,λx H' y=>?_⟩;obtain⟨e,y⟩:=y;subst e;exact hs i x Z _ (y xs q) p
 ·have e:i=xs.length:=ν
  subst e;exact .inl ⟨⟨xs,q,bU _⟩,hd Z H p⟩
abbrev R2:=V->V->Hp->VK->Prop
def ke(X:Cx)(f:aF->aF->Sem aF)(r:R2):Prop:=
 ∀(Γ:ω (Addr×Obj))(s:aH)(Z:St)(H:Hp)(x y:V)(v u:aF)(Q:VK),Inv X Γ Z H s->RelV x v->RelV y u->r x y H Q ->
  Θ X (f v u) (EP X Γ Z Q) X.xe s
def Z_(X:Cx)(f:aF->Sem aF)(r:V->Hp->VK->Prop):Prop:=
 ∀(Γ:ω (Addr×Obj))(s:aH)(Y:St)(H:Hp)(x:V)(v:aF)(Q:VK),Inv X Γ Y H s->RelV x v->r x H Q ->
  Θ X (f v) (EP X Γ Y Q) X.xe s
def yA(X:Cx)(f:aF)(r:ω V->Hp->VK->Prop):Prop:=
 ∀(Γ:ω (Addr×Obj))(s:aH)(Z:St)(H:Hp)(xs:ω V)(us:ω aF)(Q:VK),Inv X Γ Z H s->au xs us->r xs H Q ->
  Θ X (call f us) (EP X Γ Z Q) X.xe s
def O'(r:R2)(ta tb:TE):TE:=λZ H Q=>ta Z H λx H1=>tb Z H1 λy H2=>r x y H2 Q
def tUn(r:V->Hp->VK->Prop)(ta:TE):TE:=λZ H Q=>ta Z H λx H1=>r x H1 Q
def rI(C:Int->Int->Prop)(g:Int->Int->V):R2:=λx y H Q=>∃i j,x = .int i/\y = .int j/\C i j/\Q (g i j) H
def yh(g:Int->Int->V):R2:=λx y H Q=>∃i j,x = .int i/\y = .int j/\Q (g i j) H
def rU(g:Int->V):V->Hp->VK->Prop:=λx H Q=>∃i,x = .int i/\Q (g i) H
section
variable{X:Cx}{a b c:Expr}{ta tb tc:TE}
def Yj(ha:PE X a ta)(hb:PE X b tb){Γ:ω (Addr×Obj)}{s:aH}{Z:St}{H:Hp}{R:V->V->Hp->Prop}(I:Inv X Γ Z H s)
  (h:ta Z H λx H1=>tb Z H1 λy H2=>R x y H2) {Q:aF->aH->Prop} {f:aF->aF->Sem aF}
  (hf:∀v u s2 x y H2,Inv X Γ Z H2 s2->RelV x v->RelV y u->R x y H2->Θ X (f v u) Q X.xe s2):
  Θ X (eval a X.env) (λv s₁=>Θ X (eval b X.env) (λu s₂=>Θ X (f v u) Q X.xe s₂) X.xe s₁) X.xe s:=by
 refine dh (ha Γ s Z H _ I h) λv s1 ⟨x,H1,I1,r1,q1⟩=>?_;refine dh (hb Γ s1 Z H1 _ I1 q1) λu s2 ⟨y,H2,I2,r2,q2⟩=>?_;exact hf v u s2 x y H2 I2 r1 r2 q2
def M4(ho:ke X (binaryOp op) r)(ha:PE X a ta)(hb:PE X b tb):PE X (.BinOp a op b pos) (O' r ta tb):=by
 intro Γ s Z H Q I h;exact wpAny_BinOp (Yj ha hb I h λv u s2 x y H2 I2 rx ry q=>ho Γ s2 Z H2 x y v u Q I2 rx ry q)
def M5(ho:Z_ X (unaryOp op) r)(ha:PE X a ta):PE X (.UnaryOp op a pos) (tUn r ta):=by
 intro Γ s Y H Q I h;exact UnaryOp_ (dh (ha Γ s Y H _ I h) λv s1 ⟨x,H1,I1,r1,q1⟩=>ho Γ s1 Y H1 x v Q I1 r1 q1)
def yg{f:aF->aF->Sem aF}{C:Int->Int->Prop}{g:Int->Int->Int}
  (rule:∀(i j:Int)(t u:Tok)(s:aH)(Q:aF->aH->Prop)(E:aF->aH->Prop),C i j->Q (.int (g i j) s.toks) {s with toks:=s.toks+1}->Θ X (f (.int i t) (.int j u)) Q E s):
  ke X f (rI C λi j=>.int (g i j)):=by
 intro Γ s Z H x y v u Q I rx ry h;obtain⟨i,j,rfl,rfl,hc,q⟩:=h;obtain⟨t,rfl⟩:=rx;obtain⟨t',rfl⟩:=ry;exact rule i j t t' s _ _ hc ⟨.int (g i j),H,I.tok _,⟨_,rfl⟩,q⟩
def Uz{f:aF->aF->Sem aF}{g:Int->Int->Bool}
  (rule:∀(i j:Int)(t u:Tok)(s:aH)(Q:aF->aH->Prop)(E:aF->aH->Prop),Q (.bool (g i j)) s->Θ X (f (.int i t) (.int j u)) Q E s):
  ke X f (yh λi j=>.bl (g i j)):=by
 intro Γ s Z H x y v u Q I rx ry h;obtain⟨i,j,rfl,rfl,q⟩:=h;obtain⟨t,rfl⟩:=rx;obtain⟨t',rfl⟩:=ry;exact rule i j t t' s _ _ ⟨.bl (g i j),H,I,rfl,q⟩
def unI{f:aF->Sem aF}{g:Int->Int}
  (rule:∀(i:Int)(t:Tok)(s:aH)(Q:aF->aH->Prop)(E:aF->aH->Prop),Q (.int (g i) s.toks) {s with toks:=s.toks+1}->Θ X (f (.int i t)) Q E s):
  Z_ X f (rU λi=>.int (g i)):=by
 intro Γ s Y H x v Q I rx h;obtain⟨i,rfl,q⟩:=h;obtain⟨t,rfl⟩:=rx;exact rule i t s _ _ ⟨.int (g i),H,I.tok _,⟨_,rfl⟩,q⟩
def F6:Z_ X (unaryOp .USub) (rU λi=>.int (-i)):=unI λ_ _ _ _ _ q=>neg_int q
end
def O6:V->V->Bool
 | .non,.non=>ζ | .non,.int _=>ζ | .int _,.non=>ζ | .non,.bl _=>ζ | .bl _,.non=>ζ | .non,.str _=>ζ | .str _,.non=>ζ
 | .int _,.int _=>ζ | .bl _,.bl _=>ζ | .str _,.str _=>ζ | .byt _,.byt _=>ζ
 | .int _,.str _=>ζ | .str _,.int _=>ζ | .bl _,.str _=>ζ | .str _,.bl _=>ζ
 |_,_=>χ
def rEq:R2:=λx y H Q=>O6 x y=ζ/\Q (.bl (decide (x=y))) H
def rNe:R2:=λx y H Q=>O6 x y=ζ/\Q (.bl (!decide (x=y))) H
def Iy:decide (V.int i=V.int j)=(i == j):=by
 rw[qV];simp
def Pc:decide (V.bl i=V.bl j)=(i == j):=by
 rw[qV];simp
def Iz:decide (V.str i=V.str j)=(i == j):=by
 rw[qV];simp
def Ix:decide (V.byt i=V.byt j)=(i.toList == j.toList):=by
 rw[qV];cases i;cases j;simp
section
variable{a b c:Expr}
def jD{Z:St}{s:aH}(I:Inv X Γ Z H s)(q:Q (.bl k) H)(e:k=k'):EP X Γ Z Q (.bool k') s:=by
 subst e;exact⟨.bl k,H,I,rfl,q⟩
theorem Xs:ke X (compareOp .Eq) rEq:=by
 intro Γ s Z H x y v u Q I rx ry h;obtain⟨hs,q⟩:=h;cases x with
 |non=>
  cases rx;cases y with
  |non=>cases ry;exact PySem.EqNone.eq_none_none (jD I q δ)
  |bl j=>cases ry;exact PySem.EqNone.eq_none_bool (jD I q δ)
  |int j=>obtain⟨t',rfl⟩:=ry;exact PySem.EqNone.eq_none_int (jD I q δ)
  |str j=>obtain⟨t',rfl⟩:=ry;exact PySem.EqNone.eq_none_str (jD I q δ)
  |_=>exact Ψ (show χ=ζ from hs) cQ
 |bl i=>
  cases rx;cases y with
  |non=>cases ry;exact PySem.EqNone.eq_bool_none (jD I q δ)
  |bl j=>cases ry;exact eq_bool (jD I q Pc)
  |str j=>obtain⟨t',rfl⟩:=ry;exact PySem.EqMixed.eq_bool_str (jD I q δ)
  |_=>exact Ψ (show χ=ζ from hs) cQ
 |int i=>
  obtain⟨t,rfl⟩:=rx;cases y with
  |non=>cases ry;exact PySem.EqNone.eq_int_none (jD I q δ)
  |int j=>obtain⟨t',rfl⟩:=ry;exact eq_int (jD I q Iy)
  |str j=>obtain⟨t',rfl⟩:=ry;exact PySem.EqMixed.eq_int_str (jD I q δ)
  |_=>exact Ψ (show χ=ζ from hs) cQ
 |str i=>
  obtain⟨t,rfl⟩:=rx;cases y with
  |non=>cases ry;exact PySem.EqNone.eq_str_none (jD I q δ)
  |bl j=>cases ry;exact PySem.EqMixed.eq_str_bool (jD I q δ)
  |int j=>obtain⟨t',rfl⟩:=ry;exact PySem.EqMixed.eq_str_int (jD I q δ)
  |str j=>obtain⟨t',rfl⟩:=ry;exact eq_str (jD I q Iz)
  |_=>exact Ψ (show χ=ζ from hs) cQ
 |byt i=>
  obtain⟨t,rfl⟩:=rx;cases y with
  |byt j=>obtain⟨t',rfl⟩:=ry;exact PySem.W.eq_bytes (jD I q Ix)
  |_=>exact Ψ (show χ=ζ from hs) cQ
 |_=>cases y <;> exact Ψ (show χ=ζ from hs) cQ
theorem Xx:ke X (compareOp .NotEq) rNe:=by
 intro Γ s Z H x y v u Q I rx ry h;obtain⟨hs,q⟩:=h;cases x with
 |non=>
  cases rx;cases y with
  |non=>cases ry;exact PySem.EqNone.ne_none_none (jD I q δ)
  |bl j=>cases ry;exact PySem.EqNone.ne_none_bool (jD I q δ)
  |int j=>obtain⟨t',rfl⟩:=ry;exact PySem.EqNone.ne_none_int (jD I q δ)
  |str j=>obtain⟨t',rfl⟩:=ry;exact PySem.EqNone.ne_none_str (jD I q δ)
  |_=>exact Ψ (show χ=ζ from hs) cQ
 |bl i=>
  cases rx;cases y with
  |non=>cases ry;exact PySem.EqNone.ne_bool_none (jD I q δ)
  |bl j=>cases ry;exact ne_bool (jD I q (Φ not Pc))
  |str j=>obtain⟨t',rfl⟩:=ry;exact PySem.EqMixed.ne_bool_str (jD I q δ)
  |_=>exact Ψ (show χ=ζ from hs) cQ
 |int i=>
  obtain⟨t,rfl⟩:=rx;cases y with
  |non=>cases ry;exact PySem.EqNone.ne_int_none (jD I q δ)
  |int j=>obtain⟨t',rfl⟩:=ry;exact ne_int (jD I q (Φ not Iy))
  |str j=>obtain⟨t',rfl⟩:=ry;exact PySem.EqMixed.ne_int_str (jD I q δ)
  |_=>exact Ψ (show χ=ζ from hs) cQ
 |str i=>
  obtain⟨t,rfl⟩:=rx;cases y with
  |non=>cases ry;exact PySem.EqNone.ne_str_none (jD I q δ)
  |bl j=>cases ry;exact PySem.EqMixed.ne_str_bool (jD I q δ)
  |int j=>obtain⟨t',rfl⟩:=ry;exact PySem.EqMixed.ne_str_int (jD I q δ)
  |str j=>obtain⟨t',rfl⟩:=ry;exact ne_str (jD I q (Φ not Iz))
  |_=>exact Ψ (show χ=ζ from hs) cQ
 |byt i=>
  obtain⟨t,rfl⟩:=rx;cases y with
  |byt j=>obtain⟨t',rfl⟩:=ry;exact PySem.W.ne_bytes (jD I q (Φ not Ix))
  |_=>exact Ψ (show χ=ζ from hs) cQ
 |_=>cases y <;> exact Ψ (show χ=ζ from hs) cQ
theorem Xw:ke X (compareOp .Lt) (yh λi j=>.bl (decide (i<j))):=Uz λ_ _ _ _ _ _ _ q=>lt_int q
theorem Xv:ke X (compareOp .LtE) (yh λi j=>.bl (decide (i<=j))):=Uz λ_ _ _ _ _ _ _ q=>le_int q
theorem Xu:ke X (compareOp .Gt) (yh λi j=>.bl (decide (j<i))):=Uz λ_ _ _ _ _ _ _ q=>gt_int q
theorem Xt:ke X (compareOp .GtE) (yh λi j=>.bl (decide (j<=i))):=Uz λ_ _ _ _ _ _ _ q=>ge_int q
theorem A3:ke X (compareOp .Is) (λx y H Q=>y = .non/\Q (.bl (decide (x = .non))) H):=by
 intro Γ s Z H x y v u Q I rx ry h;obtain⟨rfl,q⟩:=h;cases ry;refine is_none_gen (jD I q ?_);cases x <;> first
  | (cases rx;rfl)
  | (obtain⟨t,rfl⟩:=rx;rfl)
theorem Vd:ke X (compareOp .IsNot) (λx y H Q=>y = .non/\Q (.bl (!decide (x = .non))) H):=by
 intro Γ s Z H x y v u Q I rx ry h;obtain⟨rfl,q⟩:=h;cases ry;refine isnot_none_gen (jD I q ?_);cases x <;> first
  | (cases rx;rfl)
  | (obtain⟨t,rfl⟩:=rx;rfl)
theorem Qs(b:Expr)(h:op≠.In:=by decide)(h2:op≠.NotIn:=by decide):behindInMarks op b=χ:=by
 have e1:(op == CmpOp.In)=χ:=by cases op <;> first |rfl |exact Ψ rfl h
 have e2:(op == CmpOp.NotIn)=χ:=by cases op <;> first |rfl |exact Ψ rfl h2
 cases b <;> simp[behindInMarks,e1,e2]
def Vg(ho:ke X (compareOp op) r)(ha:PE X a ta)(hb:PE X b tb)(hm:behindInMarks op b=χ):PE X (.Compare a [op] [b] pos) (O' r ta tb):=by
 intro Γ s Z H Q I h;exact wpAny_Compare1 (Yj ha hb I h λv u s2 x y H2 I2 rx ry q=>ho Γ s2 Z H2 x y v u Q I2 rx ry q) hm
def Q2(t:TE):TT:=λZ H Q=>t Z H λx H'=>∃k,x = .bl k/\Q k H'
def Vq(ho:ke X (compareOp op) r)(ha:PE X a ta)(hb:PE X b tb)(hm:behindInMarks op b=χ):PT X (.Compare a [op] [b] pos) (Q2 (O' r ta tb)):=by
 intro Γ s Z H Q I h;refine wpAny_isTrue_Compare1 (dh (ha Γ s Z H _ I h) λv s1 ⟨x,H1,I1,r1,q1⟩=>dh (hb Γ s1 Z H1 _ I1 q1) λu s2 ⟨y,H2,I2,r2,q2⟩=>
  dh (ho Γ s2 Z H2 x y v u _ I2 r1 r2 q2) λc s3 ⟨z,H3,I3,r3,k,e,q3⟩=>?_) hm
 subst e;cases r3;exact pJ ⟨H3,I3,q3⟩
theorem Ge:(sizeLine:Nat)<2 ^ 63:=by rw[lK];decide
def vals1(r:au [x] us):∃u,us=[u]/\RelV x u:=by
 cases r with
 |cons r1 r2=>cases r2;exact⟨_,rfl,r1⟩
def vals2(r:au [x,y] us):∃u w',us=[u,w']/\RelV x u/\RelV y w':=by
 cases r with
 |cons r1 r2=>
  cases r2 with
  |cons r3 r4=>cases r4;exact⟨_,_,rfl,r1,r3⟩
def Oc:yA X (.builtin "abs") (λxs H Q=>∃i,xs=[.int i]/\Q (.int (if i<0 then -i else i)) H):=by
 intro Γ s Z H xs us Q I r h;obtain⟨i,rfl,q⟩:=h;obtain⟨u,rfl,t,rfl⟩:=vals1 r;exact call_abs_int λu tk=>⟨.int (if i<0 then -i else i),H,I.tok _,⟨_,rfl⟩,q⟩
def Ko(hc:X.calm=ζ):yA X (.builtin "min") (λxs H Q=>∃i j,xs=[.int i,.int j]/\Q (.int (if j<i then j else i)) H):=by
 intro Γ s Z H xs us Q I r h;obtain⟨i,j,rfl,q⟩:=h;obtain⟨u,w',rfl,⟨t,rfl⟩,⟨t',rfl⟩⟩:=vals2 r;refine min_two_ints (I.ok.hd hc) λh' tk k=>⟨_,H,I.kept k,?_,q⟩;by_cases hj:j<i
 ·rw[Ω hj,Ω hj];exact⟨_,rfl⟩
 ·rw[υ hj,υ hj];exact⟨_,rfl⟩
def VW:yA X (.type "int") (λxs H Q=>(∃i,xs=[.int i]/\Q (.int i) H)\/∃k,xs=[.bl k]/\Q (.int (if k then 1 else 0)) H):=by
 intro Γ s Z H xs us Q I r h;rcases h with⟨i,rfl,q⟩ | ⟨k,rfl,q⟩
 ·obtain⟨u,rfl,t,rfl⟩:=vals1 r;exact call_int_int ⟨.int i,H,I,⟨_,rfl⟩,q⟩
 ·obtain⟨u,rfl,r1⟩:=vals1 r;cases r1;exact call_int_bool ⟨.int (if k then 1 else 0),H,I.tok _,⟨_,rfl⟩,q⟩
end
structure wd(h:Heap)(x dx C:Addr)(mA:Str->Option aF):Prop where
 obj:h.get? x=ψ (AK C dx)
 ns:h.Ns1 dx mA
 ne:dx≠x
def Lq{h:Heap}{dx:Addr}{mA:Str->Option aF}(n:h.Ns1 dx mA):∃od,h.get? dx=ψ od/\∀name,CI name od=ψ (mA name):=by
 obtain⟨o,es,ep,ho,hd,hk,_,hm⟩:=n;refine⟨o,ho,λname=>?_⟩;have e:=hm name;unfold nsFind findBy at e;rw[<-Array.find?_toList] at e;unfold CI;rw[hd];dsimp only;split
 ·rename_i y q;rw[q] at e;exact Φ ψ e
 ·rename_i q;rw[q] at e;have a:es.toList.any (·.refKey)=χ:=by
   rw[II];intro y hy;obtain⟨z,t,hkey⟩:=hk y (kD.mp hy);simp[DictEntry.refKey,hkey]
  have a':¬es.toList.any (·.refKey)=ζ:=by rw[a];exact cQ
  rw[υ a'];exact Φ ψ e
def wd.look(I:wd h x dx C mA):∃od,PySem.W.InstAt h x (AK C dx) C (ψ od)/\∀name,CI name od=ψ (mA name):=
 let ⟨od,ho,hl⟩:=Lq I.ns
 ⟨od,⟨I.obj,rfl,rfl,ho⟩,hl⟩
theorem mj.some_of(r:mj (ψ v) o):∃u,o=ψ u/\RelV v u:=by
 cases o with
 |none=>exact(show False from r).elim
 |some u=>exact⟨u,rfl,r⟩
section
variable{fs fs':ω (Str×V)}
def Ug(hok:ga P w H h)(e:H a=ψ (.ins C dx fs)):∃mA,wd h a dx C mA/\(∀f,mj (fs.lookup f) (mA f))/\PySem.Within mA (fs.map (·.1))/\fs.length<=1000/\H dx=ψ (.own a):=by
 obtain⟨d,z,ne,ob,mA,n,r,q⟩:=(show ca P w H h a (.ins C dx fs) from hok a _ e);exact⟨mA,⟨ob,n,ne⟩,r,q,z,d⟩
end
structure Cls(K:aI)(C:Addr):Prop where
 pg:LJ K C Str.empty=ζ
 hd:PySem.W.hasDictIn K C=ζ
 po:PySem.W.plainOver K C=ζ
 sa:QL K (.ref C) "__setattr__" = ψ (ψ (.builtin "object.__setattr__"))
def Cls.get{K:aI}{C:Addr}(c:Cls K C)(f:Str):LJ K C f=ζ:=c.pg
section
variable{σ:St}{H:Hp}{s:aH}{c:aF}
inductive j5(K:aI)(H:Hp):V->aF->Prop where
 |non:j5 K H .non (.type "NoneType")
 |bl (x:Bool):j5 K H (.bl x) (.type "bool")
 |int (i:Int):j5 K H (.int i) (.type "int")
 |str (x:Str):j5 K H (.str x) (.type "str")
 |flt (x:UInt64):j5 K H (.flt x) (.type "float")
 |lst {a:Addr} {xs:List V} (e:H a=ψ (.lst xs)):j5 K H (.ref a) (.type "list")
 |frz {a:Addr} {o:Obj} {xs:List V} (e:H a=ψ (.frz o (.lst xs))):j5 K H (.ref a) (.type "list")
 |tup {a:Addr} {xs:List V} (e:H a=ψ (.tup xs)):j5 K H (.ref a) (.type "tuple")
 |dK {a:Addr} {kvs:List (f6×V)} (e:H a=ψ (.dK kvs)):j5 K H (.ref a) (.type "dict")
 |dT {a:Addr} {kvs:List (List f6×V)} (e:H a=ψ (.dT kvs)):j5 K H (.ref a) (.type "dict")
 |ins {a C dx:Addr} {fs:List (Str×V)} (e:H a=ψ (.ins C dx fs)) (cl:Cls K C) (ha:QL K (.ref C) "__class__" = ψ (ψ (.builtin "object.__class__")))
   (hn:PySem.W.specialIn K (.builtin "object.__class__") "__get__" = ψ (ψ (.builtin "getset_descriptor.__get__"))) (htk:PySem.W.takesIn K (.builtin "object.__class__")=ψ ζ)
   (hm:PySem.W.mroIn K C (.type "object")=ψ ζ):j5 K H (.ref a) (.ref C)
def Lh(I:Inv X Γ σ H s)(rx:RelV x u)(ty:j5 X.K H x t)(e:lW X.K t c=ψ b)(h:∀tk,Q (.bool b) {s with toks:=tk}):
  wpAny (model X.prog X.w) A (call (.builtin "isinstance") [u,c]) Q E s:=by
 cases ty with
 |non=>cases (show u=gK from rx);exact gX PySem.W.kitx_none I.kIn rF e (λz=>nomatch z) h
 |bl y=>cases (show u=HG y from rx);exact gX PySem.W.kitx_bool I.kIn rF e (λz=>nomatch z) h
 |int i=>obtain⟨t,q⟩:=(show ∃t,u=LK i t from rx);cases q;exact gX PySem.W.kitx_int I.kIn rF e (λz=>nomatch z) h
 |str y=>obtain⟨t,q⟩:=(show ∃t,u=LL y t from rx);cases q;exact gX PySem.W.kitx_str I.kIn rF e (λz=>nomatch z) h
 |flt y=>obtain⟨t,q⟩:=(show ∃t,u=Value.float y t from rx);cases q;exact gX PySem.W.kitx_float I.kIn rF e (λz=>nomatch z) h
 | @lst a xs ea=>
  cases (show u=gD a from rx);obtain⟨_,_,n,_,h1⟩:=(show ca X.prog X.w H s.heap a (.lst xs) from I.hok a _ ea);exact gX wR I.kIn ⟨_,h1,rfl⟩ e (λz=>nomatch z) h
 | @frz a ob xs ea=>
  cases (show u=gD a from rx);obtain⟨_,_,_,n,_,h1⟩:=(show ca X.prog X.w H s.heap a (.frz ob (.lst xs)) from I.hok a _ ea);exact gX wR I.kIn ⟨_,h1,rfl⟩ e (λz=>nomatch z) h
 | @tup a xs ea=>
  cases (show u=gD a from rx);obtain⟨_,_,_,p⟩:=(show ca X.prog X.w H s.heap a (.tup xs) from I.hok a _ ea);obtain⟨o,h1,h2,_⟩:=p;exact gX PySem.W.kitx_tuple I.kIn ⟨o,h1,h2⟩ e (λz=>nomatch z) h
 | @dK a kvs ea=>
  cases (show u=gD a from rx);obtain⟨_,_,vs,_,p⟩:=(show ca X.prog X.w H s.heap a (.dK kvs) from I.hok a _ ea);obtain⟨o,es,ep,h1,h2,_⟩:=p;exact gX IS I.kIn ⟨o,h1,h2.1⟩ e (λz=>nomatch z) h
 | @dT a kvs ea=>
  cases (show u=gD a from rx);obtain⟨_,_,xs,_,o,es,ep,h1,h2,_⟩:=(show ca X.prog X.w H s.heap a (.dT kvs) from I.hok a _ ea);exact gX IS I.kIn ⟨o,h1,h2.1⟩ e (λz=>nomatch z) h
 | @ins a C dx fs ea cl ha hn htk hm=>
  cases (show u=gD a from rx);obtain⟨mA,O,_⟩:=Ug I.hok ea;obtain⟨od,J,_⟩:=O.look;exact gX (PySem.W.kitx_own (cl.get _) cl.hd ha hn htk hm) I.kIn J e (λz=>nomatch z) h
end
structure dc(k:Nat)(A:dJ):Prop where
 hd:A.handled=ξ
 dp:A.depth+3*k+5<recursionLimit
 un:A.units+16*k+200<cLine
def dc.mono(r:dc k A)(h:j<=k:=by decide):dc j A:=⟨r.hd,by have:=r.dp;lia,by have:=r.un;lia⟩
def dc.deeper(r:dc (k+1) A)(env:Env):dc k (A.deeper env):=
 ⟨r.hd,by have:=r.dp;show A.depth+1+3*k+5<_;lia,by have:=r.un;show A.units+3+16*k+200<_;lia⟩
def dc.depth(r:dc k A):A.depth<recursionLimit:=by have:=r.dp;lia
def dc.units(r:dc k A):A.units+64<cLine:=by have:=r.un;lia
def V9:TA:=λ_ H Q=>Q [] H
def P5(ta:TE)(tr:TA):TA:=λZ H Q=>ta Z H λx H1=>tr Z H1 λxs H2=>Q (x::xs) H2
section
variable{t:TA}
def MN:PA X [] V9:=λ_ _ _ _ H Q I h=>rR ⟨[],H,I,.nil,h⟩
def wW(ha:PE X e te)(hr:PA X es t)(hs:starEach (e::es) X.env=(χ,eval e X.env)::starEach es X.env:=by rfl):PA X (e::es) (P5 te t):=by
 intro pos Γ s Z H Q I h;rw[hs];show wpAny _ _ (spliced ((χ,eval e X.env)::backTo pos (starEach es X.env))) _ _ s;refine rD (dh (ha Γ s Z H _ I h) λu s1 ⟨x,H1,I1,r1,q1⟩=>?_);exact dh (hr pos Γ s1 Z H1 _ I1 q1) λus s2 ⟨xs,H2,I2,r2,q2⟩=>⟨x::xs,H2,I2,.cons r1 r2,q2⟩
def W6(t:TA):TE:=λZ H Q=>t Z H λxs H1=>xs.length<=sizeLine/\∀p,H1 p=ξ->Q (.ref p) (ck H1 p (.tup xs))
def V8(t:TA):TE:=λZ H Q=>t Z H λxs H1=>xs.length<=sizeLine/\∀p,H1 p=ξ->Q (.ref p) (ck H1 p (.lst xs))
def B4{x1}(h:PA X es t):PE X (.Tuple es x1 pos) (W6 t):=by
 intro Γ s Z H Q I hq;refine wpAny_Tuple_spliced (dh (h pos Γ s Z H _ I hq) λus s1 ⟨xs,H1,I1,r,z,q⟩=>⟨by rw[<-r.length];exact z,?_⟩);have hf:H1 s1.z=ξ:=I1.hok.fresh (bU _);refine⟨.ref s1.z,ck H1 s1.z (.tup xs),I1.laid (t':=s1.toks) (λb u e=>aU _ e) (bU _) ?_,rfl,q _ hf⟩;exact⟨z,us,r,⟨_,cD _ rfl,rfl,_,rfl⟩⟩
def Ri(h:PA X es t):PE X (.List es pos) (V8 t):=by
 intro Γ s Z H Q I hq;refine wpAny_List_spliced (dh (h pos Γ s Z H _ I hq) λus s1 ⟨xs,H1,I1,r,z,q⟩=>⟨by rw[<-r.length];exact z,?_⟩);have hf:H1 s1.z=ξ:=I1.hok.fresh (bU _);refine⟨.ref s1.z,ck H1 s1.z (.lst xs),I1.laid (t':=s1.toks) (λb u e=>aU _ e) (bU _) ?_,rfl,q _ hf⟩;exact⟨z,us,0,r,cD _ rfl⟩
end
abbrev Sp:=ω V->Hp->VK->XK->Prop
abbrev s9:=ω Env->Hp->aH->XK->aF->aH->Prop
structure ua(P:cC)(w:cZ)(K:aI)(mg:Str->Option aF)(base:Heap)(A:dJ)(outer:List Env)(s:aH)(H:Hp):Prop where
 frames:A.frames=ψ outer
 mod:Mod K mg base
 bs:∀b o,base.get? b=ψ o->s.heap.get? b=ψ o/\H b=ξ
 bsz:base.objs.size<=s.z
 funs:s.heap.FunFrames base outer
 frf:∀b∈qu outer,H b=ξ
 hok:ga P w H s.heap
 bare:AllBare s.gens
def CE(outer:ω Env)(P:cC)(w:cZ)(H:Hp)(s:aH)(Q:VK)(u:aF)(s':aH):Prop:=
 ∃v H',s'.os=s.os/\AllBare s'.gens/\Un (qu outer) [] H H' s.heap s'.heap/\ga P w H' s'.heap/\RelV v u/\Q v H'
def CR(CX:s9)(outer:ω Env)(P:cC)(w:cZ)(H:Hp)(s:aH)(Q:VK)(E:XK)(r:Result)(s':aH):Prop:=
 match r with
 | .ok (.ret u)=>CE outer P w H s Q u s'
 | .ok _=>False
 | .error e=>CX outer H s E e s'
structure jo(P:cC)(w:cZ)(K:aI)(mg:Str->Option aF)(base:Heap)(CX:s9)(k:Nat)(f:Addr)(fd:nK)(ps:List Str)(sp:Sp):Prop where
 len:∀vs H Q E,sp vs H Q E->vs.length=ps.length
 run:∀(A:dJ)(outer:ω Env)(s:aH)(H:Hp)(args:Args)(us:ω aF)(vs:ω V)(Q:VK)(E:XK),dc k A->ua P w K mg base A outer s H->BindsTo s fd args (ps.zip us)->au vs us->sp vs H Q E ->
  codeAny (model P w) A (.call (.ref f) args) (CR CX outer P w H s Q E) s
section
variable{σ:St}{s s':aH}
theorem Inv.env0(I:Inv X Γ σ H s):ua X.prog X.w X.K X.mg X.base X.A X.stack s H:=
 ⟨I.ok.frames,I.ok.mod,I.bs,fR I.ok.bsz I.sz,I.stack,I.stkFree,I.hok,I.bare⟩
theorem Inv.after(I:Inv X Γ σ H s)(h:CE X.stack X.prog X.w H s Q u s'):EP X Γ σ Q u s':=by
 obtain⟨v,H',os,bare,un,hok,r,q⟩:=h;obtain⟨hh,g,d,t,os'⟩:=s';obtain rfl:os'=s.os:=os;exact⟨v,H',I.call (h':=hh) (g':=g) (d':=d) (t':=t) (ch:=[]) un hok bare (λb z=>Ψ z δ),r,q⟩
end
def P4(sp:Sp)(vd:ω V)(E:XK)(t:TA):TE:=λZ H Q=>t Z H λvs H1=>sp (vs++vd) H1 Q E
def Binds(K:aI)(fd:nK)(ps:ω Str)(ds:ω aF):Prop:=
 ∀(s:aH)(us:ω aF),K.In s.heap->(us++ds).length=ps.length->BindsTo s fd ⟨us,[]⟩ (ps.zip (us++ds))
def Binds.all{K:aI}{fd:nK}{ps:ω Str}(h:∀us:ω aF,us.length=ps.length->bindArgs fd ⟨us,[]⟩=pure (ps.zip us)):Binds K fd ps []:=λs us _ hl=>by
 rw[eH] at hl⊢;exact .of_eq (h us hl)
def Ff(CX:s9)(X:Cx)(E:XK):Prop:=∀(Γ:ω (Addr×Obj))(Z:St)(H:Hp)(s:aH)(e:aF)(s':aH),Inv X Γ Z H s->CX X.stack H s E e s'->X.xe e s'
section
variable{X:Cx}{CX:s9}{k:Nat}{f C:Addr}{fd:nK}{ps:ω Str}{sp:Sp}{vd:ω V}{ds:ω aF}{E:XK}{x m:Str}{p pos apos:Pos}{e o:Expr}{es:ω Expr}{t:TA}
def E2{Z:St}{s:aH}(F:jo X.prog X.w X.K X.mg X.base CX k f fd ps sp)(hr:dc k X.A)(hb:Binds X.K fd ps ds)(hd:au vd ds)(hx:Ff CX X E)
  (I:Inv X Γ Z H s) (r:au vs us) (h:sp (vs++vd) H Q E):Θ X (call (.ref f) us) (EP X Γ Z Q) X.xe s:=by
 have r2:au (vs++vd) (us++ds):=r.append hd;have hl:(us++ds).length=ps.length:=by rw[<-r2.length];exact F.len _ _ _ _ h
 refine wpAny_call (uY (F.run X.A X.stack s H ⟨us,[]⟩ (us++ds) (vs++vd) Q E hr I.env0 (hb s us I.kIn hl) r2 h) λr s' hq=>?_);cases r with
 |error e=>exact hx Γ Z H s e s' I hq
 |ok fl=>
  cases fl with
  |ret u=>exact I.after hq
  |next=>exact oA hq
  |brk=>exact oA hq
  |cont=>exact oA hq
theorem Vf(F:jo X.prog X.w X.K X.mg X.base CX k f fd ps sp)(hr:dc k X.A)(hg:Gl X x)(hm:X.mg x=ψ (.ref f))(hk:pM X.K (.ref f)=ζ)(hb:Binds X.K fd ps ds)(hd:au vd ds)(hx:Ff CX X E)
  (ha:PA X (e::es) t) (o6:(x == ("__debug__":Str))=χ:=by decide) (he:starEach (e::es) X.env=(χ,eval e X.env)::starEach es X.env:=by rfl) (kb:(backTo pos (starEach es X.env)).any (·.1)=χ:=by rfl):
  PE X (.Call (.Name x p) (e::es) [] pos) (P4 sp vd E t):=by
 intro Γ s Z H Q I h;refine gL (Uk I hg hm ?_ o6);refine PySem.W.callWith_K (h₀:=X.base) I.ok.mod.kin hk (dh (ha pos Γ s Z H _ I h) λus s1 ⟨vs,H1,I1,r,q⟩=>⟨I1.kIn,?_⟩) he kb;exact E2 F hr hb hd hx I1 r q
end
structure gV(N P:List Str)(sc:Scope):Prop where
 kind:sc.kind = .function
 co:sc.isCoroutine=χ
 gen:sc.isGenerator=χ
 nd:N.Nodup
 pre:N.take P.length=P
 par:∀x∈P,sc.names.lookup x=ψ .local\/sc.names.lookup x=ψ .cell
 nofree:∀y∈sc.names,y.2≠.free
theorem VU{kindOf:Str->Option NameKind}{x:Str}:∀{binds:ω (Str×aF)}{m:Str->Option aF},(∀v,(x,v)∉binds)->bindL kindOf binds m x=m x
 | [],_,_=>rfl
 | (n,v)::r,m,h=>by
  unfold bindL;rw[VU λw hw=>h w (bH _ hw)];split
  ·have:x≠n:=(by rintro rfl;exact h v dU);simp[this]
  ·rfl
theorem VS{kindOf:Str->Option NameKind}{x:Str}:∀{binds:ω (Str×aF)}{m:Str->Option aF},(∀v,(x,v)∉binds)->bindC kindOf binds m x=m x
 | [],_,_=>rfl
 | (n,v)::r,m,h=>by
  unfold bindC;rw[VS λw hw=>h w (bH _ hw)];split
  ·rfl
  ·have:x≠n:=(by rintro rfl;exact h v dU);simp[this]
theorem VT{kindOf:Str->Option NameKind}{x:Str}{v:aF}:∀{P:ω Str}{vs:ω aF}{i:Nat}{m:Str->Option aF},P.Nodup->P[i]?=ψ x->vs[i]?=ψ v->kindOf x=ψ .local ->
  bindL kindOf (P.zip vs) m x=ψ v
 | [],_,_,_,_,h,_,_=>by simp at h
 |_::_,[],_,_,_,_,h,_=>by simp at h
 |p::P,w::vs,0,m,nd,h1,h2,hk=>by
  simp at h1 h2;subst h1;subst h2;show bindL kindOf ((p,w)::P.zip vs) m p=_;unfold bindL;rw[VU λv hv=>(fS.mp nd).1 (uA hv).1,Ω hk];simp
 |p::P,w::vs,i+1,m,nd,h1,h2,hk=>by
  show bindL kindOf ((p,w)::P.zip vs) m x=_;unfold bindL;exact VT (i:=i) (fS.mp nd).2 (by simpa using h1) (by simpa using h2) hk
theorem VR{kindOf:Str->Option NameKind}{x:Str}{v:aF}:∀{P:ω Str}{vs:ω aF}{i:Nat}{m:Str->Option aF},P.Nodup->P[i]?=ψ x->vs[i]?=ψ v->kindOf x≠ψ .local ->
  bindC kindOf (P.zip vs) m x=ψ v
 | [],_,_,_,_,h,_,_=>by simp at h
 |_::_,[],_,_,_,_,h,_=>by simp at h
 |p::P,w::vs,0,m,nd,h1,h2,hk=>by
  simp at h1 h2;subst h1;subst h2;show bindC kindOf ((p,w)::P.zip vs) m p=_;unfold bindC;rw[VS λv hv=>(fS.mp nd).1 (uA hv).1,υ hk];simp
 |p::P,w::vs,i+1,m,nd,h1,h2,hk=>by
  show bindC kindOf ((p,w)::P.zip vs) m x=_;unfold bindC;exact VR (i:=i) (fS.mp nd).2 (by simpa using h1) (by simpa using h2) hk
def start(N:ω Str)(vs:ω V):St:=vs.map ψ++fL (N.length-vs.length) ξ
def QW(CX:s9)(P:cC)(w:cZ)(K:aI)(mg:Str->Option aF)(base:Heap)(N:ω Str)(qual:Str)(scope:Scope)(f:Addr)(cd:aF)(A:dJ)(outer:ω Env)(s:aH)(H:Hp)(E:XK):Cx where
 prog:=P
 w:=w
 K:=K
 mg:=mg
 base:=base
 A:=A.deeper (envOfC qual scope s.z f cd)
 N:=N
 s₀:=s
 H₀:=H
 env:=envOfC qual scope s.z f cd
 outer:=outer
 stack:=envOfC qual scope s.z f cd::outer
 ex:=[]
 calm:=ζ
 fn:=λ_=>ζ
 pn:=[]
 xe:=λe s'=>wpAny (model P w) (A.deeper (envOfC qual scope s.z f cd)) (leaving (envOfC qual scope s.z f cd) e) (λ_ s''=>CX outer H s E e s'') (λe' s''=>CX outer H s E e' s'') s'
def An{sc:Scope}{n:Nat}{x:Str}(h:sc.names.lookup x=ψ .cell):∃c,(cellsFrom n sc.names []).lookup x=ψ c:=by
 have q:=zN sc.names n [] (.inl h);exact Option.isSome_iff_exists.mp q
def Lg{CX:s9}{P:cC}{w:cZ}{K:aI}{mg:Str->Option aF}{base:Heap}{N ps:ω Str}{qual:Str}{scope:Scope}{f:Addr}{cd:aF}{A:dJ}{outer:ω Env}{s s1:aH}{H:Hp}{E:XK}{us:ω aF}{vs:ω V}
  (S:gV N ps scope) (hd:A.handled=ξ) (e0:ua P w K mg base A outer s H) (hl:vs.length=ps.length) (r:au vs us)
  (x:InCallC s s.z (bindL (envOfC qual scope s.z f cd).kindOf (ps.zip us) λ_=>ξ) (cellsFrom (s.z+1) scope.names []) (bindC (envOfC qual scope s.z f cd).kindOf (ps.zip us) λ_=>ξ) s1):
  Inv (QW CX P w K mg base N qual scope f cd A outer s H E) [] (start N vs) H s1:=by
 have kb:ps.length<=N.length:=by have:=Φ eW S.pre;rw[nQ] at this;lia
 obtain⟨h1,tk,rfl,hk⟩:=x.done;have J':∀b:Addr,b∉(QW CX P w K mg base N qual scope f cd A outer s H E).ex:=λb z=>Ψ (show b∈([]:ω Addr) from z) δ;refine⟨⟨e0.mod,S.kind,rfl,rfl,bU _,λy z c h1 h2=>?_,λy hy=>?_,λy c _ h=>?_,λ_=>hd,Around.frames_deeper e0.frames,.inr ⟨rfl,rfl⟩,λb z=>Ψ z (J' b),e0.bs,e0.bsz,λb _ _=>J' b,λb z=>Ψ z (J' b),e0.funs,e0.frf⟩,
  rfl,e0.bare,Un.kept hk,⟨_,x.toInCall.ns,λi y v h1 h2 h3=>?_⟩,λy c h=>⟨_,x.cell y c h⟩,e0.hok.fresh (bU _),λy c h=>?_,λp hp=>Ψ (show p∈([]:ω (Addr×Obj)) from hp) δ,e0.hok.kept hk,?_⟩
 ·exact name_of_addr x.apart (kZ h1) (kZ h2)
 ·have hy:scope.names.lookup y=ψ .cell\/scope.names.lookup y=ψ .free:=hy;rcases hy with hy |hy
  ·exact An hy
  ·exact Ψ rfl (S.nofree _ (kZ hy))
 ·exact oE (x.above y c (kZ h))
 ·have hi:i<vs.length:=by
   unfold start at h2;by_cases hi:i<vs.length
   ·exact hi
   ·rw[dR (by simpa using hi)] at h2;rw[jK] at h2;split at h2 <;> cases h2
  have ha:vs[i]?=ψ v:=by
   unfold start at h2;rw[dN (by simpa using hi),cG] at h2;cases e:vs[i]? with
   |none=>rw[e] at h2;cases h2
   |some a=>rw[e] at h2;cases h2;rfl
  obtain⟨u,hu,rv⟩:=r.get ha;have hp:ps[i]?=ψ y:=by
   rw[<-S.pre,List.getElem?_take_of_lt ν];exact h1
  have ndP:ps.Nodup:=by rw[<-S.pre];exact S.nd.sublist (IM _ _)
  refine⟨u,rv,?_⟩;rcases S.par y (eY hp) with k |k
  ·exact .inl ⟨k,VT ndP hp hu k⟩
  ·obtain⟨c,e⟩:=An (n:=s.z+1) k;refine .inr ⟨.inl k,c,e,?_⟩;have q:=x.cell y c e;rw[VR ndP hp hu (by show scope.names.lookup y≠_;rw[k];decide)] at q;exact q
 ·exact e0.hok.fresh (oE (x.above y c (kZ h)))
 ·unfold start;show _=N.length;rw[bR,aY,mD];lia
def J6{CX:s9}{P:cC}{w:cZ}{K:aI}{mg:Str->Option aF}{base:Heap}{k:Nat}{f:Addr}{name qual:Str}{params:Arguments}{body:ω Stmt}{scope:Scope}{dV kV doc pm gn ct oc:aF}{an od:Option Addr}
  {t6:Array (Option aF)} {N ps:ω Str} {sp:Sp} (lk:K.lookup f=ψ ⟨oc,od,.func (qD name qual params body scope dV kV doc pm an gn ct),t6⟩) (j9:vS K gn qual=ζ) (S:gV N ps scope)
  (len:∀vs H Q E,sp vs H Q E->vs.length=ps.length)
  (ik:∀(A:dJ)(outer:ω Env)(s:aH)(H:Hp)(vs:ω V)(Q:VK)(E:XK),dc k (A.deeper (envOfC qual scope s.z f gn))->sp vs H Q E ->
   ∃t,mh (QW CX P w K mg base N qual scope f gn A outer s H E) body t/\t {nx:=λ_ H'=>Q .non H',rt:=Q} (start N vs) H):
  jo P w K mg base CX (k+1) f (qD name qual params body scope dV kV doc pm an gn ct) ps sp:=by
 refine⟨len,λA outer s H args us vs Q E hr e0 hb r vo=>?_⟩;have hl:=len _ _ _ _ vo;have KX:K.In s.heap:=e0.mod.kin.keeps λb o e=>(e0.bs b o e).1;have lim:s.heap.NoLimit:=e0.mod.nolimit.keeps λb o e=>(e0.bs b o e).1;have hkind:∀y∈ps.zip us,scope.names.lookup y.1=ψ .local\/(scope.names.lookup y.1=ψ .cell/\((cellsFrom (s.z+1) scope.names []).lookup y.1).isSome=ζ):=λ⟨n,v⟩ hy=>by
  rcases S.par n (uA hy).1 with q |q
  ·exact .inl q
  ·exact .inr ⟨q,zN _ _ _ (.inl q)⟩
 refine codeAny_call_function hr.depth (KX _ _ lk) rfl S.co S.gen rfl (PySem.W.codeRec_of KX j9) (hb _ _ _ _ ?_);refine wpAny_newFunctionEnv_cells S.kind hkind λenv he s1 x=>?_;subst he;refine⟨lim.keeps x.toInCall.keep,codeAny_func ?_⟩;obtain⟨t,ht,hq⟩:=ik A outer s H vs Q E (hr.deeper _) vo;have I:Inv (QW CX P w K mg base N qual scope f gn A outer s H E) [] (start N vs) H s1:=Lg S hr.hd e0 hl r x;refine iW (ht [] s1 (start N vs) H _ I hq) (λfl s' hs=>?_) λe s' hs=>hs;have fin:∀{Z':St}{H':Hp}{v:V}{u:aF},Inv (QW CX P w K mg base N qual scope f gn A outer s H E) [] Z' H' s'->RelV v u->Q v H'->CE outer P w H s Q u s':=
  λ{Z' H' v u} J rv q=>⟨v,H',J.os,J.bare,J.base,J.hok,rv,q⟩
 cases fl with
 |ret u=>
  obtain⟨v,Z',H',J,rv,q⟩:=hs;exact fin J rv q
 |next=>
  obtain⟨Z',H',J,q⟩:=hs;exact fin (v:=V.non) (u:=gK) J rfl q
 |brk=>
  obtain⟨_,_,_,q⟩:=hs;exact oA q
 |cont=>
  obtain⟨_,_,_,q⟩:=hs;exact oA q
section
variable{X:Cx}{x:Str}{p pos:Pos}{e:Expr}{es:ω Expr}{t:TA}{id T:String}{r:ω V->Hp->VK->Prop}
def tCB(r:ω V->Hp->VK->Prop)(t:TA):TE:=λZ H Q=>t Z H λvs H1=>r vs H1 Q
theorem yN(hc:yA X (.builtin id) r)(hg:Gl X x)(hm:X.mg x=ξ)(hv:bootBuiltins x=ψ (.builtin id))(ha:PA X (e::es) t)(hn:x≠"__name__":=by decide)(o6:(x == ("__debug__":Str))=χ:=by decide)
  (he:starEach (e::es) X.env=(χ,eval e X.env)::starEach es X.env:=by rfl) (kb:(backTo pos (starEach es X.env)).any (·.1)=χ:=by rfl):PE X (.Call (.Name x p) (e::es) [] pos) (tCB r t):=by
 intro Γ s Z H Q I h;refine gL (tD I hg hm hv ?_ hn o6);exact nT (dh (ha pos Γ s Z H _ I h) λus s1 ⟨vs,H1,I1,r1,q1⟩=>hc Γ s1 Z H1 vs us Q I1 r1 q1) he kb
theorem MO(hc:yA X (.type T) r)(hg:Gl X x)(hm:X.mg x=ξ)(hv:bootBuiltins x=ψ (.type T))(ha:PA X (e::es) t)(hn:x≠"__name__":=by decide)(o6:(x == ("__debug__":Str))=χ:=by decide)
  (he:starEach (e::es) X.env=(χ,eval e X.env)::starEach es X.env:=by rfl) (kb:(backTo pos (starEach es X.env)).any (·.1)=χ:=by rfl):PE X (.Call (.Name x p) (e::es) [] pos) (tCB r t):=by
 intro Γ s Z H Q I h;refine gL (tD I hg hm hv ?_ hn o6);exact fO (dh (ha pos Γ s Z H _ I h) λus s1 ⟨vs,H1,I1,r1,q1⟩=>hc Γ s1 Z H1 vs us Q I1 r1 q1) he kb
end
end L2
namespace HT
open PySem PyProof.Rows
def lexLt:ω Int->ω Int->Bool
 | [],[]=>χ
 | [],_::_=>ζ
 |_::_,[]=>χ
 |x::xs,y::ys=>if x=y then lexLt xs ys else decide (x<y)
def lexLt_cons(x y:Int)(xs ys:ω Int):lexLt (x::xs) (y::ys)=if x=y then lexLt xs ys else decide (x<y):=rfl
def UV:lexLt [] []=χ:=rfl
def SG(y:Int)(ys:ω Int):lexLt [] (y::ys)=ζ:=rfl
def SF(x:Int)(xs:ω Int):lexLt (x::xs) []=χ:=rfl
def Pp(A:dJ)(s:aH)(a:Int)(t:Tok)(c:Int)(u:Tok):∃e,HA A s (.int a t) (.int c u) e/\(e=ζ↔a=c):=
 ⟨(a == c),vT a t c u,δ⟩
def Sa(A:dJ)(s:aH)(a:Int)(t:Tok)(c:Int)(u:Tok)(prog:cC)(w:cZ)(E:aF->aH->Prop)(Q:aF->aH->Prop)(h:Q (.bool (decide (a<c))) s):
  Δ prog w A (richCompare .Lt (.int a t) (.int c u)) Q E s:=
 (PyProof.Rows.lt_int h:Δ prog w A (compareOp .Lt (.int a t) (.int c u)) Q E s)
section
open PySem.SeqAt
open PySem.AutoSeq1 (wpAny_loadPart')
open PySem.MeetsSeq PySem.MeetsSeq2 PySem.MeetsSeq3
def VI(l b:Addr)(items du:Array aF)(n n2:Nat)(dd xy:Option Addr)(sl v6:Array (Option aF))(ns ms:ω Int)(hi:IntsAre items.toList ns)(hj:IntsAre du.toList ms):
  Meets (Builtin.«tuple.__lt__» ⟨[.ref l,.ref b],[]⟩)
   (λ_ R s=>s.heap.get? l=ψ {cls:=.type "tuple",dict:=dd,data:=.seq items n,slots:=sl}/\s.heap.get? b=ψ {cls:=.type "tuple",dict:=xy,data:=.seq du n2,slots:=v6} /\
    R (.ok (.ret (.bool (lexLt ns ms)))) s):=
 .of_wp λprog w A R s h=>by
  obtain⟨hp,g,d,tk,os⟩:=s;obtain⟨hl,hb,h⟩:=h;have f2:=AutoSeq1.sub_tuple_tuple;have z1:items.size=ns.length:=by rw[<-hi.length];simp
  have z2:du.size=ms.length:=by rw[<-hj.length];simp
  wp_walk using uI hl,uI hb,tJ _ (λrest b s'=>b.1=ξ/\s'=⟨hp,g,d,tk,os⟩/\∃(vs ws:ω aF)(yf yd:ω Int),rest=vs.zip ws /\
   IntsAre vs yf/\IntsAre ws yd/\yf.length+du.size=yd.length+items.size/\R (.ok (.ret (.bool (lexLt yf yd)))) ⟨hp,g,d,tk,os⟩) _
  case turn=>
   rintro⟨y,x⟩ rest b s' ⟨qj,rfl,vs,ws,yf,yd,hz,hvi,hwi,hlen,hR⟩;cases hvi with
   |nil=>rw[List.zip_nil_left] at hz;cases hz
   |cons a t hvi'=>
    cases hwi with
    |nil=>rw[List.zip_nil_right] at hz;cases hz
    |cons c u hwi'=>
     rw[rE] at hz;injection hz with hyx A2;injection hyx with hy hx;subst hy hx;rw[lexLt_cons] at hR;simp only[bP] at hlen;obtain⟨e,he,zq⟩:=Pp A.in1 ⟨hp,g,d,tk,os⟩ a t c u;refine aA (he prog w _ _ ?_);cases e with
     |true=>
      rw[Ω (zq.mp rfl)] at hR
      wp_walk
      exact⟨rfl,rfl,_,_,_,_,A2,hvi',hwi',ν,hR⟩
     |false=>
      rw[υ (λq=>Ψ (zq.mpr q) cQ)] at hR;have hri:=Sa A.in1 ⟨hp,g,d,tk,os⟩ a t c u prog w
      wp_walk using hri
      exact⟨_,rfl,by simpa using hR⟩
  case fin=>
   rintro⟨b1,b2⟩ s' ⟨qj,rfl,vs,ws,yf,yd,hz,hvi,hwi,hlen,hR⟩;simp only at qj;subst qj;have hv:lexLt yf yd=decide (items.size<du.size):=by
    cases hvi with
    |nil=>
     cases hwi with
     |nil=>
      simp only[dG] at hlen;rw[UV];exact(decide_eq_false ν).symm
     |cons c u hw=>
      simp only[dG,bP] at hlen;rw[SG];exact(decide_eq_true ν).symm
    |cons a t hv=>
     cases hwi with
     |nil=>
      simp only[dG,bP] at hlen;rw[SF];exact(decide_eq_false ν).symm
     |cons c u hw=>
      rw[rE] at hz;cases hz
   rw[hv] at hR
   wp_walk
   exact⟨_,rfl,by simpa [Builtin.Tuple.tupleCompareSizes] using hR⟩
  case h=>
   exact⟨rfl,rfl,items.toList,du.toList,ns,ms,rfl,hi,hj,ν,h⟩
end
section
variable{prog:cC}{w:cZ}{A:dJ}{E:aF->aH->Prop}{s:aH}
def lt_tupInts(hl:IsTup s.heap l items)(hb:IsTup s.heap b du)(hi:IntsAre items.toList ns)(hj:IntsAre du.toList ms)
  (hu:A.units<cLine) (h:Q (.bool (lexLt ns ms)) s):Δ prog w A (compareOp .Lt (.ref l) (.ref b)) Q E s:=by
 obtain⟨⟨cls,dd,data,sl⟩,ho,hc,n,hd⟩:=id hl;obtain⟨⟨cls2,xy,data2,v6⟩,ql,vm,n2,hd2⟩:=id hb;simp only at hc hd vm hd2;subst hc hd vm hd2;exact richCompare_meets_room (op:=.Lt) ⟨_,ho,rfl⟩ ⟨_,ql,rfl⟩ PySem.F.slot_tuple_lt PySem.F.entry_tuple_lt (PySem.F.args_tuple_lt_2 _ _) (VI l b items du n n2 dd xy sl v6 ns ms hi hj)
  ⟨ho,ql,show HG (lexLt ns ms)≠Value.notImplemented/\Q (.bool (lexLt ns ms)) s from⟨(λx=>nomatch x),h⟩⟩ hu
theorem cat_tup(ht:IsTup s.heap t vs.toArray)(hb:IsTup s.heap b ws.toArray)(hv:vs≠[])
  (h1:ws=[]->Q (.ref t) s) (h2:ws≠[]->Q (.ref s.z) {s with heap:=s.heap.push {cls:=.type "tuple",data:=.seq (vs++ws).toArray}})
  (m9:vs.length+ws.length<=sizeLine):Δ prog w A (binaryOp .Add (.ref t) (.ref b)) Q E s:=by
 obtain⟨⟨cls,dd,data,sl⟩,ho,hc,n,hd⟩:=id ht;obtain⟨⟨cls2,xy,data2,v6⟩,ql,vm,n2,hd2⟩:=id hb;simp only at hc hd vm hd2;subst hc hd vm hd2;have e:vs.toArray++ws.toArray=(vs++ws).toArray:=δ
 by_cases hw:ws=[]
 ·exact JA ⟨_,ho,rfl⟩ ⟨_,ql,rfl⟩ MH VG zM yE (xK _ _)
   (tuple_addW1 t b vs.toArray ws.toArray n n2 dd xy sl v6 (by simpa using hv) (by simp[hw])) ⟨ho,ql,h1 hw⟩
 ·refine JA ⟨_,ho,rfl⟩ ⟨_,ql,rfl⟩ MH VG zM yE (xK _ _)
   (tuple_addW2 t b vs.toArray ws.toArray n n2 dd xy sl v6 (by simpa using hv) (by simpa using hw) (by rw[bI,bI];exact m9)) ⟨ho,ql,?_⟩
  rw[e];exact h2 hw
def sIx(n d:Nat):Option Int->Nat
 |none=>d
 |some v=>if v<0 then(v+(n:Int)).toNat else min v.toNat n
def sIx_none(n d:Nat):sIx n d ξ=d:=rfl
theorem sIx_nat(n d k:Nat):sIx n d (ψ (k:Int))=min k n:=by
 show(if(k:Int)<0 then((k:Int)+(n:Int)).toNat else min (k:Int).toNat n)=min k n;rw[υ ν,pD]
theorem E3(n d:Nat)(hd:d<=n)(o:Option Int):sIx n d o<=n:=by
 cases o with
 |none=>exact hd
 |some v=>
  show(if v<0 then(v+(n:Int)).toNat else min v.toNat n)<=n;by_cases hv:v<0
  ·rw[Ω hv];lia
  ·rw[υ hv];exact Nat.min_le_right _ _
theorem Im(v:Int)(n d:Nat):(if v<0 then max (v+(n:Int)) 0 else min v (n:Int))=((sIx n d (ψ v):Nat):Int):=by
 show(if v<0 then max (v+(n:Int)) 0 else min v (n:Int))=(((if v<0 then(v+(n:Int)).toNat else min v.toNat n):Nat):Int);by_cases hv:v<0
 ·simp only[Ω hv];lia
 ·simp only[υ hv];exact qz7 hv
theorem Fj(lo hi:Option Int)(n:Nat):qI lo hi 1 (n:Int)=(((sIx n 0 lo:Nat):Int),((sIx n n hi:Nat):Int)):=by
 have h1:¬((1:Int)<0):=ν
 unfold qI;simp only[h1,if_false];refine lV ?_ ?_
 ·cases lo with
  |none=>rfl
  |some v=>exact Im v n 0
 ·cases hi with
  |none=>rfl
  |some v=>exact Im v n n
theorem Gu(i j:Nat):mH (i:Int) (j:Int) 1=j-i:=by
 unfold mH;have h1:(1:Int) > 0:=ν
 simp only[h1,if_true,IF];split <;> lia
def TU(p:IsPart v o)(h:Q o s):Δ prog w A (Builtin.Slice.slicePartIndex v) Q E s:=by
 cases p with
 |none=>exact TV h
 |int i t=>exact slicePart_int h
theorem MU{sl:Addr}{vl vu:aF}{lo hi:Option Int}{n:Nat}{Q:Int×Int×Nat->aH->Prop}(hs:s.heap.IsSliceOf sl vl vu .none)(pl:IsPart vl lo)(pu:IsPart vu hi)
  (h:Q (((sIx n 0 lo:Nat):Int),1,sIx n n hi-sIx n 0 lo) s):Δ prog w A (vJ (.ref sl) (pure (n:Int))) Q E s:=by
 obtain⟨os,xc,hcs,tz⟩:=id hs;unfold vJ Builtin.Slice.sliceFields;refine aA (aA (gE xc tz (x:=vl) rfl (aA (gE xc tz (x:=vu) rfl (aA (gE xc tz (x:=.none) rfl (aN ?_)))))));refine aA (TV ?_);show wpAny _ _ (if((1:Int) == 0)=ζ then _ else _) _ _ s;rw[υ η];refine aA (TU pl (aA (TU pu (aA (aN ?_)))));show wpAny _ _ (match qI lo hi 1 (n:Int) with | (lo,hi)=>pure (lo,(1:Int),mH lo hi 1)) _ _ s;rw[Fj lo hi n];show wpAny _ _ (pure (((sIx n 0 lo:Nat):Int),(1:Int),mH ((sIx n 0 lo:Nat):Int) ((sIx n n hi:Nat):Int) 1)) _ _ s;rw[Gu];exact aN h
theorem Rk(xs:Array aF)(i k:Nat):((fH k).filterMap λ(m:Nat)=>xs[((i:Int)+(m:Int)*1).toNat]?).toArray=((xs.toList.drop i).take k).toArray:=by
 have e:(λ(m:Nat)=>xs[((i:Int)+(m:Int)*1).toNat]?)=λm=>xs[i+m]?:=by
  funext m;have:((i:Int)+(m:Int)*1).toNat=i+m:=ν
  rw[this]
 rw[e];have:=pick_run xs i k;rw[List.filterMap_map] at this;have e2:((λx=>xs[x]?) ∘ λx=>i+x)=λm=>xs[i+m]?:=rfl;rw[e2] at this;rw[this]
theorem getItem_tuple_cut{lo hi:Option Int}(ht:IsTup s.heap t items)(hs:s.heap.IsSliceOf sl vl vu .none)(pl:IsPart vl lo)(pu:IsPart vu hi)
  (hw:¬(sIx items.size 0 lo=0/\sIx items.size items.size hi=items.size))
  (h:Q (.ref s.z) {s with heap:=s.heap.push {cls:=.type "tuple",data:=.seq ((items.toList.drop (sIx items.size 0 lo)).take (sIx items.size items.size hi-sIx items.size 0 lo)).toArray}})
  (m9:items.size<=sizeLine):Δ prog w A (getItem (.ref t) (.ref sl)) Q E s:=by
 have p9:sizeOk (.seq ((items.toList.drop (sIx items.size 0 lo)).take (sIx items.size items.size hi-sIx items.size 0 lo)).toArray):=by
  show((items.toList.drop (sIx items.size 0 lo)).take (sIx items.size items.size hi-sIx items.size 0 lo)).toArray.size<=sizeLine;rw[bI,nQ,nN,dD];exact qz1 m9
 have hj:sIx items.size items.size hi<=items.size:=E3 _ _ (bU _) hi;obtain⟨os,xc,hcs,tz⟩:=id hs;have hTs:s.TypeIs (.ref sl) "slice":=⟨os,xc,hcs⟩;unfold getItem
 try with_reducible refine gM ?_
 first |refine aA (aN ?_) |skip
 refine aA (wpAny_sequenceKey ht.typeIs η ?_);refine aA (iJ (name:=mU "__getitem__") ht.typeIs sM
  (iR sM ht.typeIs entry_tuple_getitem ?_ (args_tuple_getitem _ _)))
 show wpAny _ _ (Builtin.Tuple.tupleItemsOf (.ref t) >>= _) _ _ s;refine aA (tupleItemsOf_ ht ?_);refine aA (sK hTs ?_);rw[Ω η];refine aA (MU hs pl pu ?_);have z6:¬((((sIx items.size 0 lo:Nat):Int) == 0 && (1:Int) == 1 && (sIx items.size items.size hi-sIx items.size 0 lo) == items.size)=ζ):=by
  intro q;rw[jI,jI] at q;have q1:((sIx items.size 0 lo:Nat):Int)=0:=eq_of_beq q.1.1;have q2:sIx items.size items.size hi-sIx items.size 0 lo=items.size:=eq_of_beq q.2;exact hw ⟨ν,ν⟩
 show wpAny _ _ (if(((sIx items.size 0 lo:Nat):Int) == 0 && (1:Int) == 1 && (sIx items.size items.size hi-sIx items.size 0 lo) == items.size)=ζ then _ else _) _ _ s;rw[υ z6,Rk]
 first
  |exact aA (m:=mZ _) (gB (aN ⟨_,rfl,aN h⟩) p9)
  |exact aA (m:=mZ _) (gB (aA (aN (aN ⟨_,rfl,aN h⟩))) p9)
  |exact aA (aA (m:=mZ _) (gB (aN (aN ⟨_,rfl,aN h⟩)) p9))
  |exact aA (aA (m:=mZ _) (gB (aN ⟨_,rfl,aN h⟩) p9))
end
end HT
namespace L2
open PySem PySem.Spec PyProof.Rows
abbrev TO:=St->Hp->(Option Int->Hp->Prop)->Prop
def PO(X:Cx)(e:Option Expr)(t:TO):Prop:=
 ∀(Γ:ω (Addr×Obj))(s:aH)(Z:St)(H:Hp)(Q:Option Int->Hp->Prop),Inv X Γ Z H s->t Z H Q ->
  Θ X (evalPart e X.env) (λu s'=>∃o H',Inv X Γ Z H' s'/\IsPart u o/\Q o H') X.xe s
def Wh:TO:=λ_ H Q=>Q ξ H
def Q0(t:TE):TO:=λZ H Q=>t Z H λx H1=>∃i,x = .int i/\Q (ψ i) H1
def intsAre_of:∀{us:ω aF},au (ns.map V.int) us->IntsAre us ns:=by
 induction ns with
 |nil=>intro us r;rw[bO] at r;cases r;exact .nil
 |cons n ns ih=>
  intro us r;rw[aR] at r;cases r with
  |cons r1 r2=>
   obtain⟨t,e⟩:=r1;subst e;exact .cons n t (ih r2)
section
variable{X:Cx}{te:TE}{lo hi:Option Expr}{tl th:TO}
def Vm:PO X ξ Wh:=by
 intro Γ s Z H Q I h;rw[UU];exact aN ⟨ξ,H,I,.none,h⟩
def Vn(h:PE X e te):PO X (ψ e) (Q0 te):=by
 intro Γ s Z H Q I hw;rw[evalPart_some];refine dh (h Γ s Z H _ I hw) λu s1 ⟨x,H1,I1,r1,q1⟩=>?_;obtain⟨i,rfl,q⟩:=q1;obtain⟨t,rfl⟩:=r1;exact⟨ψ i,H1,I1,.int i t,q⟩
def wg(X:Cx)(r:V->Option Int->Option Int->Hp->VK->Prop):Prop:=
 ∀(Γ:ω (Addr×Obj))(s:aH)(Z:St)(H:Hp)(x:V)(v vl vu:aF)(lo hi:Option Int)(sl:Addr)(Q:VK),Inv X Γ Z H s->RelV x v->s.heap.IsSliceOf sl vl vu .none->IsPart vl lo->IsPart vu hi->r x lo hi H Q ->
  ∃T id,typeLookup (.type T) "__getitem__" = pure (ψ (.builtin id))/\s.TypeIs v T/\Θ X (getItem v (.ref sl)) (EP X Γ Z Q) X.xe s
theorem wg.or(h:wg X r)(h':wg X r'):wg X (λx lo hi H Q=>r x lo hi H Q\/r' x lo hi H Q):=by
 intro Γ s Z H x v vl vu lo hi sl Q I rx hs pl pu q;rcases q with q |q
 ·exact h Γ s Z H x v vl vu lo hi sl Q I rx hs pl pu q
 ·exact h' Γ s Z H x v vl vu lo hi sl Q I rx hs pl pu q
def tSl(r:V->Option Int->Option Int->Hp->VK->Prop)(te:TE)(tl th:TO):TE:=λZ H Q=>te Z H λx H1=>tl Z H1 λl H2=>th Z H2 λu H3=>r x l u H3 Q
def Cs(hr:wg X r)(he:PE X e te)(hl:PO X lo tl)(hu:PO X hi th):PE X (.Subscript e (.Slice lo hi ξ p2) pos) (tSl r te tl th):=by
 intro Γ s Z H Q I h;refine Subscript_ (dh (he Γ s Z H _ I h) λv s1 ⟨x,H1,I1,r1,q1⟩=>?_);refine wpAny_Slice (dh (hl Γ s1 Z H1 _ I1 q1) λvl s2 ⟨l,H2,I2,pl,q2⟩=>dh (hu Γ s2 Z H2 _ I2 q2) λvu s3 ⟨u,H3,I3,pu,q3⟩=>?_);rw[UU];refine aN ?_;have I4:Inv X Γ Z H3 {s3 with heap:=s3.heap.push {cls:=.type "slice",data:=.fields #[vl,vu,.none]}}:=I3.kept (t':=s3.toks) λb ob q=>aU _ q;obtain⟨T,id,hT,ht,hg⟩:=hr Γ {s3 with heap:=s3.heap.push {cls:=.type "slice",data:=.fields #[vl,vu,.none]}} Z H3 x v vl vu l u s3.z Q I4 r1 (Heap.IsSliceOf.new ..) pl pu q3;show Θ X (subscriptTail e (.Slice lo hi ξ p2) v (.ref s3.z)) (EP X Γ Z Q) X.xe {s3 with heap:=s3.heap.push {cls:=.type "slice",data:=.fields #[vl,vu,.none]}};exact tail_any (ops:=[.ref s3.z,v]) ht hT hg (by with_unfolding_all rfl)
def US(xs:ω V)(lo hi:Option Int):ω V:=(xs.drop (HT.sIx xs.length 0 lo)).take (HT.sIx xs.length xs.length hi-HT.sIx xs.length 0 lo)
theorem NB(xs:ω V)(lo hi:Option Int):(US xs lo hi).length<=xs.length:=by
 unfold US;rw[nQ,nN];exact qz1 (bU _)
def U6(K:aI):V->Option Int->Option Int->Hp->VK->Prop:=λx lo hi H Q=>∃a xs,x = .ref a/\f8 K H a xs /\
 ¬(HT.sIx xs.length 0 lo=0/\HT.sIx xs.length xs.length hi=xs.length)/\∀p,H p=ξ->Q (.ref p) (ck H p (.tup (US xs lo hi)))
def E4:wg X (U6 X.K):=by
 intro Γ s Z H x v vl vu lo hi sl Q I rx hs pl pu h;obtain⟨a,xs,rfl,hx,hw,q⟩:=h;cases rx;obtain⟨its,r,ht,hz⟩:=I.tuple hx;have hlen:its.toArray.size=xs.length:=by rw[bI];exact r.length.symm
 refine⟨"tuple",_,PyProof.Rows.slot_tuple_getitem.lookup,ht.typeIs,?_⟩;refine HT.getItem_tuple_cut ht hs pl pu (by rw[hlen];exact hw) ?_ (by rw[hlen];exact hz);rw[hlen];refine⟨.ref s.z,_,I.laid (t':=s.toks) (o:=.tup (US xs lo hi)) (λb ob q=>aU _ q) (bU _) ?_,rfl,q _ (I.hok.fresh (bU _))⟩;exact⟨fR (NB xs lo hi) hz,_,(r.drop (HT.sIx xs.length 0 lo)).take (HT.sIx xs.length xs.length hi-HT.sIx xs.length 0 lo),KU _ _⟩
def U0(K:aI):R2:=λx y H Q=>∃a b ns ms,x = .ref a/\y = .ref b/\f8 K H a (ns.map V.int)/\f8 K H b (ms.map V.int)/\Q (.bl (HT.lexLt ns ms)) H
def A4(hu:X.A.units<cLine):ke X (compareOp .Lt) (U0 X.K):=by
 intro Γ s Z H x y v u Q I rx ry h;obtain⟨a,b,ns,ms,rfl,rfl,ha,hb,q⟩:=h;cases rx;cases ry;obtain⟨its,r1,p1,_⟩:=I.tuple ha;obtain⟨f7,r2,p2,_⟩:=I.tuple hb;have i1:IntsAre its.toArray.toList ns:=intsAre_of r1;have i2:IntsAre f7.toArray.toList ms:=intsAre_of r2;exact HT.lt_tupInts p1 p2 i1 i2 hu ⟨.bl (HT.lexLt ns ms),H,I,rfl,q⟩
def N3(K:aI):R2:=λx y H Q=>∃a b xs ys,x = .ref a/\y = .ref b/\f8 K H a xs/\f8 K H b ys/\xs≠[]/\xs.length+ys.length<=sizeLine /\
 (ys=[]->Q (.ref a) H)/\(ys≠[]->∀p,H p=ξ->Q (.ref p) (ck H p (.tup (xs++ys))))
theorem au.nil_iff(r:au xs us):us=[]↔xs=[]:=by
 cases r with
 |nil=>simp
 |cons _ _=>simp
def Vc:ke X (binaryOp .Add) (N3 X.K):=by
 intro Γ s Z H x y v u Q I rx ry h;obtain⟨a,b,xs,ys,rfl,rfl,ha,hb,hx,hz,q1,q2⟩:=h;cases rx;cases ry;obtain⟨its,r1,p1,_⟩:=I.tuple ha;obtain⟨f7,r2,p2,_⟩:=I.tuple hb;refine HT.cat_tup p1 p2 (λz=>hx (r1.nil_iff.mp z)) (λz=>⟨.ref a,H,I,rfl,q1 (r2.nil_iff.mp z)⟩) (λz=>?_) (by rw[<-r1.length,<-r2.length];exact hz);refine⟨.ref s.z,_,I.laid (t':=s.toks) (o:=.tup (xs++ys)) (λb ob q=>aU _ q) (bU _) ?_,rfl,q2 (λw=>z (r2.nil_iff.mpr w)) _ (I.hok.fresh (bU _))⟩;exact⟨by rw[bR];exact hz,_,r1.append r2,KU _ _⟩
end
def n9(n:Nat)(i:Int):Option Nat:=if 0<=i then(if i<n then ψ i.toNat else ξ) else if -(n:Int)<=i then ψ (i+n).toNat else ξ
def jm{α:Type}(xs:ω α)(i:Int):Option α:=(n9 xs.length i).bind λj=>xs[j]?
def Uh(h:n9 n i=ψ j):seqIndex? i n=ψ j/\j<n/\-(n:Int)<=i/\i<n:=by
 unfold n9 at h;by_cases h0:0<=i
 ·rw[Ω h0] at h;by_cases h1:i<n
  ·rw[Ω h1] at h;have e:i.toNat=j:=eK h;exact⟨by rw[seqIndex_of h0 h1,e],ν,ν,h1⟩
  ·rw[υ h1] at h;cases h
 ·rw[υ h0] at h;by_cases h1:-(n:Int)<=i
  ·rw[Ω h1] at h;have e:(i+n).toNat=j:=eK h;exact⟨by rw[seqIndex_neg ν h1,e],ν,h1,ν⟩
  ·rw[υ h1] at h;cases h
def Ii{α:Type}{xs:ω α}{v:α}(h:jm xs i=ψ v):∃j,seqIndex? i xs.length=ψ j/\xs[j]?=ψ v/\j<xs.length/\-(xs.length:Int)<=i/\i<xs.length:=by
 unfold jm at h;cases e:n9 xs.length i with
 |none=>rw[e] at h;cases h
 |some j=>
  rw[e] at h;obtain⟨h1,h2,h3,h4⟩:=Uh e;exact⟨j,h1,h,h2,h3,h4⟩
def Ij{α:Type}{xs:ω α}{j:Nat}{v:α}(h:xs[j]?=ψ v):jm xs (j:Int)=ψ v:=by
 have hj:j<xs.length:=(cB.mp h).1;have e:n9 xs.length (j:Int)=ψ j:=by
  unfold n9;rw[Ω ν,Ω ν];simp
 unfold jm;rw[e];exact h
def Ah{α:Type}(xs:ω α)(v:α):jm (xs++[v]) (-1)=ψ v:=by
 have hl:(xs++[v]).length=xs.length+1:=δ
 have e:n9 (xs++[v]).length (-1)=ψ xs.length:=by
  unfold n9;rw[hl,υ η,Ω ν];congr 1;lia
 unfold jm;rw[e];show(xs++[v])[xs.length]?=ψ v;simp
def Ig(b:Expr):Prop:=∀o i,subscripted b χ o i=operate [o,i] (getItem o i)
def wa(X:Cx)(r:R2):Prop:=
 ∀(value slice:Expr)(Γ:ω (Addr×Obj))(s:aH)(Z:St)(H:Hp)(x y:V)(v u:aF)(Q:VK),Inv X Γ Z H s->RelV x v->RelV y u->r x y H Q ->
  subscripted slice χ v u=operate [v,u] (getItem v u)->Θ X (subscriptTail value slice v u) (EP X Γ Z Q) X.xe s
def U'(X:Cx)(id:String)(r:V->ω V->Hp->VK->Prop):Prop:=
 ∀(Γ:ω (Addr×Obj))(s:aH)(Z:St)(H:Hp)(x:V)(xs:ω V)(v:aF)(us:ω aF)(Q:VK),Inv X Γ Z H s->RelV x v->au xs us->r x xs H Q ->
  Θ X (call (.builtin id) (v::us)) (EP X Γ Z Q) X.xe s
section
variable{X:Cx}{a b:Expr}
theorem wa.or(h:wa X r)(h':wa X r'):wa X (λx y H Q=>r x y H Q\/r' x y H Q):=by
 intro value slice Γ s Z H x y v u Q I rx ry q hs;rcases q with q |q
 ·exact h value slice Γ s Z H x y v u Q I rx ry q hs
 ·exact h' value slice Γ s Z H x y v u Q I rx ry q hs
def M3(hr:wa X r)(ha:PE X a ta)(hb:PE X b tb)(hs:Ig b):PE X (.Subscript a b pos) (O' r ta tb):=by
 intro Γ s Z H Q I h;exact Subscript_ (Yj ha hb I h λv u s2 x y H2 I2 rx ry q=>hr a b Γ s2 Z H2 x y v u Q I2 rx ry q (hs _ _))
def T6(K:aI):R2:=λx y H Q=>∃p xs i v,x = .ref p/\y = .int i/\iu K H p xs/\jm xs i=ψ v/\Q v H
def T7(K:aI):R2:=λx y H Q=>∃p xs i v,x = .ref p/\y = .int i/\f8 K H p xs/\jm xs i=ψ v/\Q v H
theorem Ui:wa X (T6 X.K):=by
 intro value slice Γ s Z H x y v u Q I rx ry h hs;obtain⟨p,xs,i,z,rfl,rfl,hq,he,q⟩:=h;cases rx;obtain⟨t,rfl⟩:=ry;obtain⟨its,r,pl,hz⟩:=I.list hq;obtain⟨j,h1,h2,h3,h4,h5⟩:=Ii he;obtain⟨w,ew,kc⟩:=r.get h2;have hl:=r.length;have hn:=Ge;have fin:EP X Γ Z Q w s:=⟨z,H,I,kc,q⟩;by_cases h0:0<=i
 ·have hj:i.toNat=j:=by
   rw[seqIndex_of h0 h5] at h1;exact eK h1
  exact item_listR pl.isList h0 ν (by rw[hj];simpa using ew) fin hs
 ·have hj:(i+(its.toArray.size:Int)).toNat=j:=by
   rw[seqIndex_neg ν h4] at h1;rw[bI,<-hl];exact eK h1
  exact AG (x:=w) pl.isList.typeIs slot_list_getitem.lookup
   (wpAny_getItem_list_neg (Q:=λr s'=>r=w/\EP X Γ Z Q r s') pl.isList ν (by rw[bI] <;> lia) ν (by rw[hj];simpa using ew) ⟨rfl,fin⟩) hs
theorem Zj:wa X (T7 X.K):=by
 intro value slice Γ s Z H x y v u Q I rx ry h hs;obtain⟨p,xs,i,z,rfl,rfl,hq,he,q⟩:=h;cases rx;obtain⟨t,rfl⟩:=ry;obtain⟨its,r,pl,hz⟩:=I.tuple hq;obtain⟨j,h1,h2,h3,h4,h5⟩:=Ii he;obtain⟨w,ew,kc⟩:=r.get h2;have hl:=r.length;have hn:=Ge;have fin:EP X Γ Z Q w s:=⟨z,H,I,kc,q⟩;exact AG (x:=w) pl.typeIs slot_tuple_getitem.lookup
  (getItem_tuple (j:=j) (Q:=λr s'=>r=w/\EP X Γ Z Q r s') pl ν ν (by rw[bI,<-hl];exact h1) (by simpa using ew) ⟨rfl,fin⟩) hs
theorem ZV(lo hi:Option Int)(n:Nat):(sliceBounds lo hi ξ n).1=((HT.sIx n 0 lo:Nat):Int)/\(sliceBounds lo hi ξ n).2.1=((HT.sIx n n hi:Nat):Int)/\(sliceBounds lo hi ξ n).2.2=1:=by
 refine⟨?_,?_,rfl⟩;rcases lo with _|i;rotate_left 2;rcases hi with _|i;all_goals first |(simp[sliceBounds,HT.sIx];done) |simp only[sliceBounds,HT.sIx,LH,show(1:Int) > 0 by decide,if_true]
 all_goals by_cases h:i<0 <;> simp only[h,if_true,if_false]
 all_goals first |exact qz8 h |lia
def VH(its:ω aF)(lo hi:Option Int):slicePick its.toArray lo hi ξ=((its.drop (HT.sIx its.length 0 lo)).take (HT.sIx its.length its.length hi-HT.sIx its.length 0 lo)).toArray:=by
 obtain⟨h1,h2,h3⟩:=ZV lo hi its.toArray.size;unfold slicePick;rw[h1,h2,h3];simp only[sliceRange_one,pick_run,bI] <;> rfl
def U5(K:aI):V->Option Int->Option Int->Hp->VK->Prop:=λx lo hi H Q=>∃a xs,x = .ref a/\iu K H a xs/\∀p,H p=ξ->Q (.ref p) (ck H p (.lst (US xs lo hi)))
theorem Ke:wg X (U5 X.K):=by
 intro Γ s Z H x v vl vu lo hi sl Q I rx hs pl pu h;obtain⟨a,xs,rfl,hx,q⟩:=h;cases rx;obtain⟨its,r,ht,hz⟩:=I.list hx;have hlen:=r.length;refine⟨"list",_,slot_list_getitem.lookup,ht.isList.typeIs,?_⟩;refine wpAny_getItem_list_slice ht.isList hs pl pu .none δ ?_ (by rw[bI] <;> lia);rw[VH,<-hlen];refine⟨.ref s.z,_,I.laid (t':=s.toks) (o:=.lst (US xs lo hi)) (λb ob q=>aU _ q) (bU _) ?_,rfl,q _ (I.hok.fresh (bU _))⟩;exact⟨fR (NB xs lo hi) hz,_,0,(r.drop (HT.sIx xs.length 0 lo)).take (HT.sIx xs.length xs.length hi-HT.sIx xs.length 0 lo),cD _ rfl⟩
theorem YB:yA X (.builtin "len") (λxs H Q=>∃p ys,xs=[.ref p]/\(iu X.K H p ys\/f8 X.K H p ys)/\Q (.int ys.length) H):=by
 intro Γ s Z H xs us Q I r h;obtain⟨p,ys,rfl,hq,q⟩:=h;obtain⟨u,rfl,rx⟩:=vals1 r;cases rx;have hn:=Ge;rcases hq with hq |hq
 ·obtain⟨its,r',pl,hz⟩:=I.list hq;have hlen:=r'.length;exact Calls.call_len_list pl.isList (by simp only[bI] <;> lia) ⟨.int ys.length,H,I.tok _,⟨s.toks+1,by rw[bI,hlen]⟩,q⟩
 ·obtain⟨its,r',pl,hz⟩:=I.tuple hq;have hlen:=r'.length;exact len_tuple pl (by simp only[bI] <;> lia) ⟨.int ys.length,H,I.tok _,⟨s.toks+1,by rw[bI,hlen]⟩,q⟩
theorem YC:yA X (.type "list") (λxs H Q=>∃p ys,xs=[.ref p]/\(iu X.K H p ys\/f8 X.K H p ys)/\∀l,H l=ξ->Q (.ref l) (ck H l (.lst ys))):=by
 intro Γ s Z H xs us Q I r h;obtain⟨p,ys,rfl,hq,q⟩:=h;obtain⟨u,rfl,rx⟩:=vals1 r;cases rx;have fin:∀(its:ω aF),au ys its->ys.length<=sizeLine->∀(h':Heap)(c':Nat),(∀b o',s.heap.get? b=ψ o'->h'.get? b=ψ o') ->
   h'.get? s.z=ψ {cls:=.type "list",dict:=ξ,data:=.seq its.toArray c',slots:=#[]}->EP X Γ Z Q (.ref s.z) {s with heap:=h'}:=λits r' hz h' c' kp e=>
  ⟨.ref s.z,_,I.laid (t':=s.toks) kp (bU _) (show ca X.prog X.w _ h' _ (.lst ys) from⟨hz,its,c',r',e⟩),rfl,q _ (I.hok.fresh (bU _))⟩
 rcases hq with hq |hq
 ·obtain⟨its,r',pl,hz⟩:=I.list hq;have hlen:=r'.length;obtain⟨o,ho,hc,n,hd⟩:=pl.isList;exact UN p (.inl rfl) ho hc hd (λh' c' kp e=>fin its r' hz h' c' kp e) (by simp only[bI] <;> lia)
 ·obtain⟨its,r',pl,hz⟩:=I.tuple hq;have hlen:=r'.length;obtain⟨o,ho,hc,n,hd⟩:=pl;exact UN p (.inr rfl) ho hc hd (λh' c' kp e=>fin its r' hz h' c' kp e) (by simp only[bI] <;> lia)
theorem UQ:yA X (.type "tuple") (λxs H Q=>∃p ys,xs=[.ref p]/\((iu X.K H p ys/\∀l,H l=ξ->Q (.ref l) (ck H l (.tup ys)))\/(f8 X.K H p ys/\Q (.ref p) H))):=by
 intro Γ s Z H xs us Q I r h;obtain⟨p,ys,rfl,h⟩:=h;obtain⟨u,rfl,rx⟩:=vals1 r;cases rx;rcases h with⟨hq,q⟩ | ⟨hq,q⟩
 ·obtain⟨its,r',pl,hz⟩:=I.list hq;have hlen:=r'.length;refine call_tuple_list pl.isList (λh' kp=>?_) (by simp only[bI] <;> lia);have I1:Inv X Γ Z H {s with heap:=h'}:=I.kept (t':=s.toks) kp;have I2:Inv X Γ Z (ck H h'.objs.size (.tup ys)) {s with heap:=h'.push {cls:=.type "tuple",data:=.seq its.toArray}}:=
   I1.laid (t':=s.toks) (λb o e=>aU _ e) (bU _) (show ca X.prog X.w _ _ _ (.tup ys) from⟨hz,its,r',KU _ _⟩)
  exact⟨.ref h'.objs.size,_,I2,rfl,q _ (I1.hok.fresh (bU _))⟩
 ·obtain⟨its,r',pl,hz⟩:=I.tuple hq;exact call_tuple_same pl ⟨.ref p,H,I,rfl,q⟩
def tyV(K:aI)(T:String)(x:V)(H:Hp):Prop:=match x with
 | .str _=>T = "str"
 | .int _=>T = "int"
 | .ref p=>(T = "list"/\∃xs,iu K H p xs)\/(T = "tuple"/\∃o,K.lookup p=ψ o/\o.cls = .type "tuple"/\o.dict=ξ) \/
   (T = "dict"/\((∃kvs,H p=ψ (.dK kvs))\/∃kvs,H p=ψ (.dT kvs)))\/(T = "set"/\∃S n,H p=ψ (.set S n))
 |_=>False
def Su{Z:St}{s:aH}(I:Inv X Γ Z H s)(r:RelV x v)(ty:tyV X.K T x H):
  s.TypeIs v T/\∀a,v = .ref a->∃ob,s.heap.get? a=ψ ob/\ob.dict=ξ:=by
 cases x with
 |str z=>
  obtain⟨t,rfl⟩:=r;cases (show T = "str" from ty);exact⟨typeIs_str s z t,λ_ e=>nomatch e⟩
 |int i=>
  obtain⟨t,rfl⟩:=r;cases (show T = "int" from ty);exact⟨typeIs_int s i t,λ_ e=>nomatch e⟩
 |ref p=>
  cases r;rcases ty with⟨rfl,xs,hq⟩ | ⟨rfl,o,hk,hc,hd⟩ | ⟨rfl,hk⟩ | ⟨rfl,S,n,hk⟩
  ·obtain⟨its,_,pl,_⟩:=I.list hq;refine⟨pl.isList.typeIs,λa e=>?_⟩;cases e;obtain⟨o,n,e,c,hd,_⟩:=pl;exact⟨o,e,hd⟩
  ·refine⟨⟨o,I.kIn p o hk,hc⟩,λa e=>?_⟩;cases e;exact⟨o,I.kIn _ o hk,hd⟩
  ·have z:∃o,s.heap.get? p=ψ o/\o.ExactDict:=by
    rcases hk with⟨kvs,hk⟩ | ⟨kvs,hk⟩
    ·obtain⟨_,_,_,_,o,_,_,e,ex,_⟩:=I.hok p _ hk;exact⟨o,e,ex⟩
    ·obtain⟨_,_,_,_,o,_,_,e,ex,_⟩:=I.hok p _ hk;exact⟨o,e,ex⟩
   obtain⟨o,e,ex⟩:=z;refine⟨⟨o,e,ex.1⟩,λa e2=>?_⟩;cases e2;exact⟨o,e,ex.2.1⟩
  ·obtain⟨o,_,_,_,e,ex,_⟩:=I.hok p _ hk;refine⟨⟨o,e,ex.1⟩,λa e2=>?_⟩;cases e2;exact⟨o,e,ex.2.1⟩
 |_=>exact oA ty
def V5(K:aI)(T:String)(r:V->ω V->Hp->VK->Prop)(to:TE):TE:=λZ H Q=>to Z H λx H1=>tyV K T x H1/\r x [] H1 Q
def tBM(K:aI)(T:String)(r:V->ω V->Hp->VK->Prop)(to:TE)(t:TA):TE:=λZ H Q=>to Z H λx H1=>tyV K T x H1/\t Z H1 λxs H2=>r x xs H2 Q
variable{o e:Expr}{to:TE}{name:Str}{apos cpos:Pos}{T id:String}{r:V->ω V->Hp->VK->Prop}
def A6(pa:PlainAttrs T)(slot:Slot T name id)(hty:typeOf (.builtin id)=pure (.type "method_descriptor"))(hm:U' X id r)(ho:PE X o to)
  (gq:attributeBase o name X.env (eval o X.env)=eval o X.env:=by rfl) (gt:(apos.endLine == cpos.line)=ζ:=by rfl):PE X (.Call (.Attribute o name apos) [] [] cpos) (V5 X.K T r to):=by
 intro Γ s Z H Q I h;refine wpAny_Call_method0_late gq gt (dh (ho Γ s Z H _ I h) λv s1 ⟨x,H1,I1,r1,ty,q1⟩=>?_);obtain⟨h1,h2⟩:=Su I1 r1 ty;exact⟨T,id,pa,slot,hty,h1,h2,zA rfl (PySem.evalArgs_none (hm Γ s1 Z H1 x [] v [] Q I1 r1 .nil q1))⟩
theorem Cr(pa:PlainAttrs T)(slot:Slot T name id)(hty:typeOf (.builtin id)=pure (.type "method_descriptor"))(hm:U' X id r)(ho:PE X o to)(ha:PA X (e::es) t)
  (gq:attributeBase o name X.env (eval o X.env)=eval o X.env:=by rfl)
  (mr:((backTo cpos (starEach (e::es) X.env)).all (λx=>!x.1) && (backToKw cpos (keywordEach [] X.env)).all (λx=>x.1.isSome)
   && decide ((e::es).length+([]:ω qW).length+(if([]:ω qW).isEmpty then 0 else 1)<30))=ζ:=by rfl)
  (gt:(apos.endLine == cpos.line)=ζ:=by rfl) (hs:starEach (e::es) X.env=(χ,eval e X.env)::starEach es X.env:=by rfl) (xf:(backTo cpos (starEach es X.env)).any (·.1)=χ:=by rfl):
  PE X (.Call (.Attribute o name apos) (e::es) [] cpos) (tBM X.K T r to t):=by
 intro Γ s Z H Q I h;refine wpAny_Call_method_late gq mr gt rfl (dh (ho Γ s Z H _ I h) λv s1 ⟨x,H1,I1,r1,ty,q1⟩=>?_);obtain⟨h1,h2⟩:=Su I1 r1 ty;refine⟨T,id,pa,slot,hty,h1,h2,?_⟩;have hA:=ha cpos Γ s1 Z H1 _ I1 q1;rw[hs] at hA⊢;refine zA (by show(χ || (backTo cpos (starEach es X.env)).any (·.1))=χ;rw[xf] <;> rfl) (Calls.evalArgs_plain ?_);exact dh hA λus s2 ⟨vs,H2,I2,r2,q2⟩=>hm Γ s2 Z H2 x vs v us Q I2 r1 r2 q2
end
def MtM(X:Cx)(id:String)(r:V->ω V->Hp->VK->Prop):Prop:=
 ∀(Γ:ω (Addr×Obj))(s:aH)(Z:St)(H:Hp)(x:V)(xs:ω V)(v:aF)(us:ω aF)(Q:VK),Inv X Γ Z H s->RelV x v->au xs us->r x xs H Q ->
  Θ X (call (.builtin id) (v::us)) (EP X Γ Z Q) X.xe s
theorem au.one(h:au [x] us):∃u,us=[u]/\RelV x u:=by
 cases h with
 |cons r t=>cases t;exact⟨_,rfl,r⟩
theorem au.two(h:au [x,y] us):∃u v,us=[u,v]/\RelV x u/\RelV y v:=by
 cases h with
 |cons r t=>
  obtain⟨_,rfl,q⟩:=au.one t;exact⟨_,_,rfl,r,q⟩
theorem au.zero:∀{us:ω aF},au [] us->us=[]
 |_,.nil=>rfl
theorem au.dropLast(h:au xs us):au xs.dropLast us.dropLast:=by
 induction h with
 |nil=>exact .nil
 |cons r t ih=>
  cases t with
  |nil=>exact .nil
  |cons q t'=>exact .cons r ih
theorem Fx{α:Type}(l:ω α):l.eraseIdx (l.length-1)=l.dropLast:=by
 induction l with
 |nil=>rfl
 |cons a r ih=>
  cases r with
  |nil=>rfl
  |cons b r=>
   have e:(a::b::r).length-1=((b::r).length-1)+1:=by
    have h1:(a::b::r).length=r.length+2:=rfl;have h2:(b::r).length=r.length+1:=rfl;lia
   rw[e,List.eraseIdx_cons_succ,ih]
   all_goals rfl
section
variable{X:Cx}{Γ:ω (Addr×Obj)}{σ:St}{H:Hp}{s:aH}{l b:Addr}{xs ys zs:ω V}
theorem Inv.lset{its its':ω aF}{n:Nat}{f:Array aF->Array aF}{t':Nat}(I:Inv X Γ σ H s)(hH:H l=ψ (.lst xs))
  (e:s.heap.get? l=ψ {cls:=.type "list",data:=.seq its.toArray n}) (hf:f its.toArray=its'.toArray) (hv:au ys its') (hz:ys.length<=sizeLine):
  Inv X Γ σ (ck H l (.lst ys)) {s with heap:=s.heap.update l (eG f),toks:=t'}:=by
 have q:=LI e f;rw[hf] at q;refine I.write (x:=l) (e:=l) (by rw[hH];exact trivial) (.inl rfl) (λb' u hb hu=>(dE s.heap (eG f) (Ne.symm hb)).trans hu) ⟨_,q⟩ ?_;exact⟨hz,its',_,hv,q⟩
theorem Inv.lnew(I:Inv X Γ σ H s)(hv:au ys its)(hz:ys.length<=sizeLine):
  Inv X Γ σ (ck H s.z (.lst ys)) {s with heap:=s.heap.push {cls:=.type "list",data:=.seq its.toArray},toks:=t'}:=
 I.laid (λ_ _ q=>aU _ q) (bU _) ⟨hz,its,0,hv,cD _ rfl⟩
theorem Inv.fresh(I:Inv X Γ σ H s):H s.z=ξ:=I.hok.fresh (bU _)
theorem Inv.lstM(I:Inv X Γ σ H s)(hH:H l=ψ (.lst xs)):xs.length<=sizeLine/\∃(its:ω aF)(n:Nat),au xs its/\xs.length=its.length/\s.heap.get? l=ψ {cls:=.type "list",data:=.seq its.toArray n}:=by
 obtain⟨z,its,n,r,e⟩:=I.hok l _ hH;exact⟨z,its,n,r,r.length,e⟩
theorem Qu(h:n<=sizeLine):mY n=χ:=by
 unfold mY;exact decide_eq_false ν
end
def Js:V->ω V->Hp->VK->Prop:=λx vs H Q=>∃l xs y,x = .ref l/\vs=[y]/\H l=ψ (.lst xs)/\xs.length<sizeLine/\Q .non (ck H l (.lst (xs++[y])))
def WP:MtM X "list.append" Js:=by
 intro Γ s Z H x vs v us Q I rx rv h;obtain⟨l,xs,y,rfl,rfl,hH,hz,q⟩:=h;cases rx;obtain⟨u,rfl,ru⟩:=rv.one;obtain⟨z,its,n,r,hl,e⟩:=I.lstM hH;refine zP F.slot_list_append ⟨_,e,rfl⟩ F.entry_list_append (F.args_list_append_2 _ _) (IT l its.toArray n u (by rw[bI];lia)) ⟨e,?_⟩;refine⟨.non,_,I.lset (its':=its++[u]) hH e δ (r.append (.cons ru .nil)) ?_,rfl,q⟩;rw[bR,sP];lia
def U3:V->ω V->Hp->VK->Prop:=λx vs H Q=>∃l xs y,x = .ref l/\vs=[]/\H l=ψ (.lst xs)/\xs[xs.length-1]?=ψ y/\Q y (ck H l (.lst xs.dropLast))
def Zu:MtM X "list.pop" U3:=by
 intro Γ s Z H x vs v us Q I rx rv h;obtain⟨l,xs,y,rfl,rfl,hH,hy,q⟩:=h;cases rx;have hus:=rv.zero;subst hus;obtain⟨z,its,n,r,hl,e⟩:=I.lstM hH;obtain⟨u,hu,ru⟩:=r.get hy;have hy':its.toArray[its.toArray.size-1]?=ψ u:=by
  show its.toArray[its.length-1]?=ψ u;rw[<-BA,<-hl];exact hu
 refine zP F.slot_list_pop ⟨_,e,rfl⟩ F.entry_list_pop (F.args_list_pop_1 _) (MeetsSeq.list_pop_last l its.toArray n u hy' (by rw[bI];lia)) ⟨e,?_⟩;refine⟨y,_,I.lset (its':=its.dropLast) hH e ?_ r.dropLast ?_,ru,q⟩
 ·show its.toArray.eraseIdxIfInBounds (its.toArray.size-1)=its.dropLast.toArray;rw[bI,List.eraseIdxIfInBounds_toArray,Fx]
 ·rw[BY];lia
end L2
namespace Att
open PySem PySem.W PySem.Calls PyProof.Rows
def OH:∀(ns:ω Int)(vs:ω aF),WellAll P h vs (ns.map WData.int)->IntsAre vs ns:=by
 intro ns
 induction ns with
 |nil=>
  intro vs w;rw[bO] at w;cases w;exact .nil
 |cons n ns ih=>
  intro vs w;rw[aR] at w;cases w with
  |cons a b=>
   cases a;exact .cons _ _ (ih _ b)
theorem Mx{l:OpenLaw}{n:Nat}(hn:l.most=ψ n){P:Params}{h:Heap}{args:ω WData}{vals:ω aF}
  (ur:l.row.toRowW.claim.pre args=ζ) (hwl:WellAll P h vals args):
  ∃a vs ns,vals=[gD a]/\args=[WData.list (ns.map WData.int)]/\h.get? a=ψ {cls:=.type "list",data:=.seq vs.toArray}/\IntsAre vs ns/\ns.length<=n:=by
 have hsh:WShape.hasAll [] args [.list .int]=ζ:=(pre_splitW ur).1;have hc:l.pre.holds [] {args:=args} = ζ:=(pre_splitW ur).2;obtain⟨d,r,rfl,h1,h2⟩:=hasAllW_cons hsh;obtain rfl:=hasAllW_nil h2;obtain⟨xs,rfl,h3⟩:=hasW_list h1;obtain⟨ns,rfl⟩:=items_int h3;have hlen:ns.length<=n:=by
  unfold OpenLaw.pre at hc;have h4:(WTm.not (.lt (.lit (.int (n:Int))) (.len (.arg 0)))).holds [] {args:=[.list (ns.map .int)]} = ζ:=by
   have h4:=(holds_andW hc).1;rw[hn] at h4;exact h4
  have h5:=condW_of h4 (w_not (w_lt w_lit (w_len_list (w_arg rfl))));rw[aY] at h5;refine Nat.le_of_not_lt λq=>?_;have q':(n:Int)<((ns.length:Nat):Int):=ν
  first
   | (rw[decide_eq_true q'] at h5;exact Ψ h5 η)
   | (simp at h5;lia)
 cases hwl with
 |cons w1 w2=>
  cases w2;cases w1 with
  |list ho df=>exact⟨_,_,ns,rfl,rfl,ho,OH ns _ df,hlen⟩
def Mj(l:OpenLaw)(args:ω WData):l.row.toRowW.claim.post args (.bool ζ) args=ζ:=
 postW_of (r:=l.row.toRowW) (X:=(ζ == ζ))
  (show WShape.has [] (.bool ζ) .bool=ζ by first |rfl |decide |simp[WShape.has,WShape.arms,WShape.armsAll])
  (show(WTm.eq .res (.lit (.bool ζ))).value [] {args:=args,res:=ψ (.bool ζ),after:=args} = ψ (.bool (ζ == ζ)) from w_eq_bool (w_res rfl) w_lit) rfl
def attach_call{l:OpenLaw}{n:Nat}{q:cC}{loose:ω Str}{XP:(Str->Option aF)->Heap->Prop}{YP:cZ->Heap->Prop}{d:DefRec}
  (hn:l.most=ψ n) (zk:d.params.defaults=[])
  (call:∀(w:cZ)(s₀ s₁:aH)(mg mb:Str->Option aF)(fa:Addr)(o:Obj)(pm cd doc:aF)(a:Addr)(vs:ω aF)(ns:ω Int),
   Ground q loose [] XP w s₀ mg mb s₁.heap->YP w s₁.heap ->
   s₁.heap.get? fa=ψ o->o.data = .func (docDef d.name d.params d.body d.scope pm cd doc)->s₁.heap.CodeRec cd d.name->mg d.name=ψ (.ref fa) ->
   s₁.heap.get? a=ψ {cls:=.type "list",data:=.seq vs.toArray}->IntsAre vs ns->ns.length<=n->s₁.gens = #[] ->
   codeAny (model l.prog w) callerA (.call (.ref fa) ⟨[.ref a],[]⟩) (λr s'=>r = .ok (.ret (.bool ζ))/\OldK s₁.heap s'.heap/\s'.os=s₁.os/\AllBare s'.gens) s₁):
  WalkO q loose XP YP l.row.toRowW d [] (λf vs=>QM f vs):=by
 intro w s₀ s₁ mg mb G Y fa o pm cd doc dV kV ho hd j9 hD ya hg args vals as ur hlay hrd hwl hlo;obtain rfl:dV = .none:=Dflts.none hD zk;obtain rfl:kV = .none:=Dflts.noKw hD;obtain⟨a,vs,ns,rfl,rfl,xa,hints,hlen⟩:=Mx hn ur hwl;refine enter_call (uY (call w s₀ s₁ mg mb fa o pm cd doc a vs ns G Y ho (fd_plain hd) j9 ya xa hints hlen hg) λr s' hq=>?_);obtain⟨rfl,h2,h3,h4⟩:=hq;exact⟨.inl ⟨.bool ζ,.bool ζ,[],rfl,λ_=>rfl,.bool ζ,Mj l _,λ_=>⟨pF,λ_ hm=>(nomatch hm)⟩⟩,h2,h3,h4⟩
end Att
namespace L2
open PySem PySem.Spec PyProof.Rows
theorem EX:∀{vs:ω aF}{ns:ω Int},IntsAre vs ns->au (ns.map V.int) vs
 |_,_,.nil=>.nil
 |_,_,.cons n t h=>.cons ⟨t,rfl⟩ (EX h)
def Tf(H:Hp):Prop:=∀b,H b=ξ\/∃o xs,H b=ψ (.frz o (.lst xs))
theorem Qj{P:cC}{w:cZ}{K:aI}{mg mb:Str->Option aF}{CX:s9}{k:Nat}{fa a:Addr}{fd:nK}{x:Str}{sp:Sp}{s₁:aH}{vs:ω aF}{ns:ω Int}
  (KX:K.In s₁.heap) (hns:s₁.heap.Ns mainGlobals mg) (hb:s₁.heap.Ns builtinsNs mb) (hbb:∀x:Str,x≠"__name__"->mb x=bootBuiltins x) (hlim:s₁.heap.NoLimit) (hg:s₁.gens = #[])
  (ha:s₁.heap.get? a=ψ {cls:=.type "list",data:=.seq vs.toArray}) (hi:IntsAre vs ns) (hl:ns.length<=sizeLine) (hr:dc k callerA)
  (F:∀base:Heap,K.In base->base.Ns mainGlobals mg->jo P w K mg base CX k fa fd [x] sp) (zh:∀(s:aH)(u:aF),BindsTo s fd ⟨[u],[]⟩ [(x,u)])
  (vo:∀H:Hp,Tf H->iu K H a (ns.map V.int)->sp [.ref a] H (λv _=>v = .bl ζ) λ_ _ _=>False)
  (hCX:∀H e s',CX [] H s₁ (λ_ _ _=>False) e s'->False):
  codeAny (model P w) callerA (.call (.ref fa) ⟨[.ref a],[]⟩) (λr s'=>r = .ok (.ret (.bool ζ))/\OldK s₁.heap s'.heap/\s'.os=s₁.os/\AllBare s'.gens) s₁:=by
 have rv:=EX hi;have lenV:=hi.length;have core:∀H:Hp,Tf H->iu K H a (ns.map V.int)->ga P w H s₁.heap->(∀b,H b≠ξ->b=a)->(H a≠ξ->K.lookup a=ξ) ->
   codeAny (model P w) callerA (.call (.ref fa) ⟨[.ref a],[]⟩) (λr s'=>r = .ok (.ret (.bool ζ))/\OldK s₁.heap s'.heap/\s'.os=s₁.os/\AllBare s'.gens) s₁:=by
  intro H hO hS hok hA hK;have pw:∀{b:Addr}{o:Obj},s₁.heap.get? b=ψ o->H b=ξ->(YS s₁.heap H).get? b=ψ o:=λe n=>Py e n;have J':∀{b:Addr}{o:Obj}{es:Array DictEntry}{ep:Nat},s₁.heap.get? b=ψ o->o.data = .dict es ep->H b=ξ:=λ{b o es ep} e d=>by
   cases q:H b with
   |none=>rfl
   |some u=>
    have e':b=a:=hA b (by rw[q];simp);subst e';rw[ha] at e;cases e;have d':Data.seq vs.toArray _=Data.dict es ep:=d;cases d'
  have nsK:∀{b:Addr}{m:Str->Option aF},s₁.heap.Ns b m->(YS s₁.heap H).Ns b m:=λ{b m} ⟨o,es,ep,e,d,r⟩=>⟨o,es,ep,pw e (J' e d),d,r⟩;have hKb:K.In (YS s₁.heap H):=λb o e=>pw (KX b o e) (by
   cases q:H b with
   |none=>rfl
   |some u=>
    have e':b=a:=hA b (by rw[q];simp);subst e';rw[hK (by rw[q];simp)] at e;cases e)
  have hM:Mod K mg (YS s₁.heap H):=⟨hKb,nsK hns,⟨mb,nsK hb,hbb⟩,let ⟨mc,h1,h2⟩:=hlim;⟨mc,nsK h1,h2⟩⟩;have e0:ua P w K mg (YS s₁.heap H) callerA [] s₁ H:=⟨rfl,hM,λb o e=>Uw e,zK (Ld _ _),trivial,λb hb=>Ψ (show b∈([]:ω Addr) from hb) δ,hok,.of_eq hg⟩;refine uY ((F _ hKb (nsK hns)).run callerA [] s₁ H ⟨[.ref a],[]⟩ [.ref a] [.ref a] _ _ hr e0 (zh s₁ (.ref a)) (.cons rfl .nil) (vo H hO hS)) λr s' h=>?_;cases r with
  |error e=>exact(hCX H e s' h).elim
  |ok fl=>
   cases fl with
   |next=>exact oA h
   |brk=>exact oA h
   |cont=>exact oA h
   |ret u=>
    obtain⟨v,H',os,bare,un,hok',r',q⟩:=h;have q':v = .bl ζ:=q;subst q';obtain rfl:u=HG ζ:=r';refine⟨rfl,OldK.of_keep λb o e=>?_,os,bare⟩;cases q:H b with
    |none=>exact un.keep b o e q (by intro z;exact Ψ (show b∈([]:List Addr) from z) δ) δ
    |some u=>
     rcases hO b with z | ⟨ob,xs,z⟩
     ·rw[q] at z;cases z
     ·have z2:=un.frzs b ob _ z;obtain⟨e1,_⟩:=hok b _ z;obtain⟨e2,_⟩:=hok' b _ z2;rw[e] at e1;cases e1;exact e2
 cases hk:K.lookup a with
 |some o=>
  have e:=KX a o hk;rw[ha] at e;cases e;refine core (λ_=>ξ) (λ_=>.inl rfl) (.inr ⟨_,vs.toArray,_,hk,rfl,rfl,rfl,by rw[bI,lenV];exact hl,by simpa using rv⟩) (λb u z=>by have z':(ξ:Option HO)=ψ u:=z;cases z') (λb z=>Ψ rfl z) λz=>Ψ rfl z
 |none=>
  refine core (λb=>if b=a then ψ (.frz {cls:=.type "list",data:=.seq vs.toArray} (.lst (ns.map V.int))) else ξ) (λb=>?_) (.inl (.inr ⟨{cls:=.type "list",data:=.seq vs.toArray},Ω rfl⟩)) (λb u z=>?_) (λb z=>?_) λ_=>hk
  ·by_cases hb:b=a
   ·exact .inr ⟨_,_,Ω hb⟩
   ·exact .inl (υ hb)
  ·by_cases hb:b=a
   ·have z':=(Ω hb).symm.trans z;cases z';subst hb;exact⟨ha,by rw[aY];exact hl,vs,_,rv,ha⟩
   ·have z':=(υ hb).symm.trans z;cases z'
  ·by_cases hb:b=a
   ·exact hb
   ·exact Ψ (υ hb) z
abbrev KOf{K:aI}{h:Heap}(_:K.In h):aI:=K
def uz{l:OC}{n k:Nat}{q:cC}{loose:ω Str}{XP:(Str->Option aF)->Heap->Prop}{YP:cZ->Heap->Prop}{d:DefRec}{K:Params->aI}{CX:cZ->s9}{sp:cZ->Sp}{x:Str}
  (hn:l.most=ψ n) (hn2:n<=sizeLine) (zk:d.params.defaults=[]) (hr:dc k callerA)
  (hY:∀(w:cZ)(h:Heap),YP w h->(K w.params).In h)
  (F:∀(w:cZ)(mg:Str->Option aF)(fa:Addr)(h:Heap),(K w.params).In h->h.Ns mainGlobals mg->mg d.name=ψ (.ref fa) ->
   ∃fd:nK,(∀(s:aH)(u:aF),BindsTo s fd ⟨[u],[]⟩ [(x,u)]) /\
    ∀base:Heap,(K w.params).In base->base.Ns mainGlobals mg->jo l.prog w (K w.params) mg base (CX w) k fa fd [x] (sp w))
  (vo:∀(w:cZ)(H:Hp)(a:Addr)(ns:ω Int),ns.length<=n->Tf H->iu (K w.params) H a (ns.map V.int)->sp w [.ref a] H (λv _=>v = .bl ζ) λ_ _ _=>False)
  (hCX:∀(w:cZ)(H:Hp)(s:aH)(e:aF)(s':aH),CX w [] H s (λ_ _ _=>False) e s'->False):
  UJ q loose XP YP l.row.toRowW d [] (λf vs=>QM f vs):=by
 refine Att.attach_call hn zk λw s₀ s₁ mg mb fa o pm cd doc a vs ns G Y ho hd j9 ya xa hints hlen hg=>?_;have KX:=hY w _ Y;obtain⟨fd,hb,hF⟩:=F w mg fa _ KX G.T.g ya;exact Qj KX G.T.g G.T.b G.T.builtins G.T.nolimit hg xa hints (fR hlen hn2) hr hF hb (λH hO hS=>vo w H a ns hlen hO hS) λH e s'=>hCX w H s₁ e s'
def JG(s:Stmt):Arguments:=match s with
 | .FunctionDef _ a _ _ _ _ _ _ _ _=>a
 |_=>{posonlyargs:=[],args:=[],vararg:=ξ,kwonlyargs:=[],kw_defaults:=[],kwarg:=ξ,defaults:=[]}
def tM(s:Stmt):ω Stmt:=match s with
 | .FunctionDef _ _ b _ _ _ _ _ _ _=>b
 |_=>[]
def jC(s:Stmt):Scope:=match s with
 | .FunctionDef _ _ _ _ _ _ sc _ _ _=>sc
 |_=>{kind:=.function,names:=[],isGenerator:=χ,isCoroutine:=χ}
abbrev m_:s9:=λ_ _ _ _ _ _=>False
abbrev E0:XK:=λ_ _ _=>False
def M1:Ff m_ X E0:=λ_ _ _ _ _ _ _ h=>h.elim
structure u3(K:aI)(x qual:Str)(st:Stmt)(f:Addr)(fd:nK):Prop where
 ex:∃(oc:aF)(od:Option Addr)(kV doc pm:aF)(an:Option Addr)(gn ct:aF)(t6:Array (Option aF)),
  fd=qD x qual (JG st) (tM st) (jC st) .none kV doc pm an gn ct/\K.lookup f=ψ ⟨oc,od,.func fd,t6⟩/\vS K gn qual=ζ
 kp:pM K (.ref f)=ζ
section
variable{P:cC}{w:cZ}{K:aI}{mg:Str->Option aF}{base:Heap}
theorem u3.ok{x qual:Str}{st:Stmt}{f:Addr}{fd:nK}{N ps:ω Str}{k:Nat}{sp:Sp}(F:u3 K x qual st f fd)(S:gV N ps (jC st))(len:∀vs H Q E,sp vs H Q E->vs.length=ps.length)
  (ik:∀(gn:aF)(A:dJ)(outer:ω Env)(s:aH)(H:Hp)(vs:ω V)(Q:VK)(E:XK),dc k (A.deeper (envOfC qual (jC st) s.z f gn))->sp vs H Q E ->
   ∃t,mh (QW m_ P w K mg base N qual (jC st) f gn A outer s H E).nox (tM st) t/\t {nx:=λ_ H'=>Q .non H',rt:=Q} (start N vs) H):jo P w K mg base m_ (k+1) f fd ps sp:=by
 obtain⟨oc,od,kV,doc,pm,an,gn,ct,t6,rfl,lk,j9⟩:=F.ex;refine J6 lk j9 S len λA outer s H vs Q E hr vo=>?_;obtain⟨t,h,q⟩:=ik gn A outer s H vs Q E hr vo;exact⟨t,h.nox,q⟩
def Yz{x qual:Str}{st:Stmt}{f:Addr}{oc:aF}{od an:Option Addr}{t6:Array (Option aF)}{kV doc pm gn ct:aF}(l:K.lookup f=ψ ⟨oc,od,.func (qD x qual (JG st) (tM st) (jC st) .none kV doc pm an gn ct),t6⟩)
  (c:vS K gn qual=ζ) (k:pM K (.ref f)=ζ):u3 K x qual st f (qD x qual (JG st) (tM st) (jC st) .none kV doc pm an gn ct):=⟨⟨oc,od,kV,doc,pm,an,gn,ct,t6,rfl,l,c⟩,k⟩
end
section
variable{X:Cx}
theorem pv(i:Nat){x:Str}{pos:Pos}(hN:X.N[i]?=ψ x:=by rfl)(hv:qq X.env.scope x:=by walk_at "vis")(hd:(x == ("__debug__":Str))=χ:=by decide)
  (j9:(x == ("__classdict__":Str))=χ:=by decide):PE X (.Name x pos) (Q3 i):=B5 hN hv hd j9
end
def ag(H H':Hp):Prop:=∀b o,H b=ψ o->H' b=ψ o
def ag.refl(H:Hp):ag H H:=λ_ _ h=>h
def ag.trans(a:ag H H1)(b:ag H1 H2):ag H H2:=λc o h=>b c o (a c o h)
theorem ag.free(e:ag H H')(h:H' l=CH):H l=CH:=by
 cases q:H l with
 |none=>rfl
 |some o=>
  rw[e l o q] at h;cases h
end L2
namespace L2.R2
abbrev Pt:=Int×Int
def bZ(a b c:Pt):Int:=(b.1-a.1)*(c.2-a.2)-(b.2-a.2)*(c.1-a.1)
def bB(a b:Pt):Prop:=a.1<b.1\/(a.1=b.1/\a.2<b.2)
instance (a b:Pt):Decidable (bB a b):=by unfold bB;infer_instance
def vA:¬bB a a:=λh=>h.elim (nD _) λh=>nD _ h.2
def rP{a b c:Pt}(h:bB a b)(k:bB b c):bB a c:=by
 rcases h with h | ⟨h,h'⟩
 ·exact dA (k.elim (Int.lt_trans h) λk=>k.1▸h)
 ·exact k.elim (λk=>dA (h▸k)) λk=>cX ⟨h.trans k.1,Int.lt_trans h' k.2⟩
def qY(a b:Pt):bB a b\/a=b\/bB b a:=by
 rcases fN a.1 b.1 with h |h |h
 ·exact dA (dA h)
 ·rcases fN a.2 b.2 with k |k |k
  ·exact dA (cX ⟨h,k⟩)
  ·exact cX (dA (lV h k))
  ·exact cX (cX (cX ⟨h.symm,k⟩))
 ·exact cX (cX (dA h))
def vF(h:bB a b):¬bB b a:=λk=>vA (rP h k)
def LP(x y:Int):Prop:=0<x\/(x=0/\0<y)
def rV(h:bB a b):LP (b.1-a.1) (b.2-a.2):=h.elim (λh=>dA (IG h)) λh=>cX ⟨by rw[h.1,Int.sub_self],IG h.2⟩
def QH(h:LP x y)(k:LP x' y'):LP (x+x') (y+y'):=by
 rcases h with h | ⟨rfl,h'⟩ <;> rcases k with k | ⟨rfl,k'⟩
 ·exact dA (Int.add_pos h k)
 ·exact dA (by rw[uU];exact h)
 ·exact dA (by rw[Int.zero_add];exact k)
 ·exact cX ⟨rfl,Int.add_pos h' k'⟩
def uV(hk:0<k)(h:LP x y):LP (k*x) (k*y):=by
 unfold LP at *;rcases h with h | ⟨h,h'⟩
 ·exact dA (aJ hk h)
 ·exact cX ⟨by rw[h,mQ],aJ hk h'⟩
def Ic(hk:0<=k)(h:LP x y)(h0:LP z w):LP (z+k*x) (w+k*y):=by
 rcases iM hk with h' |rfl
 ·exact QH h0 (uV h' h)
 ·rw[rT,rT,uU,uU];exact h0
def Xb(h:LP 0 0):False:=h.elim (nD _) λh=>nD _ h.2
def Fe(h:LP x y)(hk:LP (k*x) (k*y)):0<k:=by
 unfold LP at *;rcases h with h | ⟨h,h'⟩
 ·rcases hk with hk | ⟨hk,_⟩
  ·exact iH hk h |> λh=>h
  ·rcases tY.mp hk with e |e
   ·subst e;simp at *;
   ·lia
 ·subst h;rcases hk with hk | ⟨_,hk⟩
  ·simp at hk
  ·exact iH hk h'
def XX(hu:LP ux uy)(hv:LP vx vy)(hw:LP wx wy)(h:0<ux*vy-uy*vx)(k:0<vx*wy-vy*wx):
  0<ux*(vy+wy)-uy*(vx+wx)/\0<(ux+vx)*wy-(uy+vy)*wx:=by
 constructor
 ·refine Fe hv (?_:LP _ _);have:=QH (uV h (QH hv hw)) (uV k hu);have e1:(ux*(vy+wy)-uy*(vx+wx))*vx=(ux*vy-uy*vx)*(vx+wx)+(vx*wy-vy*wx)*ux:=ε
  have e2:(ux*(vy+wy)-uy*(vx+wx))*vy=(ux*vy-uy*vx)*(vy+wy)+(vx*wy-vy*wx)*uy:=ε
  rw[e1,e2];exact this
 ·refine Fe hv (?_:LP _ _);have:=QH (uV h hw) (uV k (QH hu hv));have e1:((ux+vx)*wy-(uy+vy)*wx)*vx=(ux*vy-uy*vx)*wx+(vx*wy-vy*wx)*(ux+vx):=ε
  have e2:((ux+vx)*wy-(uy+vy)*wx)*vy=(ux*vy-uy*vx)*wy+(vx*wy-vy*wx)*(uy+vy):=ε
  rw[e1,e2];exact this
def Ep{a b c d:Pt}(ab:bB a b)(bc:bB b c)(cd:bB c d)(h:0<bZ a b c)(k:0<bZ b c d):0<bZ a b d/\0<bZ a c d:=by
 have:=XX (rV ab) (rV bc) (rV cd) (by unfold bZ at h;grind) (by unfold bZ at k;grind);unfold bZ;constructor
 ·have:=this.1;grind
 ·have:=this.2;grind
def Wp(A:LP ax ay)(P:LP px py)(V:LP vx vy)(hc:0<ux*vy-uy*vx)(m0:0<=-(ux*ay-uy*ax))(x0:0<=ax*vy-ay*vx)(y0:0<=ux*py-uy*px)(n0:0<=vx*py-vy*px):0<ax*py-ay*px:=by
 have CA:=uV hc A;have S:=Ic m0 V CA;rw[show(ux*vy-uy*vx)*ax + -(ux*ay-uy*ax)*vx=(ax*vy-ay*vx)*ux by grind,show(ux*vy-uy*vx)*ay + -(ux*ay-uy*ax)*vy=(ax*vy-ay*vx)*uy by grind] at S;have hx:0<ax*vy-ay*vx:=by
  rcases iM x0 with h |h
  ·exact h
  ·rw[<-h,rT,rT] at S;exact(Xb S).elim
 have T:=Ic n0 CA (uV hx (uV hc P));rw[show(ax*vy-ay*vx)*((ux*vy-uy*vx)*px)+(vx*py-vy*px)*((ux*vy-uy*vx)*ax)=((ax*py-ay*px)*(ux*vy-uy*vx))*vx by grind,show(ax*vy-ay*vx)*((ux*vy-uy*vx)*py)+(vx*py-vy*px)*((ux*vy-uy*vx)*ay)=((ax*py-ay*px)*(ux*vy-uy*vx))*vy by grind] at T;exact iH (Fe V T) hc
def Es(h0:bB b c0)(ha:bB a b)(hp:bB b p)(hc:0<bZ a0 b c0)(h1:0<=bZ a0 b a)(h2:0<=bZ b c0 a)(h3:0<=bZ a0 b p)(h4:0<=bZ b c0 p):0<bZ a b p:=by
 have A:=rV ha;have P:=rV hp;have U2:=rV h0;have nI:0<(b.1-a0.1)*(c0.2-b.2)-(b.2-a0.2)*(c0.1-b.1):=by
  have e:bZ a0 b c0=(b.1-a0.1)*(c0.2-b.2)-(b.2-a0.2)*(c0.1-b.1):=by {unfold bZ;grind}
  rw[<-e];exact hc
 have m0:0<=-((b.1-a0.1)*(b.2-a.2)-(b.2-a0.2)*(b.1-a.1)):=by
  have e:bZ a0 b a = -((b.1-a0.1)*(b.2-a.2)-(b.2-a0.2)*(b.1-a.1)):=by unfold bZ;grind
  rw[<-e];exact h1
 have x0:0<=(b.1-a.1)*(c0.2-b.2)-(b.2-a.2)*(c0.1-b.1):=by
  have e:bZ b c0 a=(b.1-a.1)*(c0.2-b.2)-(b.2-a.2)*(c0.1-b.1):=by unfold bZ;grind
  rw[<-e];exact h2
 have y0:0<=(b.1-a0.1)*(p.2-b.2)-(b.2-a0.2)*(p.1-b.1):=by
  have e:bZ a0 b p=(b.1-a0.1)*(p.2-b.2)-(b.2-a0.2)*(p.1-b.1):=by unfold bZ;grind
  rw[<-e];exact h3
 have n0:0<=(c0.1-b.1)*(p.2-b.2)-(c0.2-b.2)*(p.1-b.1):=by
  have e:bZ b c0 p=(c0.1-b.1)*(p.2-b.2)-(c0.2-b.2)*(p.1-b.1):=by unfold bZ;grind
  rw[<-e];exact h4
 have goal:bZ a b p=(b.1-a.1)*(p.2-b.2)-(b.2-a.2)*(p.1-b.1):=by unfold bZ;grind
 rw[goal];exact Wp A P U2 nI m0 x0 y0 n0
def kN(p:Pt):ω Pt->ω Pt
 |b::a::r=>if bZ a b p<=0 then kN p (a::r) else b::a::r
 |s=>s
def lB(L:ω Pt):ω Pt:=L.foldl (λs p=>p::kN p s) []
def l9(s:ω Pt):Prop:=s.Pairwise λx y=>bB y x
def h_(s:ω Pt):Prop:=s.Pairwise bB
def xx(s:ω Pt):Prop:=∀c b a,[c,b,a].Sublist s->0<bZ a b c
def Seen(p:Pt)(s:ω Pt):Prop:=∀b a,[b,a].Sublist s->0<bZ a b p
theorem NJ(p:Pt):∀s,∃l,s=l++kN p s
 | []=>⟨[],rfl⟩
 | [_]=>⟨[],rfl⟩
 |b::a::r=>by
  unfold kN;split
  ·obtain⟨l,e⟩:=NJ p (a::r);exact⟨b::l,by rw[aW,<-e]⟩
  ·exact⟨[],rfl⟩
def yO(p:Pt)(s:ω Pt):(kN p s).Sublist s:=by
 obtain⟨l,e⟩:=NJ p s
 conv=>rhs;rw[e]
 exact List.sublist_append_right _ _
theorem Jo(p:Pt):∀s,s≠[]->kN p s≠[]
 | [],h=>h
 | [_],_=>by simp[kN]
 |b::a::r,_=>by
  unfold kN;split
  ·exact Jo p (a::r) δ
  ·simp
theorem Cy(p:Pt):∀s b a r,kN p s=b::a::r->0<bZ a b p
 | [],_,_,_,h=>by simp[kN] at h
 | [_],_,_,_,h=>by simp[kN] at h
 |b'::a'::r',b,a,r,h=>by
  unfold kN at h;split at h
  ·exact Cy p (a'::r') b a r h
  ·rename_i hn;cases h;lia
def l9.mem{s:ω Pt}(h:l9 (b::r))(ha:a∈r):bB a b:=(cN.mp h).1 a ha
def V3{α:Type}{b a b0:α}{r:ω α}(h:[b,a].Sublist (b0::r)):(b=b0/\a∈r)\/[b,a].Sublist r:=by
 cases h with
 |cons _ h=>exact cX h
 |cons_cons _ h=>exact dA ⟨rfl,by simpa using h⟩
def Eg(d:l9 (b0::a0::r))(t:xx (b0::a0::r))(hp:bB b0 p)(h:0<bZ a0 b0 p):Seen p (b0::a0::r):=by
 have top:∀a,a∈a0::r->0<bZ a b0 p:=by
  intro a ha;rcases aO.mp ha with rfl |ha
  ·exact h
  ·have t1:0<bZ a a0 b0:=t b0 a0 a (by simpa using ha);exact(Ep (l9.mem (s:=[]) (cN.mp d).2 ha) (l9.mem (s:=[]) d δ) hp t1 h).2
 intro b a hs;rcases V3 hs with⟨rfl,ha⟩ |hs
 ·exact top a ha
 ·have hb:b∈a0::r:=hs.subset δ;have t1:0<bZ a b b0:=t b0 b a (hs.cons_cons b0);have dq:bB a b:=by
   have d':l9 [b,a]:=mB hs (cN.mp d).2;exact(cN.mp d').1 a δ
  exact(Ep dq (l9.mem (s:=[]) d hb) hp t1 (top b hb)).1
theorem We{s:ω Pt}(d:l9 s)(t:xx s)(hp:∀q∈s,bB q p):l9 (p::kN p s)/\xx (p::kN p s):=by
 have hs:=yO p s;have d':l9 (kN p s):=mB hs d;have t':xx (kN p s):=λc b a h=>t c b a (h.trans hs);have ly:∀q∈kN p s,bB q p:=λq hq=>hp q (hs.subset hq);have sn:Seen p (kN p s):=by
  generalize e:kN p s=u at *
  match u,e with
  | [],_=>intro b a h;cases h
  | [x],_=>intro b a h;have:=h.length_le;simp at this
  |b::a::r,e=>exact Eg d' t' (ly b δ) (Cy p s b a r e)
 refine⟨cN.mpr ⟨ly,d'⟩,?_⟩;intro c b a h;cases h with
 |cons _ h=>exact t' c b a h
 |cons_cons _ h=>exact sn b a h
structure fc(L C:List Pt):Prop where
 inc:h_ C
 mem:∀q∈C,q∈L
 first:∀q∈L,∀c r,C=c::r->¬bB q c
 last:∀q∈L,∀c l,C=l++[c]->¬bB c q
 side:∀l a b r,C=l++a::b::r->∀q∈L,0<=bZ a b q
 bend:∀l a b c r,C=l++a::b::c::r->0<bZ a b c
def fc.vertex(H:fc L C)(hb:b∈C)(ha:a∈L)(hp:p∈L)(ab:bB a b)(bp:bB b p):0<bZ a b p:=by
 obtain⟨l,r,e⟩:=oB hb;rcases fF l with rfl | ⟨l',a0,rfl⟩
 ·exact Ψ ab (H.first a ha b r e)
 ·match r with
  | []=>exact Ψ bp (H.last p hp b _ e)
  |c0::r'=>
   have e1:C=l'++a0::b::c0::r':=(by simpa using e);have e2:C=(l'++[a0])++b::c0::r':=(by simpa using e);have i:=H.inc;rw[e2] at i;have bc:bB b c0:=(cN.mp (kK.mp i).2.1).1 c0 δ;exact Es bc ab bp (H.bend _ _ _ _ _ e1) (H.side _ _ _ _ e1 a ha) (H.side _ _ _ _ e2 a ha) (H.side _ _ _ _ e1 p hp) (H.side _ _ _ _ e2 p hp)
theorem WT(H:fc L C)(hp:p∈L):∀s,l9 s->(∀q∈s,q∈L)->(∀q∈s,bB q p)->∀c∈C,c∈s->c∈kN p s
 | [],_,_,_,_,_,h=>h
 | [_],_,_,_,_,_,h=>h
 |b::a::r,d,m,lt,c,hc,h=>by
  unfold kN;split
  ·rename_i ht;rcases aO.mp h with rfl |h
   ·exact Ψ (H.vertex hc (m a δ) hp (l9.mem (s:=[]) d δ) (lt _ δ)) ν
   ·exact WT H hp (a::r) (cN.mp d).2 (λq hq=>m q (bH _ hq)) (λq hq=>lt q (bH _ hq)) c hc h
  ·exact h
theorem Ki(H:fc L C):∀(R:ω Pt)(s:ω Pt),(∀q∈R,q∈L)->h_ R->l9 s->xx s->(∀q∈s,q∈L)->(∀q∈s,∀p∈R,bB q p)->(∀c∈C,c∈s\/c∈R) ->
  let S:=R.foldl (λs p=>p::kN p s) s
  l9 S/\xx S/\(∀q∈S,q∈L)/\(∀c∈C,c∈S)
 | [],s,_,_,d,t,m,_,hc=>⟨d,t,m,λc h=>by simpa using hc c h⟩
 |p::R,s,hR,i,d,t,m,lt,hc=>by
  have ok:=We d t (p:=p) (λq hq=>lt q hq p δ);refine Ki H R (p::kN p s) (λq hq=>hR q (bH _ hq)) (cN.mp i).2 ok.1 ok.2 ?_ ?_ ?_
  ·intro q hq;rcases aO.mp hq with rfl |hq
   ·exact hR _ δ
   ·exact m q ((yO p s).subset hq)
  ·intro q hq r hr;rcases aO.mp hq with rfl |hq
   ·exact(cN.mp i).1 r hr
   ·exact lt q ((yO p s).subset hq) r (bH _ hr)
  ·intro c zj;rcases hc c zj with h |h
   ·exact dA (bH _ (WT H (hR p δ) s d m (λq hq=>lt q hq p δ) c zj h))
   ·rcases aO.mp h with rfl |h
    ·exact dA δ
    ·exact cX h
theorem OW:∀(C:ω Pt)(t:Pt),t∉C->(∃c∈C,bB c t)->(∃d∈C,bB t d)->h_ C->∃l c d r,C=l++c::d::r/\bB c t/\bB t d
 | [],_,_,⟨_,h,_⟩,_,_=>by cases h
 | [x],t,_,⟨c,hc,h⟩,⟨d,hd,k⟩,_=>by
  simp at hc hd;subst hc;subst hd;exact Ψ k (vF h)
 |x::y::r,t,ht,⟨c,hc,h⟩,⟨d,hd,k⟩,i=>by
  have hxt:bB x t:=by
   rcases aO.mp hc with rfl |hc
   ·exact h
   ·exact rP ((cN.mp i).1 c hc) h
  rcases qY y t with hy |rfl |hy
  ·have w6:d∈y::r:=by
    rcases aO.mp hd with rfl |hd
    ·exact Ψ k (vF hxt)
    ·exact hd
   obtain⟨l,c',d',r',e,h1,h2⟩:=OW (y::r) t (λh=>ht (bH _ h)) ⟨y,δ,hy⟩ ⟨d,w6,k⟩ (cN.mp i).2;exact⟨x::l,c',d',r',by rw[e];rfl,h1,h2⟩
  ·simp at ht
  ·exact⟨[],x,y,r,rfl,hxt,hy⟩
theorem YU:∀(A B:ω Pt),h_ A->h_ B->(∀q,q∈A↔q∈B)->A=B
 | [],[],_,_,_=>rfl
 | [],b::B,_,_,h=>Ψ ((h b).mpr δ) δ
 |a::A,[],_,_,h=>Ψ ((h a).mp δ) δ
 |a::A,b::B,ia,ib,h=>by
  have xm:=cN.mp ia;have vq:=cN.mp ib;have e:a=b:=by
   rcases aO.mp ((h a).mp δ) with e |ha
   ·exact e
   ·rcases aO.mp ((h b).mpr δ) with e |hb
    ·exact e.symm
    ·exact Ψ (vq.1 a ha) (vF (xm.1 b hb))
  subst e;congr 1;refine YU A B xm.2 vq.2 λq=>⟨λhq=>?_,λhq=>?_⟩
  ·rcases aO.mp ((h q).mp (bH _ hq)) with rfl |h'
   ·exact Ψ (xm.1 q hq) vA
   ·exact h'
  ·rcases aO.mp ((h q).mpr (bH _ hq)) with rfl |h'
   ·exact Ψ (vq.1 q hq) vA
   ·exact h'
def Uf(A B:ω Pt)(ia:h_ A)(ib:h_ B)(h:∀x∈A,x∈B):A.Sublist B:=by
 induction B generalizing A with
 |nil=>
  cases A with
  |nil=>exact IH _
  |cons a A=>cases h a (.head _)
 |cons b B ih=>
  cases A with
  |nil=>exact List.nil_sublist _
  |cons a A=>
   have xm:=cN.mp ia;have vq:=cN.mp ib;rcases aO.mp (h a (.head _)) with rfl |ha
   ·exact(ih A xm.2 vq.2 λx hx=>(aO.mp (h x (.tail _ hx))).resolve_left λe=>vA (e▸xm.1 x hx)).cons_cons a
   ·refine(ih (a::A) ia vq.2 λx hx=>(aO.mp (h x hx)).resolve_left λe=>?_).cons b;rcases aO.mp hx with k |hx
    ·exact vA (k▸e▸vq.1 a ha)
    ·exact vF (xm.1 x hx) (e▸vq.1 a ha)
def Bn(iL:h_ L)(H:fc L C)(gy:C≠[]):(lB L).reverse=C:=by
 obtain⟨d,t,m,k⟩:=Ki H L [] (λ_ h=>h) iL pF (λ_ _ _ h=>by cases h) (λ_ h=>by cases h) (λ_ h=>by cases h) (λc hc=>cX (H.mem c hc));have inc:h_ (lB L).reverse:=oU.mpr d;refine YU _ _ inc H.inc λq=>⟨λhq=>?_,λhq=>qA.mpr (k q hq)⟩;apply Decidable.byContradiction;intro hn;have xg:q∈lB L:=qA.mp hq;have hL:=m q xg;have h1:∃c∈C,bB c q:=by
  match C,gy with
  |c::r,_=>
   refine⟨c,δ,?_⟩;rcases qY c q with h |rfl |h
   ·exact h
   ·simp at hn
   ·exact Ψ h (H.first q hL c r rfl)
 have h2:∃d∈C,bB q d:=by
  rcases fF C with e | ⟨l,c,e⟩
  ·exact Ψ e gy
  ·refine⟨c,by simp[e],?_⟩;rcases qY q c with h |rfl |h
   ·exact h
   ·simp[e] at hn
   ·exact Ψ h (H.last q hL c l (by simpa using e))
 obtain⟨l,c,e,r,eC,hc,he⟩:=OW C q hn h1 h2 H.inc;have hs:[e,q,c].Sublist (lB L):=by
  have i3:h_ [c,q,e]:=by
   exact .cons (λx hx=>(aO.mp hx).elim (λe=>e▸hc) λh=>cJ.mp h▸rP hc he) (.cons (λx hx=>cJ.mp hx▸he) (.cons (λx hx=>by cases hx) .nil))
  have:[c,q,e].Sublist (lB L).reverse:=by
   refine Uf _ _ i3 inc λx hx=>?_;rw[qA];rcases aO.mp hx with rfl |hx
   ·exact k _ (eC▸bD _ (.head _))
   ·rcases aO.mp hx with rfl |hx
    ·exact xg
    ·exact k _ (cJ.mp hx▸eC▸bD _ (.tail _ (.head _)))
  simpa using this.reverse
 have t1:=t e q c hs;have t2:=H.side l c e r eC q hL;have:bZ c e q = - bZ c q e:=by unfold bZ;grind
 lia
namespace K33
abbrev kw{α:Type}(k:α->Int)(es:ω α)(c:Int):ω α:=es.filter λe=>decide (k e=c)
end K33
abbrev Tg:=Pt×Pt
def wid(s:Tg):Int:=s.2.1-s.1.1
def hB(B:Int)(s:Tg)(t:Int):Int:=(s.1.2*wid s+(s.2.2-s.1.2)*(t-s.1.1))*B.fdiv (wid s)
def kC(p:Pt):Pt:=(-p.1,-p.2)
def DF(p:Pt):kC (kC p)=p:=by unfold kC;simp
def vG(a b c:Pt):bZ (kC a) (kC b) (kC c)=bZ a b c:=by unfold bZ kC;grind
def AB:bB (kC a) (kC b)↔bB b a:=or_congr GP (and_congr (Int.neg_inj.trans eq_comm) GP)
theorem Cw(p:Pt):∀s,kN (kC p) (s.map kC)=(kN p s).map kC
 | []=>rfl
 | [_]=>rfl
 |b::a::r=>by
  have ih:=Cw p (a::r);simp only[aR] at ih⊢;rw[kN,kN,vG];split
  ·exact ih
  ·rfl
theorem Et:∀(L s:ω Pt),(L.map kC).foldl (λs p=>p::kN p s) (s.map kC)=(L.foldl (λs p=>p::kN p s) s).map kC
 | [],_=>rfl
 |p::L,s=>by
  simp only[aR,tZ];rw[Cw,<-aR];exact Et L (p::kN p s)
def RV(L:ω Pt):lB (L.map kC)=(lB L).map kC:=Et L []
def HL(h:l9 L):h_ (L.map kC):=by
 unfold h_;rw[pG];exact h.imp λk=>AB.mpr k
def Ue(iL:h_ L)(H:fc (L.map kC) (C.map kC))(gy:C≠[]):(lB L.reverse).reverse=C:=by
 have i1:h_ (L.reverse.map kC):=HL (oU.mpr iL);have H':fc (L.reverse.map kC) (C.map kC):=by
  have m:∀q,q∈L.reverse.map kC↔q∈L.map kC:=by intro q;simp
  exact⟨H.inc,λq h=>(m q).mpr (H.mem q h),λq h=>H.first q ((m q).mp h),λq h=>H.last q ((m q).mp h),λl a b r e q h=>H.side l a b r e q ((m q).mp h),H.bend⟩
 have:=Bn i1 H' (by simpa using gy);rw[RV,<-LA] at this;have k:=Φ (qS kC) this;rw[dF,dF] at k;have e:kC ∘ kC=id:=by funext p;exact DF p
 rwa [e,mR,mR] at k
def Us(A:LP ax ay)(V:LP vx vy)(U:LP ux uy)(hc:0<ux*vy-uy*vx)(k1:0<=vx*ay-vy*ax)(k2:0<=-(ux*ay-uy*ax)):False:=by
 have S:=Ic k2 V (Ic k1 U (uV hc A));rw[show(ux*vy-uy*vx)*ax+(vx*ay-vy*ax)*ux + -(ux*ay-uy*ax)*vx=0 by grind,show(ux*vy-uy*vx)*ay+(vx*ay-vy*ax)*uy + -(ux*ay-uy*ax)*vy=0 by grind] at S;exact Xb S
def MA{a b c q:Pt}(ba:bB b a)(bc:bB b c)(h:0<bZ a b c)(h1:0<=bZ a b q)(h2:0<=bZ b c q):¬bB q b:=by
 intro hq;have A:=rV hq;have V:=rV ba;have U:=rV bc;have hc:0<(c.1-b.1)*(a.2-b.2)-(c.2-b.2)*(a.1-b.1):=by
  have e:bZ a b c=(c.1-b.1)*(a.2-b.2)-(c.2-b.2)*(a.1-b.1):=by unfold bZ;grind
  rw[<-e];exact h
 have k1:0<=(a.1-b.1)*(b.2-q.2)-(a.2-b.2)*(b.1-q.1):=by
  have e:bZ a b q=(a.1-b.1)*(b.2-q.2)-(a.2-b.2)*(b.1-q.1):=by unfold bZ;grind
  rw[<-e];exact h1
 have k2:0<=-((c.1-b.1)*(b.2-q.2)-(c.2-b.2)*(b.1-q.1)):=by
  have e:bZ b c q = -((c.1-b.1)*(b.2-q.2)-(c.2-b.2)*(b.1-q.1)):=by unfold bZ;grind
  rw[<-e];exact h2
 exact Us A V U hc k1 k2
def Lp{a b c q:Pt}(ab:bB a b)(cb:bB c b)(h:0<bZ a b c)(h1:0<=bZ a b q)(h2:0<=bZ b c q):¬bB b q:=λhq=>
 MA (AB.mpr ab) (AB.mpr cb) (by rw[vG];exact h) (by rw[vG];exact h1) (by rw[vG];exact h2) (AB.mpr hq)
def Np(R:ω Pt):Prop:=∀l a b c s,R=l++a::b::c::s->¬(bB b a/\bB b c)
def Nq(R:ω Pt):Prop:=∀l a b s,R=l++a::b::s->a≠b
theorem Bd:∀(s:ω Pt)(a b:Pt),bB b a->Np (a::b::s)->Nq (a::b::s)->l9 (a::b::s)
 | [],a,b,h,_,_=>by simp only[l9,cN,aO,eM,or_false];exact⟨λx e=>e▸h,δ⟩
 |c::s,a,b,h,nd,nr=>by
  have hc:bB c b:=by
   rcases qY c b with h' |h' |h'
   ·exact h'
   ·exact Ψ h'.symm (nr [a] b c s rfl)
   ·exact Ψ ⟨h,h'⟩ (nd [] a b c s rfl)
  have ih:=Bd s b c hc (λl x y z w e=>nd (a::l) x y z w (by rw[e];rfl)) (λl x y w e=>nr (a::l) x y w (by rw[e];rfl));refine cN.mpr ⟨λq hq=>?_,ih⟩;rcases aO.mp hq with rfl |hq
  ·exact h
  ·exact rP ((cN.mp ih).1 q hq) h
theorem Ce:∀(R:ω Pt),R≠[]->Np R->Nq R->∃A m B,R=A++m::B/\h_ (A++[m])/\l9 (m::B)
 | [],h,_,_=>Ψ rfl h
 | [x],_,_,_=>⟨[],x,[],rfl,by simp[h_],by simp[l9]⟩
 |a::b::s,_,nd,nr=>by
  rcases qY a b with h |h |h
  ·obtain⟨A,m,B,e,i,d⟩:=Ce (b::s) δ (λl x y z w e=>nd (a::l) x y z w (by rw[e];rfl)) (λl x y w e=>nr (a::l) x y w (by rw[e];rfl));refine⟨a::A,m,B,by rw[e];rfl,?_,d⟩;refine cN.mpr ⟨λq hq=>?_,i⟩;have hb:q=b\/bB b q:=by
    match A,e,i,hq with
    | [],e,i,hq=>simp at hq;simp at e;exact dA (hq.trans e.1.symm)
    |x::A,e,i,hq=>
     simp at e;obtain⟨rfl,e⟩:=e;rcases aO.mp hq with rfl |hq
     ·exact dA rfl
     ·exact cX ((cN.mp i).1 q hq)
   rcases hb with rfl |hb
   ·exact h
   ·exact rP h hb
  ·exact Ψ h (nr [] a b s rfl)
  ·exact⟨[],a,b::s,rfl,by simp[h_],Bd s a b h nd nr⟩
structure qi(L:List Pt)(z y:Pt)(t:List Pt):Prop where
 mem:∀q∈z::y::t,q∈L
 least:∀q∈y::t,bB z q
 side:∀l a b r,(z::y::t)++[z]=l++a::b::r->∀q∈L,0<=bZ a b q
 bend:∀l a b c r,(z::y::t)++[z,y]=l++a::b::c::r->0<bZ a b c
def Kh{a b c:Pt}(h:0<bZ a b c):a≠b/\b≠c:=by
 constructor <;> rintro rfl <;> unfold bZ at h <;> grind
def uN(L:ω Pt):ω Pt:=(lB L).reverse.dropLast
theorem Lf{z b a c:Pt}{T l s:ω Pt}(e:(z::T)++[z]=l++a::b::c::s):b∈T:=by
 have h:((z::T)++[z]).dropLast=(l++a::b::c::s).dropLast:=Φ List.dropLast e;have h2:(l++a::b::c::s).dropLast=(l++[a])++(b::(c::s).dropLast):=by
  have:l++a::b::c::s=(l++[a,b])++(c::s):=δ
  rw[this,List.dropLast_append_of_ne_nil δ];simp
 rw[kE,h2] at h;cases l with
 |nil=>simp at h;rw[h.2];simp
 |cons l0 l=>simp at h;rw[h.2];simp
def Mw(iL:h_ L)(H:qi L z y t):uN L++uN L.reverse=z::y::t:=by
 have R_:bB z y:=H.least y δ;have nk:∀l a b c s,(z::y::t)++[z]=l++a::b::c::s->0<bZ a b c:=by
  intro l a b c s e;refine H.bend l a b c (s++[y]) ?_;have:(z::y::t)++[z,y]=((z::y::t)++[z])++[y]:=δ
  rw[this,e];simp
 have rep:Nq ((z::y::t)++[z]):=by
  intro l a b s e
  match s with
  |c::s=>exact(Kh (nk l a b c s e)).1
  | []=>
   have:(z::y::t)++[z,y]=l++a::b::[y]:=by
    have:(z::y::t)++[z,y]=((z::y::t)++[z])++[y]:=δ;rw[this,e];simp
   exact(Kh (H.bend l a b y [] this)).1
 have G_:∀q∈(z::y::t)++[z],q∈L:=by
  intro q hq;rcases bQ.mp hq with h |h
  ·exact H.mem q h
  ·simp at h;subst h;exact H.mem _ δ
 have hz:z∈L:=H.mem z δ;have dip:Np ((z::y::t)++[z]):=by
  intro l a b c s e ⟨h1,h2⟩;have nb:=MA h1 h2 (nk l a b c s e) (H.side l a b (c::s) e z hz) (H.side (l++[a]) b c s (by rw[e];simp) z hz);exact nb (H.least b (Lf e))
 obtain⟨A,m,B,e,iA,dB⟩:=Ce _ δ dip rep;have hA:∃A',A=z::A':=by
  match A,e with
  | [],e=>
   exfalso;simp at e;obtain⟨rfl,e5⟩:=e;have hy:y∈B:=(by rw[<-e5];simp);exact vF R_ ((cN.mp dB).1 y hy)
  |x::A',e=>simp at e;exact⟨A',by rw[e.1]⟩
 obtain⟨A',rfl⟩:=hA;have hB:∃B',B=B'++[z]:=by
  rcases fF B with rfl | ⟨B',x,rfl⟩
  ·exfalso;have e':(z::y::t)++[z]=(z::A')++[m]:=e;have:=gS e' rfl;simp at this;subst this;exact vA ((cN.mp iA).1 z δ)
  ·have e':(z::y::t)++[z]=(z::A'++m::B')++[x]:=(by rw[e];simp);have:=gS e' rfl;simp at this;exact⟨B',by rw[this];simp⟩
 obtain⟨B',rfl⟩:=hB;have e2:(z::y::t)++[z]=(z::A'++m::B')++[z]:=by rw[e];simp
 have er:z::y::t=z::A'++m::B':=mC e2 rfl;have G':∀q∈L,¬bB q z:=by
  intro q hq;rcases fF (y::t) with h | ⟨u,x,hu⟩
  ·simp at h
  ·have e3:(z::y::t)++[z,y]=(z::u)++x::z::y::[]:=(by rw[hu];simp);have hx:bB z x:=H.least x (by rw[hu];simp);exact MA hx R_ (H.bend _ _ _ _ _ e3) (H.side (z::u) x z [] (by rw[hu];simp) q hq) (H.side [] z y (t++[z]) δ q hq)
 have E_:∀q∈L,¬bB m q:=by
  intro q hq;rcases fF (z::A') with h | ⟨u,x,hu⟩
  ·simp at h
  ·have hxm:bB x m:=by
    have iA':=iA;rw[hu] at iA';exact(kK.mp iA').2.2 x δ m δ
   match hB':B'++[z],dB with
   | [],_=>simp at hB'
   |c::s,dB=>
    have e3:(z::y::t)++[z]=u++x::m::c::s:=(by rw[e,<-hB',hu];simp);have hcm:bB c m:=by
     exact(cN.mp dB).1 c δ
    exact Lp hxm hcm (nk _ _ _ _ _ e3) (H.side _ _ _ _ e3 q hq) (H.side (u++[x]) m c s (by rw[e3];simp) q hq)
 have low:fc L (z::A'++[m]):=by
  refine⟨iA,λq hq=>G_ q ?_,λq hq c r ec=>?_,λq hq c l ec=>?_,λl a b r ec q hq=>?_,λl a b c r ec=>?_⟩
  ·rw[e];simp at hq⊢;rcases hq with h |h |h <;> simp[h]
  ·simp at ec;rw[<-ec.1];exact G' q hq
  ·have:=gS ec rfl;simp at this;rw[<-this];exact E_ q hq
  ·refine H.side l a b (r++(B'++[z])) ?_ q hq;have:z::A'++m::(B'++[z])=(z::A'++[m])++(B'++[z]):=δ;rw[e,this,ec];simp
  ·refine nk l a b c (r++(B'++[z])) ?_;have:z::A'++m::(B'++[z])=(z::A'++[m])++(B'++[z]):=δ;rw[e,this,ec];simp
 have o8:∀q∈L.map kC,∃p∈L,q=kC p:=by
  intro q hq;obtain⟨p,hp,rfl⟩:=bG.mp hq;exact⟨p,hp,rfl⟩
 have eN:∀(X Y:ω Pt),X.map kC=Y->X=Y.map kC:=by
  rintro X Y rfl;rw[dF];have e:kC ∘ kC=id:=by funext p;exact DF p
  rw[e,mR]
 have up:fc (L.map kC) ((m::(B'++[z])).map kC):=by
  refine⟨HL dB,λq hq=>?_,λq hq c r ec=>?_,λq hq c l ec=>?_,λl a b r ec q hq=>?_,λl a b c r ec=>?_⟩
  ·obtain⟨p,hp,rfl⟩:=bG.mp hq;refine cT (G_ p ?_);rw[e];exact bD _ hp
  ·obtain⟨p,hp,rfl⟩:=o8 q hq;simp at ec;rw[<-ec.1,AB];exact E_ p hp
  ·obtain⟨p,hp,rfl⟩:=o8 q hq;have wm:(m::B').map kC++[kC z]=l++[c]:=(by simpa using ec);have:=gS wm rfl;simp at this;rw[<-this,AB];exact G' p hp
  ·obtain⟨p,hp,rfl⟩:=o8 q hq;have wm:=eN _ _ ec;simp only[cI,aR] at wm;have:=H.side (z::A'++l.map kC) (kC a) (kC b) (r.map kC) (by rw[e,wm];simp) p hp;rw[<-vG,DF,DF] at this;exact this
  ·have wm:=eN _ _ ec;simp only[cI,aR] at wm;have:=nk (z::A'++l.map kC) (kC a) (kC b) (kC c) (r.map kC) (by rw[e,wm];simp);rw[vG] at this;exact this
 have h1:=Bn iL low δ;have h2:=Ue iL up δ;unfold uN;rw[h1,h2,er];have:m::(B'++[z])=(m::B')++[z]:=δ
 rw[this,kE,kE]
def Fh(L:ω Pt):Prop:=L.Pairwise λx y=>¬bB y x
theorem WS(p:Pt):∀s,kN p (kN p s)=kN p s
 | []=>rfl
 | [_]=>rfl
 |b::a::r=>by
  by_cases h:bZ a b p<=0
  ·rw[kN,Ω h];exact WS p (a::r)
  ·have e:kN p (b::a::r)=b::a::r:=(by rw[kN,υ h]);rw[e,e]
def Nd(a p:Pt):bZ a p p<=0:=by
 unfold bZ;have:(p.1-a.1)*(p.2-a.2)-(p.2-a.2)*(p.1-a.1)=0:=ε
 lia
def TY(a p:Pt):bZ a a p<=0:=by
 unfold bZ;have:(a.1-a.1)*(p.2-a.2)-(a.2-a.2)*(p.1-a.1)=0:=ε
 lia
def sY(L:ω Pt)(p:Pt):lB (L++[p])=p::kN p (lB L):=by unfold lB;rw[wP];rfl
def Qa:∀(L:ω Pt),(lB L).length<=L.length:=by
 have sub:∀(L s:ω Pt),(L.foldl (λs p=>p::kN p s) s).length<=L.length+s.length:=by
  intro L
  induction L with
  |nil=>intro s;simp
  |cons y L ih=>
   intro s;have i2:=ih (y::kN y s);have:=(yO y s).length_le;simp only[tZ,bP] at i2⊢;lia
 intro L;simpa [lB] using sub L []
structure ym(L D:List Pt):Prop where
 inc:h_ D
 mem:∀z,z∈D↔z∈L
 many:2<=D.length->lB L=lB D
 one:∀c,D=[c]->lB L=[c]\/lB L=[c,c]
 none:D=[]->lB L=[]
def Vv{α:Type}{P:ω α->Prop}(h0:P [])(h1:∀l x,P l->P (l++[x])):∀l,P l:=by
 intro l;have:∀m:ω α,P m.reverse:=by
  intro m
  induction m with
  |nil=>exact h0
  |cons x m ih=>rw[wQ];exact h1 _ _ ih
 have:=this l.reverse
 rwa [List.reverse_reverse] at this
def Po:∀(L:ω Pt),Fh L->∃D,ym L D:=by
 refine Vv ?_ ?_
 ·intro _;exact⟨[],pF,λz=>Iff.rfl,λh=>Ψ h δ,λc h=>by simp at h,λ_=>rfl⟩
 ·intro L p ih hw;have hw':=kK.mp hw;obtain⟨D,H⟩:=ih hw'.1;have top:∀z∈L,¬bB p z:=λz hz=>hw'.2.2 z hz p δ;rcases fF D with hD | ⟨D',c,hD⟩
  ·-- nothing so far
   have hL:L=[]:=by
    apply List.eq_nil_iff_forall_not_mem.mpr;intro z hz;have:=(H.mem z).mpr hz;rw[hD] at this;cases this
   subst hL;refine⟨[p],by simp[h_],λz=>by simp,λh=>Ψ h δ,λc h=>?_,λh=>by simp at h⟩;simp at h;subst h;exact dA rfl
  ·have hD:D=D'++[c]:=(by simpa using hD);subst hD;have hcL:c∈L:=(H.mem c).mp δ;have cl:∀z∈D'++[c],z=c\/bB z c:=by
    intro z hz;rcases bQ.mp hz with h |h
    ·exact cX ((kK.mp H.inc).2.2 z h c δ)
    ·exact dA (by simpa using h)
   by_cases hpc:p=c
   ·subst hpc;refine⟨D'++[p],H.inc,λz=>?_,λh2=>?_,λc hc=>?_,λh=>by simp at h⟩
    ·rw[H.mem z];simp only[bQ,cJ];exact⟨dA,λh=>h.elim id λe=>e▸hcL⟩
    ·rw[sY,H.many h2,sY];have gy:lB D'≠[]:=by
      rcases fF D' with h | ⟨D'',d,h⟩
      ·rw[h] at h2;simp at h2
      ·have:D'=D''++[d]:=(by simpa using h);rw[this,sY];simp
     have zx:=Jo p _ gy;generalize hu:kN p (lB D')=u at zx;cases u with
     |nil=>exact Ψ rfl zx
     |cons a r=>
      rw[kN,Ω (Nd a p)];congr 1;rw[<-hu,WS]
    ·have hD':D'=[]/\p=c:=by
      cases D' with
      |nil=>simp at hc;exact⟨rfl,hc⟩
      |cons x D'=>simp at hc
     obtain⟨rfl,rfl⟩:=hD';rw[sY];rcases H.one p rfl with e |e
     ·rw[e];exact cX rfl
     ·rw[e,kN,Ω (TY p p)];exact cX rfl
   ·have EE:bB c p:=by
     rcases qY c p with h |h |h
     ·exact h
     ·exact Ψ h.symm hpc
     ·exact Ψ h (top c hcL)
    have inc2:h_ ((D'++[c])++[p]):=by
     refine kK.mpr ⟨H.inc,δ,λz hz w hw=>?_⟩;have:w=p:=(by simpa using hw);subst this;rcases cl z hz with rfl |h
     ·exact EE
     ·exact rP h EE
    refine⟨(D'++[c])++[p],inc2,λz=>?_,λ_=>?_,λd hd=>by have:=Φ eW hd;simp at this,λh=>by simp at h⟩
    ·rw[bQ,H.mem z,bQ]
    ·rw[sY,sY (D'++[c])];by_cases h2:2<=(D'++[c]).length
     ·rw[H.many h2]
     ·have:D'=[]:=by
       cases D' with
       |nil=>rfl
       |cons x D'=>simp at h2
      subst this;rcases H.one c rfl with e |e
      ·rw[e];rfl
      ·rw[e,kN,Ω (TY c p)];rfl
def Bf{L D:ω Pt}(hw:Fh L)(iD:h_ D)(hm:∀z,z∈D↔z∈L):(2<=D.length->lB L=lB D)/\(D.length<=1->(lB L).length<=2):=by
 obtain⟨D1,H⟩:=Po L hw;have:D1=D:=YU _ _ H.inc iD λq=>(H.mem q).trans (hm q).symm;subst this;refine⟨H.many,λh=>?_⟩
 match D1,H,h with
 | [],H,_=>rw[H.none rfl];simp
 | [c],H,_=>rcases H.one c rfl with e |e <;> rw[e] <;> simp
 |_::_::_,_,h=>simp at h
def FX(L:ω Pt):ω Pt:=uN L++uN L.reverse
def Bg{L D:ω Pt}(hw:Fh L)(iD:h_ D)(hm:∀z,z∈D↔z∈L):(2<=D.length->FX L=FX D)/\(D.length<=1->(FX L).length<3):=by
 have a:=Bf hw iD hm;have wn:Fh (L.reverse.map kC):=by
  unfold Fh;rw[pG,oU];exact hw.imp λh k=>h (AB.mp k)
 have iN:h_ (D.reverse.map kC):=HL (oU.mpr iD);have b:=Bf wn iN λz=>by simp only[bG,qA];constructor <;> (rintro⟨w,h1,h2⟩;exact⟨w,by first |exact(hm w).mp h1 |exact(hm w).mpr h1,h2⟩)
 rw[RV,RV] at b;simp only[aY,uL] at b;have inj:∀(X Y:ω Pt),X.map kC=Y.map kC->X=Y:=by
  intro X Y h;have:=Φ (qS kC) h;rw[dF,dF] at this;have e:kC ∘ kC=id:=by funext p;exact DF p
  rwa [e,mR,mR] at this
 constructor
 ·intro h;unfold FX uN;rw[a.1 h,inj _ _ (b.1 h)]
 ·intro h;have h1:=a.2 h;have h2:=b.2 h;unfold FX uN;simp only[bR,BY,uL];exact GW (Nat.add_le_add (CG h1 1) (CG h2 1)) η
def ie(L:ω Pt)(a b:Pt):Prop:=∃l r,L=l++a::b::r
def ie.cons(x:Pt)(h:ie L a b):ie (x::L) a b:=by
 obtain⟨l,r,rfl⟩:=h;exact⟨x::l,r,rfl⟩
def ie.left(B:ω Pt)(h:ie A a b):ie (A++B) a b:=by
 obtain⟨l,r,rfl⟩:=h;exact⟨l,r++B,δ⟩
def ie.right(A:ω Pt)(h:ie B a b):ie (A++B) a b:=by
 obtain⟨l,r,rfl⟩:=h;exact⟨A++l,r,δ⟩
theorem SK:∀(A B:ω Pt)(a b:Pt),ie (A++B) a b->ie A a b\/((∃A',A=A'++[a])/\∃B',B=b::B')\/ie B a b
 | [],B,a,b,h=>cX (cX h)
 | [x],B,a,b,⟨l,r,e⟩=>by
  cases l with
  |nil=>
   simp at e;obtain⟨rfl,e⟩:=e;exact cX (dA ⟨⟨[],rfl⟩,r,e⟩)
  |cons y l=>simp at e;exact cX (cX ⟨l,r,e.2⟩)
 |x::y::A,B,a,b,⟨l,r,e⟩=>by
  cases l with
  |nil=>
   simp at e;obtain⟨rfl,rfl,e⟩:=e;exact dA ⟨[],A,rfl⟩
  |cons u l=>
   simp at e;obtain⟨rfl,e⟩:=e;rcases SK (y::A) B a b ⟨l,r,by simpa using e⟩ with h | ⟨⟨A',h1⟩,h2⟩ |h
   ·exact dA (h.cons x)
   ·exact cX (dA ⟨⟨x::A',by rw[h1];rfl⟩,h2⟩)
   ·exact cX (cX h)
def ZC(h:ie (L.map f) a b):∃x y,ie L x y/\a=f x/\b=f y:=by
 obtain⟨l,r,e⟩:=h;obtain⟨l1,l2,rfl,rfl,e2⟩:=oC.mp e;obtain⟨x,l3,rfl,rfl,e3⟩:=kG.mp e2;obtain⟨y,l4,rfl,rfl,e4⟩:=kG.mp e3;exact⟨x,y,⟨l1,l4,rfl⟩,rfl,rfl⟩
def ie.mem(h:ie L a b):a∈L/\b∈L:=by
 obtain⟨l,r,rfl⟩:=h;simp
def az(cs:ω Pt)(a b:Pt):Prop:=ie (cs++cs.take 1) a b
structure b_(cs:List Pt):Prop where
 len:3<=cs.length
 nodup:cs.Nodup
 strict:∀a b,az cs a b->∀q∈cs,q≠a->q≠b->0<bZ a b q
def Sr(a b:Pt):bZ a b a=0:=by unfold bZ;grind
def F5(a b:Pt):bZ a b b=0:=by unfold bZ;grind
def b_.side(h:b_ cs)(dq:az cs a b)(hq:q∈cs):0<=bZ a b q:=by
 by_cases h1:q=a
 ·subst h1;rw[Sr];decide
 ·by_cases h2:q=b
  ·subst h2;rw[F5];decide
  ·exact aK (h.strict a b dq q hq h1 h2)
def b_.map(h:b_ cs)(hk:0<k)(hf:∀a b c,bZ (f a) (f b) (f c)=k*bZ a b c)(inj:∀a b,f a=f b->a=b):b_ (cs.map f):=by
 refine⟨by simpa using h.len,?_,λa b dq q hq n1 n2=>?_⟩
 ·exact wM f (λa b hn e=>hn (inj a b e)) h.nodup
 ·unfold az at dq;rw[<-kB,<-cI] at dq;obtain⟨x,y,hxy,rfl,rfl⟩:=ZC dq;obtain⟨p,hp,rfl⟩:=bG.mp hq;rw[hf];exact aJ hk (h.strict x y hxy p hp (λe=>n1 (by rw[e])) λe=>n2 (by rw[e]))
theorem JD(h:az (Y++X) a b):az (X++Y) a b:=by
 unfold az at *;cases Y with
 |nil=>simpa using h
 |cons y Y=>
  cases X with
  |nil=>simpa using h
  |cons x X=>
   simp only[aW,uM,CC] at h⊢;have e:y::(Y++x::X++[y])=(y::Y)++((x::X)++[y]):=δ;rw[e] at h;have y9:∀{a b},ie ((x::X)++[y]) a b->ie (x::(X++y::Y++[x])) a b:=by
    intro a b h;have:=h.left (Y++[x]);simpa using this
   have vh:∀{a b},ie ((y::Y)++[x]) a b->ie (x::(X++y::Y++[x])) a b:=by
    intro a b h;have:=h.right (x::X);simpa using this
   rcases SK _ _ a b h with h | ⟨⟨A',h1⟩,B',h2⟩ |h
   ·exact vh (h.left _)
   ·simp at h2;refine vh ?_;rw[h1,<-h2.1];exact⟨A',[],δ⟩
   ·exact y9 h
def b_.swap(h:b_ (X++Y)):b_ (Y++X):=by
 refine⟨by have:=h.len;simp at this⊢;lia,?_,λa b dq q hq=>h.strict a b (JD dq) q (by simp at hq⊢;exact hq.symm)⟩;have:=h.nodup;rw[jQ] at this⊢;exact⟨this.2.1,this.1,λa ha b hb e=>this.2.2 b hb a ha e.symm⟩
def az.mem(h:az cs a b):a∈cs/\b∈cs:=by
 have k:∀x,x∈cs++cs.take 1->x∈cs:=λx hx=>(bQ.mp hx).elim id kH;exact⟨k a (ie.mem h).1,k b (ie.mem h).2⟩
theorem len_sub{α:Type}[DecidableEq α]:∀(l m:ω α),l.Nodup->(∀x∈l,x∈m)->l.length<=m.length
 | [],_,_,_=>gH _
 |x::l,m,hn,hs=>by
  have hx:=hs x (.head _);have n8:=fS.mp hn;have:=len_sub l (m.erase x) n8.2 λy hy=>(BZ λ(e:y=x)=>n8.1 (e▸hy)).mpr (hs y (.tail _ hy));rw[xI hx] at this;exact fR (LF this) (zK (Nat.succ_pred_eq_of_pos (zG hx)))
def b_.third(c:b_ cs)(u v:Pt):∃w∈cs,w≠u/\w≠v:=by
 apply bK;intro hn;have:=len_sub cs [u,v] c.nodup λw hw=>by
  by_cases h1:w=u
  ·exact h1▸.head _
  ·by_cases h2:w=v
   ·exact h2▸.tail _ (.head _)
   ·exact Ψ ⟨w,hw,h1,h2⟩ hn
 exact Ψ (fR c.len this) (show ¬ 3<=2 by decide)
def b_.ne(c:b_ cs)(h:az cs u v):u≠v:=by
 obtain⟨w,hw,n1,n2⟩:=c.third u v;rintro rfl;have:=c.strict u u h w hw n1 n2;rw[show bZ u u w=0 by unfold bZ;grind] at this;exact nD _ this
def ZB(c:b_ cs)(h:az cs u v)(h':az cs v u):False:=by
 obtain⟨w,hw,w1,w2⟩:=c.third u v;have t1:=c.strict _ _ h w hw w1 w2;rw[show bZ u v w = - bZ v u w by unfold bZ;grind] at t1;exact pX (c.strict _ _ h' w hw w2 w1) (Int.neg_pos.mp t1)
def b_.bend(h:b_ R){a b c:Pt}(e:R++R.take 2=l++a::b::c::r):0<bZ a b c:=by
 obtain⟨x,y,R',eR⟩:∃x y R',R=x::y::R':=by
  match R,h.len with
  |x::y::R',_=>exact⟨x,y,R',rfl⟩
 have t1:R.take 1=[x]:=by rw[eR];rfl
 have t2:R++R.take 2=(R++R.take 1)++[y]:=by rw[t1,gA,eR];rfl
 rw[t2] at e;have ⟨ab,bc⟩:az R a b/\az R b c:=by
  rcases fF r with rfl | ⟨r',w,rfl⟩
  ·have e':(R++R.take 1)++[y]=(l++[a,b])++[c]:=(by rw[e,gA];rfl);have k:=mC e' rfl;have ec:=gS e' rfl;injection ec with ec _;refine⟨⟨l,[],k⟩,?_⟩;have k':R++[x]=(l++[a])++[b]:=(by rw[<-t1,k,gA];rfl);have eb:=gS k' rfl;injection eb with eb _;rw[<-eb,<-ec];exact⟨[],R'++[x],by rw[t1,eR];rfl⟩
  ·have e':(R++R.take 1)++[y]=(l++a::b::c::r')++[w]:=(by rw[e,gA,sO];rfl);have k:=mC e' rfl;exact⟨⟨l,c::r',k⟩,l++[a],r',by rw[k,gA];rfl⟩
 exact h.strict a b ab c bc.mem.2 (λhc=>ZB h ab (hc▸bc)) λhc=>h.ne bc hc.symm
def AE{L D:ω Pt}(iD:h_ D)(h:b_ (z::T))(least:∀q∈T,¬bB q z)(mem:∀q∈z::T,q∈D)(left:∀a b,az (z::T) a b->∀q∈D,0<=bZ a b q):FX D=z::T:=by
 obtain⟨y,t,rfl⟩:∃y t,T=y::t:=by
  have:=h.len;cases T with
  |nil=>simp at this
  |cons y t=>exact⟨y,t,rfl⟩
 refine Mw iD ⟨mem,λq hq=>?_,λl a b r e=>left a b ⟨l,r,e⟩,λl a b c r e=>h.bend (l:=l) (r:=r) e⟩;rcases qY z q with h' |h' |h'
 ·exact h'
 ·subst h';exact Ψ hq (fS.mp h.nodup).1
 ·exact Ψ h' (least q hq)
abbrev H3:=Int×Int×Int
def gO(p q r:H3):Int:=p.1*(q.2.1*r.2.2-q.2.2*r.2.1)-p.2.1*(q.1*r.2.2-q.2.2*r.1)+p.2.2*(q.1*r.2.1-q.2.1*r.1)
abbrev aq(z:Pt):H3:=(z.1,z.2,1)
abbrev xN(α:Int)(p:H3)(β:Int)(q:H3):H3:=(α*p.1+β*q.1,α*p.2.1+β*q.2.1,α*p.2.2+β*q.2.2)
def LS(a b c:Pt):gO (aq a) (aq b) (aq c)=bZ a b c:=by unfold gO bZ aq;dsimp only;grind
def LR(p q u v:H3)(α β:Int):gO p q (xN α u β v)=α*gO p q u+β*gO p q v:=by unfold gO xN;dsimp only;grind
structure br where
 a:Int
 b:Int
 k:Int
section
variable(L:br)
def af(z:Pt):Int:=L.a*z.1+L.b*z.2-L.k
def f_(p:H3):Int:=L.a*p.1+L.b*p.2.1-L.k*p.2.2
theorem nJ(z:Pt):f_ L (aq z)=af L z:=by unfold f_ af aq;dsimp only;lia
theorem Nj(α β:Int)(p q:H3):f_ L (xN α p β q)=α*f_ L p+β*f_ L q:=by unfold f_ xN;dsimp only;grind
theorem Yy(v1 v2 v3 v4:H3):f_ L v1*gO v2 v3 v4-f_ L v2*gO v1 v3 v4+f_ L v3*gO v1 v2 v4-f_ L v4*gO v1 v2 v3=0:=by unfold f_ gO;grind
def jO(u v:Pt):H3:=xN (af L v).natAbs (aq u) (af L u).natAbs (aq v)
def f9(u v:Pt):ω H3:=(if af L u<=0 then[aq u] else[])++(if af L u*af L v<0 then[jO L u v] else[])
def Pl:ω Pt->ω H3
 | []=>[]
 | [_]=>[]
 |u::v::r=>f9 L u v++Pl (v::r)
end
section
variable{L:br}{cs:ω Pt}
def h8{x y:Int}(h:x*y<0):(x<0/\0<y)\/(0<x/\y<0):=by
 rcases fN x 0 with hx |rfl |hx
 ·exact dA ⟨hx,fG.mp λhy=>fG.mpr h (Int.mul_nonneg_of_nonpos_of_nonpos (aK hx) hy)⟩
 ·rw[rT] at h;exact Ψ h (nD _)
 ·exact cX ⟨hx,fG.mp λhy=>fG.mpr h (bT (aK hx) hy)⟩
def oY{x y:Int}(h:(x<0/\0<y)\/(0<x/\y<0)):x*y<0:=by
 rcases h with⟨h1,h2⟩ | ⟨h1,h2⟩
 ·exact fU h1 h2
 ·exact eJ h1 h2
theorem BO(h:af L u*af L v<0):f_ L (jO L u v)=0:=by
 unfold jO;rw[Nj,nJ,nJ];rcases h8 h with⟨h1,h2⟩ | ⟨h1,h2⟩
 ·rw[BV (aK h2),vP (aK h1)];grind
 ·rw[BV (aK h1),vP (aK h2)];grind
def tP(h:af L u*af L v<0):(0:Int)<(af L v).natAbs/\(0:Int)<(af L u).natAbs:=by
 have k {x:Int} (n:x≠0):(0:Int)<x.natAbs:=Int.natCast_pos.mpr (Int.natAbs_pos.mpr n);rcases h8 h with⟨h1,h2⟩ | ⟨h1,h2⟩
 ·exact⟨k (rS h2),k (zF h1)⟩
 ·exact⟨k (zF h2),k (rS h1)⟩
def HW(h:af L u*af L v<0):2<=(jO L u v).2.2:=by
 show 1+1<=((af L v).natAbs:Int)*1+((af L u).natAbs:Int)*1;rw[rN,rN];exact QF (tP h).1 (tP h).2
inductive Pm(L:br)(cs:List Pt):H3->Prop
 |corner {u:Pt} (hu:u∈cs) (h:af L u<=0):Pm L cs (aq u)
 |cross {u v:Pt} (hc:az cs u v) (h:af L u*af L v<0):Pm L cs (jO L u v)
def Jl(c:b_ cs)(h:az cs u v)(hw:w∈cs)(k:bZ u v w=0):w=u\/w=v:=by
 by_cases h1:w=u
 ·exact dA h1
 ·by_cases h2:w=v
  ·exact cX h2
  ·exact Ψ k (rS (c.strict u v h w hw h1 h2))
theorem Ba(u v:Pt):gO (aq u) (aq v) (jO L u v)=0:=by unfold jO;rw[LR];unfold gO;grind
def SM(c:b_ cs)(h:az cs u v)(hc:az cs u' v')(hx:af L u'*af L v'<0):(u'=u/\v'=v)\/0<gO (aq u) (aq v) (jO L u' v'):=by
 obtain⟨f1,f2⟩:=tP hx;have m:=hc.mem;have s1:0<=bZ u v u':=c.side h m.1;have s2:0<=bZ u v v':=c.side h m.2;unfold jO;rw[LR,LS,LS];rcases iM s1 with k1 |k1
 ·exact cX (Int.add_pos_of_pos_of_nonneg (aJ f1 k1) (bT (aK f2) s2))
 ·rcases iM s2 with k2 |k2
  ·exact cX (Int.add_pos_of_nonneg_of_pos (bT (aK f1) s1) (aJ f2 k2))
  ·have ne:=c.ne hc;rcases Jl c h m.1 k1.symm with rfl |rfl <;> rcases Jl c h m.2 k2.symm with rfl |rfl
   ·exact Ψ rfl ne
   ·exact dA ⟨rfl,rfl⟩
   ·exact(ZB c h hc).elim
   ·exact Ψ rfl ne
def tV(c:b_ cs)(h:az cs u v)(hr:Pm L cs r)(n1:r≠aq u)(n2:r≠aq v)(n3:r≠jO L u v\/¬af L u*af L v<0):0<gO (aq u) (aq v) r:=by
 cases hr with
 | @corner w hw he=>
  rw[LS];exact c.strict u v h w hw (λe=>n1 (by rw[e])) λe=>n2 (by rw[e])
 | @cross u' v' hc hx=>
  exact(SM c h hc hx).resolve_left λk=>n3.elim (λn=>n (by rw[k.1,k.2])) λn=>n (k.1▸k.2▸hx)
def h9(L:br)(cs:ω Pt)(p:H3):Prop:=∃u v,az cs u v/\0<af L v/\((af L u<0/\p=jO L u v)\/(af L u=0/\p=aq u))
def Entry(L:br)(cs:ω Pt)(q:H3):Prop:=∃u v,az cs u v/\0<af L u/\((af L v<0/\q=jO L u v)\/(af L v=0/\q=aq v))
theorem h9.pm(h:h9 L cs p):Pm L cs p/\f_ L p=0:=by
 obtain⟨u,v,hc,hv,⟨hu,rfl⟩ | ⟨hu,rfl⟩⟩:=h
 ·have hx:=oY (dA ⟨hu,hv⟩);exact⟨.cross hc hx,BO hx⟩
 ·exact⟨.corner hc.mem.1 ν,by rw[nJ];exact hu⟩
theorem Entry.pm(h:Entry L cs p):Pm L cs p/\f_ L p=0:=by
 obtain⟨u,v,hc,hv,⟨hu,rfl⟩ | ⟨hu,rfl⟩⟩:=h
 ·have hx:=oY (cX ⟨hv,hu⟩);exact⟨.cross hc hx,BO hx⟩
 ·exact⟨.corner hc.mem.2 ν,by rw[nJ];exact hu⟩
theorem Pm.exc_le(h:Pm L cs r):f_ L r<=0:=by
 cases h with
 |corner hu he=>rw[nJ];exact he
 |cross hc hx=>rw[BO hx];exact rM _
theorem LV(c:b_ cs)(hc:az cs u v)(hv:0<af L v)(hp:(af L u<0/\p=jO L u v)\/(af L u=0/\p=aq u))(hq:Pm L cs q)(h0:f_ L q=0)(ne:q≠p):gO (aq v) p q<0:=by
 have s:0<gO (aq u) (aq v) q:=by
  refine tV c hc hq ?_ ?_ ?_
  ·rintro rfl;rw[nJ] at h0;rcases hp with⟨h,_⟩ | ⟨_,rfl⟩
   ·lia
   ·exact ne rfl
  ·rintro rfl;rw[nJ] at h0;lia
  ·rcases hp with⟨h,rfl⟩ | ⟨h,_⟩
   ·exact dA ne
   ·right;rw[h];simp
 obtain⟨α,β,ha,rfl⟩:∃α β:Int,0<α/\p=xN α (aq u) β (aq v):=by
  rcases hp with⟨h,rfl⟩ | ⟨h,rfl⟩
  ·exact⟨_,_,(tP (oY (dA ⟨h,hv⟩))).1,rfl⟩
  ·refine⟨1,0,η,?_⟩;simp[xN,aq]
 have e:gO (aq v) (xN α (aq u) β (aq v)) q = -(α*gO (aq u) (aq v) q):=by unfold gO xN;grind
 rw[e];have:=aJ ha s;lia
theorem Bh(c:b_ cs)(h:h9 L cs p)(h':h9 L cs p'):p=p':=by
 apply bK;intro ne;have z:=h.pm;have z':=h'.pm;obtain⟨u,v,hc,hv,hp⟩:=h;obtain⟨u',v',nI,B_,ly⟩:=h';have t1:=LV c hc hv hp z'.1 z'.2 (Ne.symm ne);have t2:=LV c nI B_ ly z.1 z.2 ne;have f:=Yy L (aq v) p p' (aq v');rw[z.2,z'.2,nJ,nJ] at f;have e:gO p p' (aq v') = - gO (aq v') p' p:=by unfold gO;grind
 have k1:af L v*gO p p' (aq v') > 0:=by rw[e];exact aJ hv ν
 have k2:af L v'*gO (aq v) p p'<0:=eJ B_ t1;lia
theorem RH(c:b_ cs)(hc:az cs u v)(hu:0<af L u)(hp:(af L v<0/\p=jO L u v)\/(af L v=0/\p=aq v))(hq:Pm L cs q)(h0:f_ L q=0)(ne:q≠p):0<gO (aq u) p q:=by
 have s:0<gO (aq u) (aq v) q:=by
  refine tV c hc hq ?_ ?_ ?_
  ·rintro rfl;rw[nJ] at h0;lia
  ·rintro rfl;rw[nJ] at h0;rcases hp with⟨h,_⟩ | ⟨_,rfl⟩
   ·lia
   ·exact ne rfl
  ·rcases hp with⟨h,rfl⟩ | ⟨h,_⟩
   ·exact dA ne
   ·right;rw[h];simp
 obtain⟨α,β,hb,rfl⟩:∃α β:Int,0<β/\p=xN α (aq u) β (aq v):=by
  rcases hp with⟨h,rfl⟩ | ⟨h,rfl⟩
  ·exact⟨_,_,(tP (oY (cX ⟨hu,h⟩))).2,rfl⟩
  ·refine⟨0,1,η,?_⟩;simp[xN,aq]
 have e:gO (aq u) (xN α (aq u) β (aq v)) q=β*gO (aq u) (aq v) q:=by unfold gO xN;grind
 rw[e];exact aJ hb s
theorem WF(c:b_ cs)(h:Entry L cs p)(h':Entry L cs p'):p=p':=by
 apply bK;intro ne;have z:=h.pm;have z':=h'.pm;obtain⟨u,v,hc,hv,hp⟩:=h;obtain⟨u',v',nI,B_,ly⟩:=h';have t1:=RH c hc hv hp z'.1 z'.2 (Ne.symm ne);have t2:=RH c nI B_ ly z.1 z.2 ne;have f:=Yy L (aq u) p p' (aq u');rw[z.2,z'.2,nJ,nJ] at f;have e:gO p p' (aq u') = - gO (aq u') p' p:=by unfold gO;grind
 have k1:af L u*gO p p' (aq u')<0:=by rw[e];exact eJ hv ν
 have k2:0<af L u'*gO (aq u) p p':=aJ B_ t1;lia
theorem LZ(c:b_ cs)(hp:h9 L cs p)(hq:Entry L cs q)(ne:q≠p):∃k m:Int,0<k/\0<m/\∀r:H3,k*gO p q r = -(m*f_ L r):=by
 have z:=hp.pm;have z':=hq.pm;obtain⟨u,v,hc,hv,h⟩:=hp;have t:=LV c hc hv h z'.1 z'.2 ne;refine⟨af L v,-gO (aq v) p q,hv,ν,λr=>?_⟩;have f:=Yy L (aq v) p q r;rw[z.2,z'.2,nJ] at f;grind
theorem WO(c:b_ cs)(h1:az cs t u)(h2:az cs u v)(nt:t≠v)(e1:af L t<=af L u)(e2:af L v<=af L u):∀w∈cs,af L w<=af L u:=by
 intro w hw;have D:0<bZ t u v:=c.strict t u h1 v h2.mem.2 (Ne.symm nt) (Ne.symm (c.ne h2));have C:=c.side h1 hw;have A:=c.side h2 hw;have key:bZ t u v*af L w=bZ t u v*af L u-bZ u v w*(af L u-af L t)-bZ t u w*(af L u-af L v):=by
  unfold bZ af;grind
 apply fP.mp;intro hn;have k1:0<bZ t u v*(af L w-af L u):=aJ D ν;have k2:=bT A (show 0<=af L u-af L t by lia);have k3:=bT C (show 0<=af L u-af L v by lia);have e:bZ t u v*(af L w-af L u)=bZ t u v*af L w-bZ t u v*af L u:=ε
 lia
theorem WN(c:b_ cs)(h1:az cs t u)(h2:az cs u v)(nt:t≠v)(e1:af L u<=af L t)(e2:af L u<=af L v):∀w∈cs,af L u<=af L w:=by
 intro w hw;have:=WO (L:=⟨-L.a,-L.b,-L.k⟩) c h1 h2 nt (by unfold af at *;dsimp only at *;grind) (by unfold af at *;dsimp only at *;grind) w hw;unfold af at *;dsimp only at *;grind
end
section
variable{L:br}{cs:ω Pt}
def QY(c:b_ cs)(hu:u∈cs):∃t v,az cs t u/\az cs u v/\t≠v:=by
 obtain⟨X,Y,rfl⟩:=oB hu;have c2:b_ ((u::Y)++X):=c.swap;have len:=c2.len;have nd:=c2.nodup;have bk:∀{a b},az ((u::Y)++X) a b->az (X++u::Y) a b:=λh=>JD h;rw[aW] at len nd bk;generalize Y++X=Z at len nd bk;obtain⟨v,Z1,hv⟩:∃v Z1,Z=v::Z1:=by
  cases Z with
  |nil=>simp at len
  |cons v Z1=>exact⟨v,Z1,rfl⟩
 obtain⟨t,Z2,ht⟩:∃t Z2,Z=Z2++[t]:=by
  rcases fF Z with h | ⟨Z2,t,h⟩
  ·rw[h] at len;simp at len
  ·exact⟨t,Z2,by simpa using h⟩
 refine⟨t,v,bk ⟨u::Z2,[],by rw[ht];simp⟩,bk ⟨[],Z1++[u],by rw[hv];simp⟩,?_⟩;rintro rfl;have nd':=(fS.mp nd).2;rw[hv] at nd';cases Z1 with
 |nil=>rw[hv] at len;simp at len
 |cons x Z1=>
  have:t∈x::Z1:=by
   have e:t::x::Z1=Z2++[t]:=(by rw[<-hv,ht]);cases Z2 with
   |nil=>simp at e
   |cons y Z2=>
    simp at e;rw[e.2];simp
  exact(fS.mp nd').1 this
def XJ(c:b_ cs)(fj:∃w∈cs,0<af L w)(hr:Pm L cs r)(h0:f_ L r=0):h9 L cs r\/Entry L cs r:=by
 cases hr with
 | @corner u hu he=>
  rw[nJ] at h0;obtain⟨t,v,h1,h2,ne⟩:=QY c hu;by_cases hv:0<af L v
  ·exact dA ⟨u,v,h2,hv,cX ⟨h0,rfl⟩⟩
  ·by_cases ht:0<af L t
   ·exact cX ⟨t,u,h1,ht,cX ⟨h0,rfl⟩⟩
   ·exfalso;obtain⟨w,hw,hwp⟩:=fj;have:=WO (L:=L) c h1 h2 ne (h0▸fP.mp ht) (h0▸fP.mp hv) w hw;rw[h0] at this;exact Ψ this (fG.mpr hwp)
 | @cross u v hc hx=>
  rcases h8 hx with⟨h1,h2⟩ | ⟨h1,h2⟩
  ·exact dA ⟨u,v,hc,h2,dA ⟨h1,rfl⟩⟩
  ·exact cX ⟨u,v,hc,h1,dA ⟨h2,rfl⟩⟩
theorem tO(c:b_ cs)(fu:∃w∈cs,af L w<0)(hp:h9 L cs p)(hq:Entry L cs q):q≠p:=by
 rintro rfl;obtain⟨u,v,hc,hv,h⟩:=hp;obtain⟨u',v',nI,xh,h'⟩:=hq;rcases h with⟨h,rfl⟩ | ⟨h,rfl⟩ <;> rcases h' with⟨h',e⟩ | ⟨h',e⟩
 ·rcases SM c hc nI (oY (cX ⟨xh,h'⟩)) with⟨rfl,_⟩ |k
  ·exact pX h xh
  ·rw[<-e,Ba] at k;exact nD _ k
 ·have:=HW (oY (dA ⟨h,hv⟩));rw[e] at this;simp at this
 ·have:=HW (oY (cX ⟨xh,h'⟩));rw[<-e] at this;simp at this
 ·have euv:u=v':=by
   simp only[aq,fK] at e;exact lV e.1 e.2.1
  subst euv;obtain⟨w,hw,hwn⟩:=fu;have ne:u'≠v:=λe=>ZB c hc (e▸nI);have:=WN (L:=L) c nI hc ne ν ν w hw;lia
inductive qo(L:br)(cs:List Pt):H3->H3->Prop
 |full {u v:Pt} (h:az cs u v) (h1:af L u<=0) (h2:af L v<=0):qo L cs (aq u) (aq v)
 |out {u v:Pt} (h:az cs u v) (h1:af L u<0) (h2:0<af L v):qo L cs (aq u) (jO L u v)
 |inn {u v:Pt} (h:az cs u v) (h1:0<af L u) (h2:af L v<0):qo L cs (jO L u v) (aq v)
 |line {p q:H3} (hp:h9 L cs p) (hq:Entry L cs q):qo L cs p q
def pi(L:br)(cs:ω Pt)(l:H3)(u w:Pt):Prop:=az cs u w/\((af L w<0/\((af L u<=0/\l=aq u)\/(0<af L u/\l=jO L u w)))\/(af L w=0/\((af L u<=0/\l=aq u)\/(0<af L u/\h9 L cs l)))\/(0<af L w/\h9 L cs l))
def Run{α:Type}(R:α->α->Prop):α->ω α->Prop
 |_,[]=>True
 |a,b::r=>R a b/\Run R b r
def kU{α:Type}(a:α):ω α->α
 | []=>a
 |b::r=>kU b r
theorem TR{α:Type}{R:α->α->Prop}:∀(a:α)(X Y:ω α),Run R a X->Run R (kU a X) Y->Run R a (X++Y)
 |_,[],_,_,h=>h
 |_,b::X,Y,⟨h1,h2⟩,h=>⟨h1,TR b X Y h2 h⟩
theorem FP{α:Type}:∀(a:α)(X Y:ω α),kU a (X++Y)=kU (kU a X) Y
 |_,[],_=>rfl
 |_,b::X,Y=>FP b X Y
theorem SS:∀(W:ω Pt)(l:H3)(u w:Pt),pi L cs l u w->Run (az cs) w W->Run (qo L cs) l (Pl L (w::W))/\(∀v,W≠[]->kU w W=v->∃t,(kU u (w::W.dropLast)=t)/\pi L cs (kU l (Pl L (w::W))) t v)
 | [],l,u,w,_,_=>⟨trivial,λv h=>Ψ rfl h⟩
 |v::W,l,u,w,⟨hc,hs⟩,⟨hv,hr⟩=>by
  have step:Run (qo L cs) l (f9 L w v)/\pi L cs (kU l (f9 L w v)) w v:=by
   by_cases hw:af L w<=0
   ·have first:qo L cs l (aq w):=by
     rcases hs with⟨h0,⟨h1,rfl⟩ | ⟨h1,rfl⟩⟩ | ⟨h0,⟨h1,rfl⟩ | ⟨h1,h2⟩⟩ | ⟨h0,_⟩
     ·exact .full hc h1 hw
     ·exact .inn hc h1 h0
     ·exact .full hc h1 hw
     ·exact .line h2 ⟨u,w,hc,h1,cX ⟨h0,rfl⟩⟩
     ·exact Ψ hw (fG.mpr h0)
    by_cases hx:af L w*af L v<0
    ·have e:f9 L w v=[aq w,jO L w v]:=(by unfold f9;rw[Ω hw,Ω hx];rfl);rw[e];rcases h8 hx with⟨h1,h2⟩ | ⟨h1,h2⟩
     ·exact⟨⟨first,.out hv h1 h2,trivial⟩,hv,cX (cX ⟨h2,w,v,hv,h2,dA ⟨h1,rfl⟩⟩)⟩
     ·exact Ψ hw (fG.mpr h1)
    ·have e:f9 L w v=[aq w]:=(by unfold f9;rw[Ω hw,υ hx];rfl);rw[e];refine⟨⟨first,trivial⟩,hv,?_⟩;show(af L v<0/\((af L w<=0/\aq w=aq w)\/_))\/_;rcases fN (af L v) 0 with k |k |k
     ·exact dA ⟨k,dA ⟨hw,rfl⟩⟩
     ·exact cX (dA ⟨k,dA ⟨hw,rfl⟩⟩)
     ·have w0:af L w=0:=by
       rcases iM hw with h |h
       ·exact Ψ (oY (dA ⟨h,k⟩)) hx
       ·exact h
      exact cX (cX ⟨k,w,v,hv,k,cX ⟨w0,rfl⟩⟩)
   ·have ex:h9 L cs l:=by
     rcases hs with⟨h0,_⟩ | ⟨h0,_⟩ | ⟨_,h⟩
     ·exact Ψ (aK h0) hw
     ·exact Ψ (Int.le_of_eq h0) hw
     ·exact h
    by_cases hx:af L w*af L v<0
    ·have e:f9 L w v=[jO L w v]:=(by unfold f9;rw[υ hw,Ω hx];rfl);rw[e];rcases h8 hx with⟨h1,h2⟩ | ⟨h1,h2⟩
     ·exact Ψ (aK h1) hw
     ·exact⟨⟨.line ex ⟨w,v,hv,h1,dA ⟨h2,rfl⟩⟩,trivial⟩,hv,dA ⟨h2,cX ⟨h1,rfl⟩⟩⟩
    ·have e:f9 L w v=[]:=(by unfold f9;rw[υ hw,υ hx];rfl);rw[e];refine⟨trivial,hv,?_⟩;rcases fN (af L v) 0 with k |k |k
     ·exact Ψ (oY (cX ⟨fG.mp hw,k⟩)) hx
     ·exact cX (dA ⟨k,cX ⟨fG.mp hw,ex⟩⟩)
     ·exact cX (cX ⟨k,ex⟩)
  have e:Pl L (w::v::W)=f9 L w v++Pl L (v::W):=rfl;obtain⟨i1,i2⟩:=SS W (kU l (f9 L w v)) w v step.2 hr;refine⟨by rw[e];exact TR _ _ _ step.1 i1,λx _ hx=>?_⟩;rw[e,FP];cases W with
  |nil=>
   have:x=v:=hx.symm;subst this;exact⟨w,rfl,step.2⟩
  |cons y W=>
   obtain⟨t,ht,o7⟩:=i2 x δ hx;exact⟨t,ht,o7⟩
end
theorem XY(L:br):∀(A:ω Pt)(x:Pt)(B:ω Pt),Pl L (A++x::B)=Pl L (A++[x])++Pl L (x::B)
 | [],x,B=>by simp[Pl]
 | [a],x,B=>by simp[Pl]
 |a::b::A,x,B=>by
  have ih:=XY L (b::A) x B;simp only[aW] at ih⊢;rw[Pl,ih,Pl,gA]
theorem Hs:∀(x:Pt)(l:ω Pt),(∀a b,ie (x::l) a b->R a b)->Run R x l
 |_,[],_=>trivial
 |x,y::l,h=>⟨h x y ⟨[],l,rfl⟩,Hs y l λa b hn=>h a b (hn.cons x)⟩
theorem mW{α:Type}:∀(a:α)(X:ω α)(b:α),kU a (X++[b])=b
 |_,[],_=>rfl
 |_,x::X,b=>mW x X b
def GY(l:ω H3)(p q:H3):Prop:=∃a b,l=a++p::q::b
theorem Ka:∀(a:H3)(l:ω H3),Run R a l->∀p q,GY (a::l) p q->R p q
 |a,[],_,p,q,⟨x,y,e⟩=>by
  have:=Φ eW e;simp at this;lia
 |a,b::l,⟨h1,h2⟩,p,q,⟨x,y,e⟩=>by
  cases x with
  |nil=>simp at e;obtain⟨rfl,rfl,_⟩:=e;exact h1
  |cons z x=>simp at e;exact Ka b l h2 p q ⟨x,y,by simpa using e.2⟩
theorem Nt{c0:Pt}:∀(W:ω Pt)(x:Pt),Run (az cs) x W->∀r∈Pl L (x::W),Pm L cs r
 | [],x,_,r,hr=>by simp[Pl] at hr
 |y::W,x,⟨h1,h2⟩,r,hr=>by
  rw[Pl] at hr;rcases bQ.mp hr with h |h
  ·unfold f9 at h;rcases bQ.mp h with h |h
   ·split at h
    ·rename_i he;simp at h;subst h;exact .corner h1.mem.1 he
    ·simp at h
   ·split at h
    ·rename_i he;simp at h;subst h;exact .cross h1 he
    ·simp at h
  ·exact Nt (c0:=c0) W y h2 r h
theorem Ac(c:b_ cs):∀(W:ω Pt)(x:Pt),Run (az cs) x W->(x::W).dropLast.Nodup->(Pl L (x::W)).Nodup/\∀r∈Pl L (x::W),(∃u∈(x::W).dropLast,r=aq u)\/(∃u v,u∈(x::W).dropLast/\az cs u v/\af L u*af L v<0/\r=jO L u v)
 | [],x,_,_=>by simp[Pl]
 |y::W,x,⟨h1,h2⟩,hn=>by
  have ed:(x::y::W).dropLast=x::(y::W).dropLast:=rfl;rw[ed] at hn⊢;obtain⟨n1,n2⟩:=fS.mp hn;obtain⟨i1,i2⟩:=Ac c W y h2 n2;have mb:∀r∈f9 L x y,r=aq x\/(af L x*af L y<0/\r=jO L x y):=by
   intro r hr;unfold f9 at hr;rcases bQ.mp hr with h |h
   ·split at h
    ·simp at h;exact dA h
    ·simp at h
   ·split at h
    ·rename_i hx;simp at h;exact cX ⟨hx,h⟩
    ·simp at h
  refine⟨?_,?_⟩
  ·rw[Pl,jQ];refine⟨?_,i1,?_⟩
   ·unfold f9;by_cases ha:af L x<=0 <;> by_cases hb:af L x*af L y<0
    ·rw[Ω ha,Ω hb];simp;intro e;have:=HW hb;rw[<-e] at this;simp at this
    all_goals simp[ha,hb]
   ·intro a ha b hb e;subst e;rcases mb a ha with rfl | ⟨hx,rfl⟩ <;> rcases i2 _ hb with⟨u,hu,e⟩ | ⟨u,v,hu,hc,ou,e⟩
    ·have:x=u:=(by simp only[aq,fK] at e;exact lV e.1 e.2.1);subst this;exact n1 hu
    ·have:=HW ou;rw[<-e] at this;simp at this
    ·have:=HW hx;rw[e] at this;simp at this
    ·have nu:u≠x:=λe=>n1 (e▸hu);have z1:=Ba (L:=L) x y;rw[e] at z1;exact(SM c h1 hc ou).elim (λk=>nu k.1) λk=>nD 0 (z1▸k)
  ·intro r hr;rw[Pl] at hr;rcases bQ.mp hr with h |h
   ·rcases mb r h with rfl | ⟨hx,rfl⟩
    ·exact dA ⟨x,δ,rfl⟩
    ·exact cX ⟨x,y,δ,h1,hx,rfl⟩
   ·rcases i2 r h with⟨u,hu,e⟩ | ⟨u,v,hu,hc,ou,e⟩
    ·exact dA ⟨u,by simp[hu],e⟩
    ·exact cX ⟨u,v,by simp[hu],hc,ou,e⟩
def YJ(u v:Pt)(r:H3):gO (aq u) (jO L u v) r=((af L u).natAbs:Int)*gO (aq u) (aq v) r:=by unfold jO gO xN;grind
def YI(u v:Pt)(r:H3):gO (jO L u v) (aq v) r=((af L v).natAbs:Int)*gO (aq u) (aq v) r:=by unfold jO gO xN;grind
def HH(c:b_ cs)(fj:∃w∈cs,0<af L w)(fu:∃w∈cs,af L w<0)(h:qo L cs p q)(hr:Pm L cs r)(n1:r≠p)(n2:r≠q):0<gO p q r:=by
 cases h with
 | @full u v hc h1 h2=>
  refine tV c hc hr n1 n2 (cX λhx=>?_);exact(h8 hx).elim (λh=>fG.mpr h.2 h2) λh=>fG.mpr h.1 h1
 | @out u v hc h1 h2=>
  have hx:=oY (dA ⟨h1,h2⟩);have nv:r≠aq v:=by rintro rfl;have:=hr.exc_le;rw[nJ] at this;first |exact fG.mpr h1 this |exact fG.mpr h2 this
  have s:=tV c hc hr n1 nv (dA n2);rw[YJ];exact aJ (tP hx).2 s
 | @inn u v hc h1 h2=>
  have hx:=oY (cX ⟨h1,h2⟩);have nu:r≠aq u:=by rintro rfl;have:=hr.exc_le;rw[nJ] at this;first |exact fG.mpr h1 this |exact fG.mpr h2 this
  have s:=tV c hc hr nu n2 (dA n1);rw[YI];exact aJ (tP hx).1 s
 |line hp hq=>
  obtain⟨k,m,k0,m0,f⟩:=LZ c hp hq (tO c fu hp hq);have le:=hr.exc_le;have lt:f_ L r<0:=by
   rcases iM le with h |h
   ·exact h
   ·exfalso;rcases XJ c fj hr h with h' |h'
    ·exact n1 (Bh c h' hp)
    ·exact n2 (WF c h' hq)
  have e:=f r;have:0<k*gO p q r:=by rw[e];exact GQ (eJ m0 lt)
  exact iH (by rw[dS];exact this) k0
def Nu(c:b_ cs)(fu:∃w∈cs,af L w<0)(h:qo L cs p q)(hr:∀u v,az cs u v->0<=gO (aq u) (aq v) r)(he:f_ L r<=0):0<=gO p q r:=by
 cases h with
 | @full u v hc h1 h2=>exact hr u v hc
 | @out u v hc h1 h2=>
  rw[YJ];exact bT (vO _) (hr u v hc)
 | @inn u v hc h1 h2=>
  rw[YI];exact bT (vO _) (hr u v hc)
 |line hp hq=>
  obtain⟨k,m,k0,m0,f⟩:=LZ c hp hq (tO c fu hp hq);have e:=f r;refine fP.mp λhn=>fG.mpr (eJ k0 hn) ?_;rw[e];exact Int.neg_nonneg_of_nonpos (eU (aK m0) he)
def Fi(c:b_ cs)(fu:∃w∈cs,af L w<0)(h:qo L cs p q)(hr:∀u v,az cs u v->0<gO (aq u) (aq v) r)(he:f_ L r<0):0<gO p q r:=by
 cases h with
 | @full u v hc h1 h2=>exact hr u v hc
 | @out u v hc h1 h2=>
  rw[YJ];exact aJ (tP (oY (dA ⟨h1,h2⟩))).2 (hr u v hc)
 | @inn u v hc h1 h2=>
  rw[YI];exact aJ (tP (oY (cX ⟨h1,h2⟩))).1 (hr u v hc)
 |line hp hq=>
  obtain⟨k,m,k0,m0,f⟩:=LZ c hp hq (tO c fu hp hq);have e:=f r;have:0<k*gO p q r:=by rw[e];exact GQ (eJ m0 he)
  exact iH (by rw[dS];exact this) k0
def Vl(c:b_ cs)(hr:Pm L cs r)(h:az cs u v):0<=gO (aq u) (aq v) r:=by
 cases hr with
 |corner hw _=>rw[LS];exact c.side h hw
 |cross hc hx=>
  unfold jO;rw[LR,LS,LS];obtain⟨f1,f2⟩:=tP hx;exact vM (bT (aK f1) (c.side h hc.mem.1)) (bT (aK f2) (c.side h hc.mem.2))
section
variable{L:br}{cs:ω Pt}
def Lw(h:GY (kU l X::Y) p q):GY (l::(X++Y)) p q:=by
 induction X generalizing l with
 |nil=>exact h
 |cons x X ih=>
  obtain⟨a,b,e⟩:=ih (l:=x) h;exact⟨l::a,b,by simp at e⊢;exact e⟩
theorem QR(hs:pi L cs l u w)(hv:az cs w v):pi L cs (kU l (f9 L w v)) w v:=by
 obtain⟨h1,h2⟩:=SS [v] l u w hs ⟨hv,trivial⟩;obtain⟨t,ht,o7⟩:=h2 v δ rfl;have e:Pl L [w,v]=f9 L w v:=by simp[Pl]
 have ht':t=w:=ht.symm;rw[e,ht'] at o7;exact o7
theorem DC(mn:af L c0<0):∀(W:ω Pt)(l:H3)(u w:Pt),pi L cs l u w->Run (az cs) w W->0<af L w->kU w W=c0->∃p q,h9 L cs p/\Entry L cs q/\GY (l::Pl L (w::W)) p q
 | [],l,u,w,hs,_,hw,e=>by
  exact Ψ hw (pX (show af L w<0 from(show w=c0 from e)▸mn))
 |v::W,l,u,w,hs,⟨hv,hr⟩,hw,e=>by
  have ex:h9 L cs l:=by
   rcases hs.2 with⟨h0,_⟩ | ⟨h0,_⟩ | ⟨_,h⟩
   ·exact Ψ hw (pX h0)
   ·exact Ψ h0 (rS hw)
   ·exact h
  have st:=QR hs hv;have eP:Pl L (w::v::W)=f9 L w v++Pl L (v::W):=rfl;rcases fN (af L v) 0 with k |k |k
  ·have hx:=oY (cX ⟨hw,k⟩);have eb:f9 L w v=[jO L w v]:=(by unfold f9;rw[υ (fG.mpr hw),Ω hx];rfl);refine⟨l,jO L w v,ex,⟨w,v,hv,hw,dA ⟨k,rfl⟩⟩,[],Pl L (v::W),?_⟩;rw[eP,eb];rfl
  ·have eb:f9 L w v=[]:=(by unfold f9;rw[υ (fG.mpr hw),k];simp);cases W with
   |nil=>exact Ψ k (zF (show af L v<0 from(show v=c0 from e)▸mn))
   |cons y W=>
    refine⟨l,aq v,ex,⟨w,v,hv,hw,cX ⟨k,rfl⟩⟩,[],(if af L v*af L y<0 then[jO L v y] else[])++Pl L (y::W),?_⟩;rw[eP,eb,Pl];unfold f9;rw[Ω (Int.le_of_eq k)];simp
  ·have eb:f9 L w v=[]:=by
    unfold f9;have:¬af L w*af L v<0:=λh=>(h8 h).elim (λh=>pX h.1 hw) λh=>pX h.2 k;rw[υ (fG.mpr hw),υ this];rfl
   rw[eb] at st;obtain⟨p,q,hp,hq,hn⟩:=DC mn W l w v st hr k e;exact⟨p,q,hp,hq,by rw[eP,eb];exact hn⟩
def Gf(mn:af L c0<0)(W:ω Pt):∀(l:H3)(u w:Pt),pi L cs l u w->Run (az cs) w W->(∃x∈w::W,0<af L x)->kU w W=c0->∃p q,h9 L cs p/\Entry L cs q/\GY (l::Pl L (w::W)) p q:=by
 induction W with
 |nil=>
  intro l u w hs hr hx e;obtain⟨x,hx,hp⟩:=hx;rw[cJ.mp hx] at hp;exact DC mn [] l u w hs hr hp e
 |cons v W ih=>
  intro l u w hs hr hx e;by_cases hw:0<af L w
  ·exact DC mn _ l u w hs hr hw e
  ·obtain⟨x,hx,hp⟩:=hx;obtain⟨p,q,h1,h2,h3⟩:=ih _ _ _ (QR hs hr.1) hr.2 ⟨x,(aO.mp hx).resolve_left λe=>hw (e▸hp),hp⟩ e;exact⟨p,q,h1,h2,Lw h3⟩
def Lx{P P2 P3:ω H3}(e1:P=h::P2)(e2:P=P3++[l])(hn:GY (l::P) a b):GY (P++P.take 1) a b:=by
 have t1:P.take 1=[h]:=by rw[e1];rfl
 rw[t1];obtain⟨x,y,e⟩:=hn;cases x with
 |nil=>
  have e':l::P=a::b::y:=e;rw[e1] at e';injection e' with k1 k2;injection k2 with k2 _;rw[<-k1,<-k2,e2,gA];exact⟨P3,[],rfl⟩
 |cons z x=>
  injection e with _ e;exact⟨x,y++[h],by rw[show P=x++a::b::y from e,gA];rfl⟩
def Qw{P P2 P3:ω H3}(e1:P=h::P2)(e2:P=P3++[l])(hn:GY (P++P.take 1) a b):GY (l::P) a b:=by
 have t1:P.take 1=[h]:=by rw[e1];rfl
 rw[t1] at hn;obtain⟨x,y,e⟩:=hn;rcases fF y with rfl | ⟨y',w,rfl⟩
 ·have e':P++[h]=(x++[a])++[b]:=by rw[e,gA];rfl
  have k1:=mC e' rfl;have k2:=gS (e2.symm.trans k1) rfl;injection k2 with k2 _;have k3:=gS e' rfl;injection k3 with k3 _;rw[e1,k2,k3];exact⟨[],P2,rfl⟩
 ·have e':P++[h]=(x++a::b::y')++[w]:=by rw[e,gA];simp only[sO];rfl
  exact⟨l::x,y',by rw[mC e' rfl];rfl⟩
def Uv{P P2:ω H3}(e1:P=h::P2)(hn:GY (P++P.take 1) a b):a∈P/\b∈P:=by
 have t1:P.take 1=[h]:=by rw[e1];rfl
 have k:∀x∈P++P.take 1,x∈P:=λx hx=>(bQ.mp hx).elim id λh=>kH h;obtain⟨x,y,e⟩:=hn;have m:∀z,z∈a::b::y->z∈P:=λz hz=>k z (e▸bD x hz);exact⟨m _ (.head _),m _ (.tail _ (.head _))⟩
def R4(A B:ω H3):Prop:=∃X Y,A=X++Y/\B=Y++X
structure pf(L:br)(cs:List Pt)(P:List H3):Prop where
 nodup:P.Nodup
 pm:∀r∈P,Pm L cs r
 adj:∀p q,GY (P++P.take 1) p q->qo L cs p q
 len:3<=P.length
 line:∃p q,h9 L cs p/\Entry L cs q/\GY (P++P.take 1) p q
def fg{α:Type}(f:α->α->Int):α->ω α->Int
 |_,[]=>0
 |a,b::l=>f a b+fg f b l
theorem tG{α:Type}(f:α->α->Int):∀(a:α)(X Y:ω α),fg f a (X++Y)=fg f a X+fg f (kU a X) Y
 |a,[],Y=>by simp[fg,kU]
 |a,b::X,Y=>by
  show f a b+fg f b (X++Y)=f a b+fg f b X+fg f (kU b X) Y;rw[tG f b X Y];lia
def hV{α:Type}(f:α->α->Int):ω α->Int
 | []=>0
 |z::T=>fg f z (T++[z])
theorem WJ{α:Type}:∀(h:α)(T X:ω α)(l:α),h::T=X++[l]->kU h T=l
 |h,[],X,l,e=>by
  cases X with
  |nil=>simp at e;exact e
  |cons x X=>simp at e
 |h,y::T,X,l,e=>by
  cases X with
  |nil=>simp at e
  |cons x X=>simp at e;exact WJ y T X l (by simpa using e.2)
theorem WD{α:Type}(f:α->α->Int){P X:ω α}{l:α}(e:P=X++[l]):fg f l P=hV f P:=by
 cases P with
 |nil=>simp at e
 |cons h P2=>
  show f l h+fg f h P2=fg f h (P2++[h]);rw[tG,WJ h P2 X l e];simp only[fg];lia
theorem At{α:Type}(f:α->α->Int)(X Y:ω α):hV f (X++Y)=hV f (Y++X):=by
 cases X with
 |nil=>simp
 |cons x X=>
  cases Y with
  |nil=>simp
  |cons y Y=>
   show fg f x ((X++y::Y)++[x])=fg f y ((Y++x::X)++[y]);rw[show(X++y::Y)++[x]=(X++[y])++(Y++[x]) by simp,show(Y++x::X)++[y]=(Y++[x])++(X++[y]) by simp,tG,tG f y,mW,mW];lia
def dl(d:Pt->Pt->Int):Pt->Pt->ω Pt->Int
 |u,w,[]=>d u w
 |_,w,v::W=>dl d w v W
theorem Jb(d:Pt->Pt->Int):∀(A:ω Pt)(u w x y:Pt),dl d u w (A++[x,y])=d x y
 | [],_,_,_,_=>rfl
 |a::A,u,w,x,y=>Jb d A w a x y
theorem Cq{f:H3->H3->Int}{d e:Pt->Pt->Int}(hf:∀l u w v,pi L cs l u w->az cs w v->fg f l (f9 L w v)=d u w+e w v):∀(W:ω Pt)(l:H3)(u w:Pt),pi L cs l u w->Run (az cs) w W->fg f l (Pl L (w::W))+dl d u w W=d u w+fg (λa b=>d a b+e a b) w W
 | [],l,u,w,hs,_=>by simp[Pl,fg,dl]
 |v::W,l,u,w,hs,hr=>by
  have ih:=Cq hf W (kU l (f9 L w v)) w v (QR hs hr.1) hr.2;show fg f l (f9 L w v++Pl L (v::W))+dl d w v W=d u w+((d w v+e w v)+fg (λa b=>d a b+e a b) v W);rw[tG,hf l u w v hs hr.1];lia
def E9(cu0:az cs u0 c0)(mn:af L c0<0):∃l0,pi L cs l0 u0 c0/\∀l,pi L cs l u0 c0->l=l0:=by
 have first {l:H3} (hl:pi L cs l u0 c0):=hl.2.resolve_right λh=>h.elim (λk=>Ψ k.1 (zF mn)) λk=>pX k.1 mn;by_cases h:af L u0<=0
 ·exact⟨aq u0,⟨cu0,dA ⟨mn,dA ⟨h,rfl⟩⟩⟩,λl hl=>(first hl).2.elim (·.2) λk=>Ψ h (fG.mpr k.1)⟩
 ·exact⟨jO L u0 c0,⟨cu0,dA ⟨mn,cX ⟨fG.mp h,rfl⟩⟩⟩,λl hl=>(first hl).2.elim (λk=>Ψ k.1 h) (·.2)⟩
def Nr(mn:af L c0<0)(Z:ω Pt):aq c0∈Pl L (c0::(Z++[c0])):=by
 cases hz:Z++[c0] with
 |nil=>simp at hz
 |cons y r=>rw[Pl];unfold f9;rw[Ω (aK mn)];exact .head _
theorem CM(c:b_ cs)(fj:∃w∈cs,0<af L w)(fu:∃w∈cs,af L w<0):∃P',R4 (Pl L (cs++cs.take 1)) P'/\pf L cs P'/\∀(f:H3->H3->Int)(d e:Pt->Pt->Int),(∀l u w v,pi L cs l u w->az cs w v->fg f l (f9 L w v)=d u w+e w v)->hV f P'=hV (λa b=>d a b+e a b) cs:=by
 obtain⟨c0,zi,mn⟩:=fu;have fu:∃w∈cs,af L w<0:=⟨c0,zi,mn⟩;obtain⟨X,Y,vf⟩:=oB zi;have c2:b_ ((c0::Y)++X):=by rw[vf] at c;exact c.swap
 have toC:∀{a b},az ((c0::Y)++X) a b->az cs a b:=λh=>by rw[vf];exact JD h
 rw[aW] at c2 toC;obtain⟨Z,hZ⟩:∃Z,Z=Y++X:=⟨_,rfl⟩;rw[<-hZ] at c2 toC;have runs:Run (az cs) c0 (Z++[c0]):=Hs _ _ λa b h=>toC (by show ie ((c0::Z)++[c0]) a b;exact h);obtain⟨u0,Z2,eZ⟩:∃t Z2,Z=Z2++[t]:=by
  rcases fF Z with h | ⟨Z2,t,h⟩
  ·have:=c2.len;rw[h] at this;simp at this
  ·exact⟨t,Z2,by simpa using h⟩
 have cu0:az cs u0 c0:=toC ⟨c0::Z2,[],by rw[eZ];simp⟩;obtain⟨l0,hl0⟩:=E9 cu0 mn;obtain⟨o7,B2⟩:=hl0;obtain⟨r1,r2⟩:=SS (Z++[c0]) l0 u0 c0 o7 runs;obtain⟨t,ht,A_⟩:=r2 c0 δ (mW _ _ _);rw[<-ht,kE,eZ,show kU u0 (c0::(Z2++[u0]))=u0 from mW _ (c0::Z2) _,<-eZ] at A_;have el:=B2 _ A_;have top:=Nr (L:=L) mn Z;have ePz:Pl L (c0::(Z++[c0]))≠[]:=λe=>by rw[e] at top;cases top
 have mem:=Nt (L:=L) (c0:=c0) (Z++[c0]) c0 runs;have nd:=(Ac (L:=L) c (Z++[c0]) c0 runs (by
  show(c0::(Z++[c0])).dropLast.Nodup;rw[<-aW,kE];exact c2.nodup)).1
 obtain⟨p,q,hp,hq,hn⟩:=Gf mn (Z++[c0]) l0 u0 c0 o7 runs (by
  obtain⟨w,hw,hwp⟩:=fj;refine⟨w,?_,hwp⟩;rw[vf] at hw;rcases bQ.mp hw with h |h
  ·exact .tail _ (dC _ (hZ▸bD _ h))
  ·exact(aO.mp h).elim (λe=>e▸.head _) λh=>.tail _ (dC _ (hZ▸dC _ h))) (mW _ _ _)
 obtain⟨P,hP⟩:∃P,Pl L (c0::(Z++[c0]))=P:=⟨_,rfl⟩;rw[hP] at r1 el ePz top mem nd hn;obtain⟨h,P2,eP⟩:∃h P2,P=h::P2:=by
  cases P with
  |nil=>exact Ψ rfl ePz
  |cons h P2=>exact⟨h,P2,rfl⟩
 obtain⟨P3,eP3⟩:∃P3,P=P3++[l0]:=by
  rcases fF P with h | ⟨P3,x,h⟩
  ·exact Ψ h ePz
  ·have e:P=P3++[x]:=(by simpa using h);rw[e,mW] at el;exact⟨P3,by rw[e,el]⟩
 have hn:=Lx eP eP3 hn;obtain⟨memp,memq⟩:=Uv eP hn;have ne1:q≠p:=tO c fu hp hq;have n0:∀z:H3,f_ L z=0->aq c0≠z:=λz hz e=>by rw[<-e,nJ] at hz;lia
 refine⟨P,?_,⟨nd,mem,λa b dq=>Ka l0 P r1 a b (Qw eP eP3 dq),?_,p,q,hp,hq,hn⟩,λf d e hf=>?_⟩
 ·-- turned about
  rw[<-hP,vf,hZ];cases X with
  |nil=>exact⟨Pl L (c0::(Y++[c0])),[],δ,δ⟩
  |cons x X=>
   have e1:(x::X++c0::Y)++(x::X++c0::Y).take 1=(x::X)++c0::(Y++[x]):=δ;have e2:c0::(Y++x::X++[c0])=(c0::Y)++x::(X++[c0]):=δ;rw[e1,e2,XY L (x::X) c0 (Y++[x]),XY L (c0::Y) x (X++[c0])];exact⟨_,_,rfl,δ⟩
 ·exact len_sub [aq c0,p,q] P (fS.mpr ⟨λh=>(aO.mp h).elim (n0 p hp.pm.2) λh=>n0 q hq.pm.2 (cJ.mp h),fS.mpr ⟨λh=>ne1 (cJ.mp h).symm,nR _ q⟩⟩) λx hx=>(aO.mp hx).elim (λe=>e▸top) λhx=>(aO.mp hx).elim (λe=>e▸memp) λhx=>cJ.mp hx▸memq
 ·have ps:=Cq hf (Z++[c0]) l0 u0 c0 o7 runs;rw[hP,WD f eP3] at ps;have e1:dl d u0 c0 (Z++[c0])=d u0 c0:=by rw[eZ,gA];exact Jb d Z2 u0 c0 u0 c0
  rw[e1] at ps;have e2:fg (λa b=>d a b+e a b) c0 (Z++[c0])=hV (λa b=>d a b+e a b) cs:=by
   show hV (λa b=>d a b+e a b) (c0::Z)=_;rw[hZ,vf,At _ X (c0::Y)];rfl
  lia
end
section
open PySem PySem.Spec PyProof.Rows L2
inductive D where
 |non |bl (b:Bool) |int (i:Int) |str (x:Str) |tup (xs:List D) |lst (xs:List D) |dct (ks:List Int) (xs:List D) |dtt (ks:List (List Int)) (xs:List D)
def qz(K:aI)(H:Hp)(a:Addr)(vs:ω V):Prop:=
 (∃o,H a=ψ (.frz o (.lst vs))) \/
  ∃(o:Obj)(its:Array aF)(n:Nat),K.lookup a=ψ o/\o.cls = .type "list"/\o.dict=ξ/\o.data = .seq its n/\its.size<=sizeLine/\au vs its.toList
theorem qz.sq{K:aI}{H:Hp}{a:Addr}{vs:ω V}:qz K H a vs->iu K H a vs
 | .inl ⟨o,h⟩=>.inl (.inr ⟨o,h⟩)
 | .inr h=>.inr h
def S7(col:Nat):Str:=if col=28 then "rising.<locals>.<lambda>" else if col=59 then "framed_rising.<locals>.<lambda>" else "laid_triangles.<locals>.<lambda>"
abbrev G0(c:Addr)(q:Str):HO:=.ext λh=>∃oc vs t,h.get? c=ψ oc/\oc.data = .fields vs/\vs[1]?=ψ (.str q t)
structure k_(H:Hp)(ps:Array aF):Prop where
 ok:TriplesOk ps.toList
 code:∀pos cv,codeAmong pos ps.toList=ψ cv->∃c,cv = .ref c/\H c=ψ (G0 c (S7 pos.col))
def md(H H':Hp):Prop:=∀b ps,H b=ψ (.tbl ps)->∃more,H' b=ψ (.tbl (ps++more))/\(k_ H ps->k_ H' (ps++more))
def md.trans(a:md H H1)(b:md H1 H2):md H H2:=λc ps h=>by
 obtain⟨m1,e1,f1⟩:=a c ps h;obtain⟨m2,e2,f2⟩:=b c _ e1;exact⟨m1++m2,by rw[e2,vI],λx=>by rw[<-vI];exact f2 (f1 x)⟩
def k_.mono(x:k_ H ps)(k:∀b a,H b=ψ (.ext a)->H' b=ψ (.ext a)):k_ H' ps:=⟨x.ok,λpos cv e=>let ⟨c,e1,e2⟩:=x.code pos cv e;⟨c,e1,k _ _ e2⟩⟩
def md.of(k:∀b a,H b=ψ (.ext a)->H' b=ψ (.ext a))(h:∀b ps,H b=ψ (.tbl ps)->H' b=ψ (.tbl ps)):md H H':=λb ps e=>⟨#[],by rw[GN];exact h b ps e,λx=>by rw[GN];exact x.mono k⟩
def NT:HO->Prop
 | .tbl _=>False
 |_=>True
structure ao(H H':Hp):Prop where
 tups:∀b xs,H b=ψ (.tup xs)->H' b=ψ (.tup xs)
 frzs:∀b o u,H b=ψ (.frz o u)->H' b=ψ (.frz o u)
 exts:∀b φ,H b=ψ (.ext φ)->H' b=ψ (.ext φ)
 xds:∀b fs,H b=ψ (.xd fs)->H' b=ψ (.xd fs)
 tbls:md H H'
def ao.refl(H:Hp):ao H H:=⟨λ_ _ h=>h,λ_ _ _ h=>h,λ_ _ h=>h,λ_ _ h=>h,.of (λ_ _ h=>h) λ_ _ h=>h⟩
def ao.trans(a:ao H H1)(b:ao H1 H2):ao H H2:=
 ⟨λc xs h=>b.tups c xs (a.tups c xs h),λc o u h=>b.frzs c o u (a.frzs c o u h),λc d h=>b.exts c d (a.exts c d h),λc fs h=>b.xds c fs (a.xds c fs h),a.tbls.trans b.tbls⟩
structure ag(H H':Hp):Prop where
 get:∀b o,H b=ψ o->NT o->H' b=ψ o
 tbls:md H H'
def ag.fn(f:∀b o,H b=ψ o->H' b=ψ o):ag H H':=⟨λb o h _=>f b o h,.of (λb a h=>f b _ h) λb ps h=>f b _ h⟩
def ag.refl(H:Hp):ag H H:=.fn λ_ _ h=>h
def ag.trans(a:ag H H1)(b:ag H1 H2):ag H H2:=⟨λc o h n=>b.get c o (a.get c o h n) n,a.tbls.trans b.tbls⟩
theorem ag.free(e:ag H H')(h:H' l=CH):H l=CH:=by
 cases q:H l with
 |none=>rfl
 |some o=>
  cases o with
  |tbl ps=>obtain⟨m,e1,_⟩:=e.tbls l ps q;rw[e1] at h;cases h
  |_=>rw[e.get l _ q trivial] at h;cases h
def ao.of(s:ag H H'):ao H H':=⟨λb xs h=>s.get b _ h trivial,λb o u h=>s.get b _ h trivial,λb a h=>s.get b _ h trivial,λb fs h=>s.get b _ h trivial,s.tbls⟩
def ao.ofF(f:∀b o,H b=ψ o->H' b=ψ o):ao H H':=.of (.fn f)
def YX:ω Str:=["rising","framed_rising","laid_triangles"]
def ij(K:aI)(H:Hp):Prop:=∀x c P,x∈YX->UK K x=ψ (c,P)->∃ps,H P=ψ (.tbl ps)/\k_ H ps
def ij.tabK{K:aI}{H H':Hp}(t:ij K H)(k:md H H'):ij K H':=λx c P m e=>by
 obtain⟨ps,h1,h2⟩:=t x c P m e;obtain⟨more,h3,h4⟩:=k P ps h1;exact⟨_,h3,h4 h2⟩
def ao.chg1(h:H p=ψ u)(n:(∃xs,u = .lst xs)\/(∃kvs,u = .dK kvs)\/∃kvs,u = .dT kvs):ao H (ck H p u'):=by
 have ne:∀b o,H b=ψ o->(∀xs,o≠.lst xs)->(∀kvs,o≠.dK kvs)->(∀kvs,o≠.dT kvs)->ck H p u' b=ψ o:=λb o q n1 n2 n3=>by
  rw[dX]
  ·exact q
  ·rintro rfl;rw[h] at q;cases q;rcases n with⟨xs,rfl⟩ | ⟨kvs,rfl⟩ | ⟨kvs,rfl⟩
   ·exact n1 _ rfl
   ·exact n2 _ rfl
   ·exact n3 _ rfl
 exact⟨λb _ q=>ne b _ q (λ_ z=>by cases z) (λ_ z=>by cases z) (λ_ z=>by cases z),λb _ _ q=>ne b _ q (λ_ z=>by cases z) (λ_ z=>by cases z) (λ_ z=>by cases z),λb _ q=>ne b _ q (λ_ z=>by cases z) (λ_ z=>by cases z) (λ_ z=>by cases z),λb _ q=>ne b _ q (λ_ z=>by cases z) (λ_ z=>by cases z) (λ_ z=>by cases z),
  .of (λb _ q=>ne b _ q (λ_ z=>by cases z) (λ_ z=>by cases z) (λ_ z=>by cases z)) λb _ q=>ne b _ q (λ_ z=>by cases z) (λ_ z=>by cases z) (λ_ z=>by cases z)⟩
def CU(ks:ω Int)(vs:ω V):ω (f6×V):=lF (λk v=>(iG k,v)) ks vs
def HM(ks:ω (ω Int))(vs:ω V):ω (ω f6×V):=lF (λk v=>(k.map iG,v)) ks vs
mutual
inductive dk(K:aI)(H:Hp):D->V->Prop
 |non:dk K H .non .non
 |bl (b:Bool):dk K H (.bl b) (.bl b)
 |int (i:Int):dk K H (.int i) (.int i)
 |str (x:Str):dk K H (.str x) (.str x)
 |tup {a:Addr} {vs:List V} {ds:List D} (h:H a=ψ (.tup vs)) (r:ak K H ds vs):dk K H (.tup ds) (.ref a)
 |lst {a:Addr} {vs:List V} {ds:List D} (h:qz K H a vs) (r:ak K H ds vs):dk K H (.lst ds) (.ref a)
 |dct {a:Addr} {vs:List V} {ds:List D} {ks:List Int} {o:Obj} (h:H a=ψ (.frz o (.dK (CU ks vs)))) (hl:ks.length=vs.length) (r:ak K H ds vs):dk K H (.dct ks ds) (.ref a)
 |dtt {a:Addr} {vs:List V} {ds:List D} {ks:List (List Int)} {o:Obj} (h:H a=ψ (.frz o (.dT (HM ks vs)))) (hl:ks.length=vs.length) (r:ak K H ds vs):dk K H (.dtt ks ds) (.ref a)
inductive ak(K:aI)(H:Hp):List D->List V->Prop
 |nil:ak K H [] []
 |cons {d:D} {v:V} {ds:List D} {vs:List V} (h:dk K H d v) (t:ak K H ds vs):ak K H (d::ds) (v::vs)
end
section
variable{K:aI}{H H':Hp}
theorem qz.keep{a:Addr}{vs:ω V}(k:ao H H')(h:qz K H a vs):qz K H' a vs:=by
 rcases h with⟨o,h⟩ |h
 ·exact .inl ⟨o,k.frzs _ _ _ h⟩
 ·exact .inr h
mutual
theorem dk.keep(k:ao H H'):∀{d:D}{v:V},dk K H d v->dk K H' d v
 |_,_,.non=>.non
 |_,_,.bl b=>.bl b
 |_,_,.int i=>.int i
 |_,_,.str x=>.str x
 |_,_,.tup h r=>.tup (k.tups _ _ h) (ak.keep k r)
 |_,_,.lst h r=>.lst (qz.keep k h) (ak.keep k r)
 |_,_,.dct h hl r=>.dct (k.frzs _ _ _ h) hl (ak.keep k r)
 |_,_,.dtt h hl r=>.dtt (k.frzs _ _ _ h) hl (ak.keep k r)
theorem ak.keep(k:ao H H'):∀{ds:ω D}{vs:ω V},ak K H ds vs->ak K H' ds vs
 |_,_,.nil=>.nil
 |_,_,.cons h t=>.cons (dk.keep k h) (ak.keep k t)
end
theorem ak.length:∀{ds:ω D}{vs:ω V},ak K H ds vs->ds.length=vs.length
 |_,_,.nil=>rfl
 |_,_,.cons _ t=>by simp[ak.length t]
theorem ak.get:∀{ds:ω D}{vs:ω V}{i:Nat}{d:D},ak K H ds vs->ds[i]?=ψ d->∃v,vs[i]?=ψ v/\dk K H d v
 |_,_,_,_,.nil,e=>by simp at e
 |_,_,0,_,.cons h _,e=>by simp at e;subst e;exact⟨_,rfl,h⟩
 |_,_,i+1,d,.cons _ t,e=>by
  obtain⟨v,h1,h2⟩:=ak.get (i:=i) (d:=d) t (by simpa using e);exact⟨v,by simpa using h1,h2⟩
theorem ak.append:∀{ds es:ω D}{vs us:ω V},ak K H ds vs->ak K H es us->ak K H (ds++es) (vs++us)
 |_,_,_,_,.nil,s=>s
 |_,_,_,_,.cons h t,s=>.cons h (ak.append t s)
theorem ak.take:∀{ds:ω D}{vs:ω V}(n:Nat),ak K H ds vs->ak K H (ds.take n) (vs.take n)
 |_,_,0,_=>.nil
 |_,_,_+1,.nil=>.nil
 |_,_,n+1,.cons r t=>.cons r (ak.take n t)
theorem ak.drop:∀{ds:ω D}{vs:ω V}(n:Nat),ak K H ds vs->ak K H (ds.drop n) (vs.drop n)
 |_,_,0,r=>r
 |_,_,_+1,.nil=>.nil
 |_,_,n+1,.cons _ t=>ak.drop n t
theorem ak.dropLast{ds:ω D}:∀{vs:ω V},ak K H ds vs->ak K H ds.dropLast vs.dropLast:=by
 induction ds with
 |nil=>intro vs r;cases r;exact .nil
 |cons d ds ih=>
  intro vs r;cases r with
  |cons r t=>
   cases t with
   |nil=>exact .nil
   |cons r2 t=>exact .cons r (ih (.cons r2 t))
theorem ak.reverse:∀{ds:ω D}{vs:ω V},ak K H ds vs->ak K H ds.reverse vs.reverse
 |_,_,.nil=>.nil
 |_,_,.cons r t=>by
  simp only[wQ];exact(ak.reverse t).append (.cons r .nil)
theorem dk.int_inv{i:Int}{v:V}(h:dk K H (.int i) v):v = .int i:=by cases h;rfl
theorem dk.bl_inv(h:dk K H (.bl b) v):v = .bl b:=by cases h;rfl
theorem ak.ints:∀{ns:ω Int},ak K H (ns.map D.int) (ns.map V.int)
 | []=>.nil
 |_::_=>.cons (.int _) ak.ints
theorem ak.ints_inv:∀{ns:ω Int}{vs:ω V},ak K H (ns.map D.int) vs->vs=ns.map V.int
 | [],_,h=>by cases h;rfl
 |n::ns,_,h=>by
  cases h with
  |cons h t=>rw[h.int_inv,ak.ints_inv t];rfl
end
def dm(K:aI)(H:Hp)(d:D)(v:V):Prop:=
 dk K H d v\/∃ds a vs,d = .lst ds/\v = .ref a/\H a=ψ (.lst vs)/\ak K H ds vs
def dm.same{K:aI}{H H':Hp}{d:D}{v:V}(s:ag H H')(h:dm K H d v):dm K H' d v:=by
 rcases h with h | ⟨ds,a,vs,e1,e2,e3,r⟩
 ·exact .inl (h.keep (.of s))
 ·exact .inr ⟨ds,a,vs,e1,e2,s.get _ _ e3 trivial,r.keep (.of s)⟩
def dm.lst{K:aI}{H:Hp}{ds:ω D}{v:V}(h:dm K H (.lst ds) v):∃a vs,v = .ref a/\iu K H a vs/\ak K H ds vs:=by
 rcases h with h | ⟨ds',a,vs,e1,e2,e3,r⟩
 ·cases h with
  |lst h r=>exact⟨_,_,rfl,h.sq,r⟩
 ·cases e1;exact⟨a,vs,e2,iu.of e3,r⟩
def dm.tup{K:aI}{H:Hp}{ds:ω D}{v:V}(h:dm K H (.tup ds) v):∃a vs,v = .ref a/\H a=ψ (.tup vs)/\ak K H ds vs:=by
 rcases h with h | ⟨ds',a,vs,e1,e2,e3,r⟩
 ·cases h with
  |tup h r=>exact⟨_,_,rfl,h,r⟩
 ·cases e1
inductive S where
 |d (x:D) |own (xs:List D) |dcl (kvs:List (Int×List D)) |box (t:Bool) (jl:List (List D)) |exc (C:Addr) (y:Str) (c:Int) |dt (ks:List (List Int)) (xs:List D) |raw (v:V) |mem (b:Bool) (x:D) (R:aI->Hp->Hp->V->Prop)
def S.val:S->D
 | .d x=>x
 | .own xs=>.lst xs
 | .dcl _=>.non
 | .box _ _=>.non
 | .exc _ _ _=>.non
 | .dt _ _=>.non
 | .raw _=>.non
 | .mem _ x _=>x
abbrev En:=ω (Option S)
inductive jd(K:aI)(H₀ H:Hp):List (Int×List D)->List (f6×V)->List Addr->Prop
 |nil:jd K H₀ H [] [] []
 |cons {k:Int} {b:Addr} {vs:List V} {ds:List D} {kvs:List (Int×List D)} {cg:List (f6×V)} {as:List Addr} (h:H b=ψ (.lst vs)) (h0:H₀ b=ξ) (r:ak K H ds vs) (n:b∉as) (t:jd K H₀ H kvs cg as):
   jd K H₀ H ((k,ds)::kvs) ((iG k,.ref b)::cg) (b::as)
abbrev Tb(C e dx:Addr):HO:=.ext λh=>∃oe vs,h.get? e=ψ oe/\oe.cls = .ref C/\oe.data = .fields vs/\oe.dict=ψ dx
def jq(K:aI)(H₀ H:Hp):S->V->Prop
 | .exc C y c,v=>∃e dx,v = .ref e/\H e=ψ (Tb C e dx)/\H dx=ψ (.xd [(y,.int c)])
 | .d x,v=>dk K H x v
 | .raw u,v=>v=u
 | .mem b x R,v=>(b=ζ->dk K H x v)/\∀H',ao H H'->R K H₀ H' v
 | .dt ks xs,v=>∃a vs,v = .ref a/\H a=ψ (.dT (HM ks vs))/\H₀ a=ξ/\ks.length=vs.length/\ak K H xs vs
 | .own xs,v=>∃a vs,v = .ref a/\H a=ψ (.lst vs)/\H₀ a=ξ/\ak K H xs vs
 | .dcl kvs,v=>∃a cg as,v = .ref a/\H a=ψ (.dK cg)/\H₀ a=ξ/\jd K H₀ H kvs cg as
 | .box χ jl,v=>∃a cg as,v = .ref a/\H a=ψ (.lst (as.map V.ref))/\H₀ a=ξ/\a∉as/\jd K H₀ H (jl.map λx=>(0,x)) cg as
 | .box ζ jl,v=>∃a cg as,v = .ref a/\H a=ψ (.tup (as.map V.ref))/\jd K H₀ H (jl.map λx=>(0,x)) cg as
def Ow(H:Hp):S->V->Addr->Prop
 | .exc _ _ _,_,_=>False
 | .raw _,_,_=>False
 | .mem _ _ _,_,_=>False
 | .d _,_,_=>False
 | .own _,v,a=>v = .ref a
 | .dt _ _,v,a=>v = .ref a
 | .dcl _,v,a=>∃p cg,v = .ref p/\H p=ψ (.dK cg)/\(a=p\/∃k,(k,V.ref a)∈cg)
 | .box χ _,v,a=>∃p vs,v = .ref p/\H p=ψ (.lst vs)/\(a=p\/V.ref a∈vs)
 | .box ζ _,v,a=>∃p vs,v = .ref p/\H p=ψ (.tup vs)/\V.ref a∈vs
structure bi(X:Cx)(ρ:En)(σ:St)(H:Hp):Prop where
 len:ρ.length=σ.length
 same:ag X.H₀ H
 rel:∀(i:Nat)(x:S),ρ[i]?=ψ (ψ x)->∃v,σ[i]?=ψ (ψ v)/\jq X.K X.H₀ H x v
 sep:∀(i j:Nat)(x y:S)(v u:V)(a:Addr),ρ[i]?=ψ (ψ x)->ρ[j]?=ψ (ψ y)->σ[i]?=ψ (ψ v)->σ[j]?=ψ (ψ u)->Ow H x v a->Ow H y u a->i=j
 t0:ij X.K X.H₀
section
variable{K:aI}{H₀ H H':Hp}
theorem jd.keep{kvs:ω (Int×ω D)}{cg:ω (f6×V)}{as:ω Addr}(k:ao H H')(t:jd K H₀ H kvs cg as)(w:∀a∈as,∀o,H a=ψ o->H' a=ψ o):jd K H₀ H' kvs cg as:=by
 induction t with
 |nil=>exact .nil
 |cons h h0 r n t ih=>exact .cons (w _ (.head _) _ h) h0 (r.keep k) n (ih λa m=>w a (.tail _ m))
theorem jd.mem{kvs:ω (Int×ω D)}{cg:ω (f6×V)}{as:ω Addr}{a:Addr}(t:jd K H₀ H kvs cg as):a∈as↔∃k,(k,V.ref a)∈cg:=by
 induction t with
 |nil=>simp
 |cons h h0 r n t ih=>
  rw[aO,ih];constructor
  ·rintro (rfl | ⟨k,e⟩)
   ·exact⟨_,.head _⟩
   ·exact⟨k,.tail _ e⟩
  ·rintro⟨k,e⟩;rcases aO.mp e with e |e
   ·cases e;exact .inl rfl
   ·exact .inr ⟨k,e⟩
theorem jd.at{kvs:ω (Int×ω D)}{cg:ω (f6×V)}{as:ω Addr}{a:Addr}(t:jd K H₀ H kvs cg as)(m:a∈as):H₀ a=ξ/\∃vs,H a=ψ (.lst vs):=by
 induction t with
 |nil=>cases m
 |cons h h0 r n t ih=>
  rcases aO.mp m with rfl |m
  ·exact⟨h0,_,h⟩
  ·exact ih m
theorem jd.same{kvs:ω (Int×ω D)}{cg:ω (f6×V)}{as:ω Addr}(t:jd K H₀ H kvs cg as)(s:ag H H'):jd K H₀ H' kvs cg as:=
 t.keep (.of s) λc m o h=>by
  obtain⟨_,vs,q⟩:=t.at m;rw[h] at q;cases q;exact s.get _ _ h trivial
theorem HN:∀{ks:ω Int}{vs:ω V},ks.length=vs.length->(CU ks vs).map (·.2)=vs
 | [],[],_=>rfl
 | [],_::_,h=>by cases h
 |_::_,[],h=>by cases h
 |k::ks,v::vs,h=>by
  show v::(CU ks vs).map (·.2)=v::vs;rw[HN (by simpa using h)]
theorem jd.refs{kvs:ω (Int×ω D)}{cg:ω (f6×V)}{as:ω Addr}(t:jd K H₀ H kvs cg as):cg.map (·.2)=as.map V.ref:=by
 induction t with
 |nil=>rfl
 |cons h h0 r n t ih=>rw[aR,aR,ih]
theorem Ow.at{x:S}{v:V}{a:Addr}(r:jq K H₀ H x v)(w:Ow H x v a):H₀ a=ξ/\((∃vs,H a=ψ (.lst vs))\/(∃cg,H a=ψ (.dK cg))\/∃cg,H a=ψ (.dT cg)):=by
 cases x with
 |d x=>exact w.elim
 |exc C y c=>exact w.elim
 |raw u=>exact w.elim
 |mem b x R=>exact w.elim
 |own xs=>
  obtain⟨b,vs,rfl,h,h0,_⟩:=r;cases w;exact⟨h0,.inl ⟨vs,h⟩⟩
 |dt ks xs=>
  obtain⟨b,vs,rfl,h,h0,_⟩:=r;cases w;exact⟨h0,.inr (.inr ⟨_,h⟩)⟩
 |dcl kvs=>
  obtain⟨b,cg,as,rfl,h,h0,t⟩:=r;obtain⟨p,C_,e,h',m⟩:=w;cases e;rw[h] at h';cases h';rcases m with rfl |m
  ·exact⟨h0,.inr (.inl ⟨cg,h⟩)⟩
  ·obtain⟨g0,g1⟩:=t.at (t.mem.mpr m);exact⟨g0,.inl g1⟩
 |box t jl=>
  cases t with
  |false=>
   obtain⟨b,cg,as,rfl,h,h0,_,t⟩:=r;obtain⟨p,vs,e,h',m⟩:=w;cases e;rw[h] at h';cases h';rcases m with rfl |m
   ·exact⟨h0,.inl ⟨_,h⟩⟩
   ·obtain⟨c,hc,e⟩:=bG.mp m;cases e;obtain⟨g0,g1⟩:=t.at hc;exact⟨g0,.inl g1⟩
  |true=>
   obtain⟨b,cg,as,rfl,h,t⟩:=r;obtain⟨p,vs,e,h',m⟩:=w;cases e;rw[h] at h';cases h';obtain⟨c,hc,e⟩:=bG.mp m;cases e;obtain⟨g0,g1⟩:=t.at hc;exact⟨g0,.inl g1⟩
theorem jq.move{x:S}{v:V}(k:ao H H')(r:jq K H₀ H x v)(w:∀a,Ow H x v a->∀o,H a=ψ o->H' a=ψ o):jq K H₀ H' x v/\∀a,Ow H' x v a->Ow H x v a:=by
 cases x with
 |d x=>exact⟨dk.keep k r,λa e=>e⟩
 |raw u=>exact⟨r,λa e=>e⟩
 |mem b x R=>exact⟨⟨λe=>(r.1 e).keep k,λH2 k2=>r.2 H2 (k.trans k2)⟩,λa e=>e⟩
 |exc C y c=>
  obtain⟨e,dx,rfl,h1,h2⟩:=r;exact⟨⟨e,dx,rfl,k.exts _ _ h1,k.xds _ _ h2⟩,λa e=>e⟩
 |own xs=>
  obtain⟨b,vs,rfl,h,h0,rr⟩:=r;exact⟨⟨b,vs,rfl,w b rfl _ h,h0,rr.keep k⟩,λa e=>e⟩
 |dt ks xs=>
  obtain⟨b,vs,rfl,h,h0,hl,rr⟩:=r;exact⟨⟨b,vs,rfl,w b rfl _ h,h0,hl,rr.keep k⟩,λa e=>e⟩
 |dcl kvs=>
  obtain⟨b,cg,as,rfl,h,h0,t⟩:=r;have hb:=w b ⟨b,cg,rfl,h,.inl rfl⟩ _ h;refine⟨⟨b,cg,as,rfl,hb,h0,t.keep k λa m=>w a ⟨b,cg,rfl,h,.inr (t.mem.mp m)⟩⟩,λa e=>?_⟩;obtain⟨p,C_,e,h',m⟩:=e;cases e;rw[hb] at h';cases h';exact⟨b,cg,rfl,h,m⟩
 |box t jl=>
  cases t with
  |false=>
   obtain⟨b,cg,as,rfl,h,h0,nb,t⟩:=r;have hb:=w b ⟨b,_,rfl,h,.inl rfl⟩ _ h;refine⟨⟨b,cg,as,rfl,hb,h0,nb,t.keep k λa m=>w a ⟨b,_,rfl,h,.inr (cT m)⟩⟩,λa e=>?_⟩;obtain⟨p,vs,e,h',m⟩:=e;cases e;rw[hb] at h';cases h';exact⟨b,_,rfl,h,m⟩
  |true=>
   obtain⟨b,cg,as,rfl,h,t⟩:=r;have hb:=k.tups b _ h;refine⟨⟨b,cg,as,rfl,hb,t.keep k λa m=>w a ⟨b,_,rfl,h,cT m⟩⟩,λa e=>?_⟩;obtain⟨p,vs,e,h',m⟩:=e;cases e;rw[hb] at h';cases h';exact⟨b,_,rfl,h,m⟩
theorem ag.own{x:S}{v:V}{a:Addr}{o:HO}(s:ag H H')(r:jq K H₀ H x v)(w:Ow H x v a)(h:H a=ψ o):H' a=ψ o:=by
 obtain⟨_,⟨_,q⟩ | ⟨_,q⟩ | ⟨_,q⟩⟩:=Ow.at r w <;> rw[h] at q <;> cases q <;> exact s.get _ _ h trivial
theorem jq.same{x:S}{v:V}(s:ag H H')(h:jq K H₀ H x v):jq K H₀ H' x v:=(h.move (.of s) λa w o e=>s.own h w e).1
end
def bi.tabs(st:bi X a Z H):ij X.K H:=st.t0.tabK st.same.tbls
def bi.ext(st:bi X b Z H)(s:ag H H'):bi X b Z H':=by
 refine⟨st.len,st.same.trans s,λi x e=>let ⟨v,h1,h2⟩:=st.rel i x e;⟨v,h1,h2.same s⟩,λi j x y v u a e1 e2 e3 e4 o1 o2=>?_,st.t0⟩;obtain⟨v',h1,h2⟩:=st.rel i x e1;obtain⟨u',g1,g2⟩:=st.rel j y e2;rw[h1] at e3;cases e3;rw[g1] at e4;cases e4;exact st.sep i j x y _ _ a e1 e2 h1 g1 ((h2.move (.of s) λa w o e=>s.own h2 w e).2 a o1) ((g2.move (.of s) λa w o e=>s.own g2 w e).2 a o2)
def PK{α:Type}{xs:ω (Option α)}{x y:α}(e:(xs.set i (ψ x))[j]?=ψ (ψ y)):(j=i/\y=x/\i<xs.length)\/(i≠j/\xs[j]?=ψ (ψ y)):=by
 by_cases hj:i=j
 ·subst hj;by_cases h:i<xs.length
  ·rw[gT h] at e;cases e;exact .inl ⟨rfl,rfl,h⟩
  ·rw[List.set_eq_of_length_le ν,iX ν] at e;cases e
 ·rw[iO hj] at e;exact .inr ⟨hj,e⟩
def bi.chg(st:bi X c Z H){W:Addr->Prop}(kp:ao H H')(h0:ag X.H₀ H')(h1:∀b o,H b=ψ o->NT o->¬W b->H' b=ψ o)(h2:jq X.K X.H₀ H' x' v')
  (h3:∀a,Ow H' x' v' a->W a\/H a=ξ) (h4:∀(j:Nat)(y:S)(u:V)(a:Addr),j≠i->c[j]?=ψ (ψ y)->Z[j]?=ψ (ψ u)->Ow H y u a->¬W a):bi X (c.set i (ψ x')) (Z.set i (ψ v')) H':=by
 have old:∀(j:Nat)(y:S),j≠i->c[j]?=ψ (ψ y)->∃u,Z[j]?=ψ (ψ u)/\jq X.K X.H₀ H y u/\jq X.K X.H₀ H' y u/\∀a,Ow H' y u a->Ow H y u a:=λj y hj e=>by
  obtain⟨u,g1,g2⟩:=st.rel j y e;obtain⟨g3,g4⟩:=g2.move kp λa w o e'=>by
   have nw:=h4 j y u a hj e g1 w;obtain⟨_,⟨_,q⟩ | ⟨_,q⟩ | ⟨_,q⟩⟩:=Ow.at g2 w <;> rw[e'] at q <;> cases q <;> exact h1 a _ e' trivial nw
  exact⟨u,g1,g2,g3,g4⟩
 refine⟨by simp[st.len],h0,λj y e=>?_,λj k y z v u a e1 e2 e3 e4 o1 o2=>?_,st.t0⟩
 ·rcases PK e with⟨rfl,rfl,hl⟩ | ⟨hj,e⟩
  ·exact⟨v',by rw[gT (by rw[<-st.len];exact hl)],h2⟩
  ·obtain⟨u,g1,_,g3,_⟩:=old j y (Ne.symm hj) e;exact⟨u,by rw[iO hj];exact g1,g3⟩
 ·have cross:∀(j:Nat)(y:S)(u:V),i≠j->c[j]?=ψ (ψ y)->Z[j]?=ψ (ψ u)->Ow H' y u a->Ow H' x' v' a->False:=λj y u hj e es o1 o2=>by
   obtain⟨u',g1,g2,g3,g4⟩:=old j y (Ne.symm hj) e;rw[g1] at es;cases es;rcases h3 a o2 with w |n
   ·exact h4 j y _ a (Ne.symm hj) e g1 (g4 a o1) w
   ·obtain⟨_,⟨_,q⟩ | ⟨_,q⟩ | ⟨_,q⟩⟩:=Ow.at g2 (g4 a o1) <;> rw[n] at q <;> cases q
  rcases PK e1 with⟨rfl,rfl,hl⟩ | ⟨hj,xz⟩
  ·rcases PK e2 with⟨rfl,rfl,_⟩ | ⟨hk,qt⟩
   ·rfl
   ·rw[gT (by rw[<-st.len];exact hl)] at e3;cases e3;rw[iO hk] at e4;exact(cross k z u hk qt e4 o2 o1).elim
  ·rw[iO hj] at e3;rcases PK e2 with⟨rfl,rfl,hl⟩ | ⟨hk,qt⟩
   ·rw[gT (by rw[<-st.len];exact hl)] at e4;cases e4;exact(cross j y v hj xz e3 o1 o2).elim
   ·rw[iO hk] at e4;obtain⟨v',g1,g2,g3,g4⟩:=old j y (Ne.symm hj) xz;obtain⟨u',f1,f2,f3,f4⟩:=old k z (Ne.symm hk) qt;rw[g1] at e3;cases e3;rw[f1] at e4;cases e4;exact st.sep j k y z _ _ a xz qt g1 f1 (g4 a o1) (f4 a o2)
def bi.put(st:bi X c Z H)(s:ag H H')(h2:jq X.K X.H₀ H' x' v')(h3:∀a,Ow H' x' v' a->H a=ξ):bi X (c.set i (ψ x')) (Z.set i (ψ v')) H':=
 st.chg (W:=λ_=>False) (.of s) (st.same.trans s) (λb o h n _=>s.get b o h n) h2 (λa o=>.inr (h3 a o)) λ_ _ _ _ _ _ _ _ z=>z
def bi.updW(st:bi X c Z H)(e:c[i]?=ψ (ψ x))(es:Z[i]?=ψ (ψ v))(h1:∀b o,H b=ψ o->¬Ow H x v b->H' b=ψ o)(h2:jq X.K X.H₀ H' x' v')
  (h3:∀a,Ow H' x' v' a->Ow H x v a\/H a=ξ):bi X (c.set i (ψ x')) (Z.set i (ψ v')) H'/\ao H H':=by
 obtain⟨v0,g1,g2⟩:=st.rel i x e;rw[g1] at es;cases es;have no:∀b o,H b=ψ o->(∀vs,o≠.lst vs)->(∀cg,o≠.dK cg)->(∀cg,o≠.dT cg)->¬Ow H x v b:=λb o h n1 n2 n3 w=>by
  obtain⟨_,⟨_,q⟩ | ⟨_,q⟩ | ⟨_,q⟩⟩:=Ow.at g2 w <;> rw[h] at q <;> cases q
  ·exact n1 _ rfl
  ·exact n2 _ rfl
  ·exact n3 _ rfl
 have ne:∀b o,H b=ψ o->(∀vs,o≠.lst vs)->(∀cg,o≠.dK cg)->(∀cg,o≠.dT cg)->H' b=ψ o:=λb o h n1 n2 n3=>h1 b o h (no b o h n1 n2 n3);have kp:ao H H':=⟨λb xs h=>ne b _ h (λ_ z=>by cases z) (λ_ z=>by cases z) (λ_ z=>by cases z),λb o u h=>ne b _ h (λ_ z=>by cases z) (λ_ z=>by cases z) (λ_ z=>by cases z),λb d h=>ne b _ h (λ_ z=>by cases z) (λ_ z=>by cases z) (λ_ z=>by cases z),λb fs h=>ne b _ h (λ_ z=>by cases z) (λ_ z=>by cases z) (λ_ z=>by cases z),
  .of (λb d h=>ne b _ h (λ_ z=>by cases z) (λ_ z=>by cases z) (λ_ z=>by cases z)) λb d h=>ne b _ h (λ_ z=>by cases z) (λ_ z=>by cases z) (λ_ z=>by cases z)⟩
 refine⟨st.chg (W:=Ow H x v) kp ⟨λb o h n=>h1 b o (st.same.get b o h n) λw=>?_,st.same.tbls.trans kp.tbls⟩ (λb o h _ w=>h1 b o h w) h2 h3 λj y u a hj ej eu o1 o2=>hj (st.sep j i y x u v a ej e eu g1 o1 o2),kp⟩;rw[(Ow.at g2 w).1] at h;cases h
def bi.set_d(st:bi X a Z H)(r:dk X.K H d v):bi X (a.set i (ψ (.d d))) (Z.set i (ψ v)) H:=st.put (x':=.d d) (ag.refl H) r λ_ o=>o.elim
def nV{α:Type}{xs:ω α}{x:α}(e:xs[i]?=ψ x):xs.set i x=xs:=by
 apply wN ;intro j;by_cases hj:i=j
 ·subst hj;rw[gT (cB.mp e).1,e]
 ·rw[iO hj]
def bi.set_own(st:bi X c Z H)(hp:H p=ξ)(r:ak X.K H ds vs):
  bi X (c.set i (ψ (.own ds))) (Z.set i (ψ (.ref p))) (ck H p (.lst vs)):=by
 have sm:ag H (ck H p (.lst vs)):=.fn λb o h=>by rw[dX (fD h hp)];exact h
 exact st.put sm ⟨p,vs,rfl,gN,st.same.free hp,r.keep (.of sm)⟩ λa o=>by cases o;exact hp
def bi.upd_own(st:bi X c Z H)(e:c[i]?=ψ (ψ (.own xs)))(es:Z[i]?=ψ (ψ (.ref p)))(hp:H p=ψ (.lst us))(h0:X.H₀ p=ξ)
  (r:ak X.K H ds vs):bi X (c.set i (ψ (.own ds))) Z (ck H p (.lst vs))/\ao H (ck H p (.lst vs)):=by
 have kp:ao H (ck H p (.lst vs)):=ao.chg1 hp (.inl ⟨_,rfl⟩);have:=st.updW (x':=.own ds) (v':=.ref p) e es (H':=ck H p (.lst vs)) (λb o h w=>by rw[dX (by rintro rfl;exact w rfl)];exact h) ⟨p,vs,rfl,gN,h0,r.keep kp⟩ λa o=>.inl o;rw[nV es] at this;exact this
section
variable{σ:St}{s:aH}
theorem Inv.freezeG(I:Inv X Γ σ H s)(h:H a=ψ x)(ho:s.heap.get? a=ψ o)(n1:∀ys,HO.tup ys≠x)(n2:∀o w,HO.frz o w≠x)(n3:∀ps,HO.tbl ps≠x)(n4:∀c,HO.own c≠x):Inv X Γ σ (ck H a (.frz o x)) s:=by
 have ok:=I.hok a _ h;have o9:∀b u,H b=ψ u->u≠x->b≠a:=λb u q d z=>by subst z;rw[h] at q;cases q;exact d rfl
 have st:∀{b:Addr}{u:HO},ca X.prog X.w H s.heap b u->ca X.prog X.w (ck H a (.frz o x)) s.heap b u:=λ{b u} q=>
  q.stay (λc v _ w=>w) (λc w=>by rw[dX (o9 c _ w (n4 _))];exact w) λc ys w=>by rw[dX (o9 c _ w (n1 _))];exact w
 refine I.un (t':=s.toks) (h':=s.heap) ⟨λb o q _ _ _=>q,λb o q _ _ _=>⟨o.slots,q⟩,λb o q n _=>?_,λb o q _=>⟨o,q⟩,λb ys q=>?_,λb o u q=>?_,λb ps q=>⟨#[],?_⟩⟩ λb u q=>?_
 ·rw[dX (λz=>by subst z;rw[h] at n;cases n)];exact n
 ·rw[dX (o9 b _ q (n1 _))];exact q
 ·rw[dX (o9 b _ q (n2 _ _))];exact q
 ·rw[dX (o9 b _ q (n3 _)),q];simp
 ·by_cases hb:b=a
  ·subst hb;rw[gN] at q;cases q;exact⟨ho,st ok⟩
  ·rw[dX hb] at q;exact st (I.hok b u q)
theorem Inv.freeze(I:Inv X Γ σ H s)(h:H a=ψ (.lst xs)):∃o,Inv X Γ σ (ck H a (.frz o (.lst xs))) s:=by
 obtain⟨z,its,n,r,e⟩:=I.hok a _ h;exact⟨_,Inv.freezeG I h e (λ_ z=>by cases z) (λ_ _ z=>by cases z) (λ_ z=>by cases z) (λ_ z=>by cases z)⟩
theorem Inv.freezeD(I:Inv X Γ σ H s)(h:H a=ψ (.dK kvs)):∃o,Inv X Γ σ (ck H a (.frz o (.dK kvs))) s:=by
 obtain⟨_,_,vs,r,ob,es,ep,e,_⟩:=I.hok a _ h;exact⟨ob,Inv.freezeG I h e (λ_ z=>by cases z) (λ_ _ z=>by cases z) (λ_ z=>by cases z) (λ_ z=>by cases z)⟩
theorem Inv.freezeT(I:Inv X Γ σ H s)(h:H a=ψ (.dT kvs)):∃o,Inv X Γ σ (ck H a (.frz o (.dT kvs))) s:=by
 obtain⟨_,_,_,_,ob,_,_,e,_⟩:=I.hok a _ h;exact⟨ob,Inv.freezeG I h e (λ_ z=>by cases z) (λ_ _ z=>by cases z) (λ_ z=>by cases z) (λ_ z=>by cases z)⟩
theorem ag.upd_new(s:ag H H1)(n:H a=ξ)(m:∀d,H1 a≠ψ (.ext d)):ag H (ck H1 a o):=by
 refine⟨λb u h nt=>by rw[dX (fD h n)];exact s.get b u h nt,λb ps h=>?_⟩;obtain⟨more,e1,e2⟩:=s.tbls b ps h;refine⟨more,by rw[dX (fD h n)];exact e1,λx=>(e2 x).mono λc d q=>?_⟩;rw[dX (by rintro rfl;exact m _ q)];exact q
theorem uZ:∀(kvs:ω (Int×ω D)){cg:ω (f6×V)}{as:ω Addr}{H:Hp},Inv X Γ σ H s->jd X.K X.H₀ H kvs cg as ->
  ∃H' vs,Inv X Γ σ H' s/\cg=CU (kvs.map (·.1)) vs/\kvs.length=vs.length/\ak X.K H' (kvs.map λp=>.lst p.2) vs/\ao H H'/\∀b o,H b=ψ o->b∉as->H' b=ψ o
 | [],_,_,H,I,t=>by cases t;exact⟨H,[],I,rfl,rfl,.nil,ao.refl H,λb o h _=>h⟩
 | (k,ds)::kvs,_,_,H,I,t=>by
  cases t with
  | @cons _ b vs _ _ cg as h h0 r n t=>
   obtain⟨o,I1⟩:=Inv.freeze I h;have kp:ao H (ck H b (.frz o (.lst vs))):=ao.chg1 h (.inl ⟨_,rfl⟩);obtain⟨H',us,I2,e1,e2,e3,k2,e4⟩:=uZ kvs I1 (t.keep kp λa m o e=>by rw[dX (by rintro rfl;exact n m)];exact e);subst e1;refine⟨H',.ref b::us,I2,rfl,by simp[e2],.cons (.lst (.inl ⟨o,k2.frzs _ _ _ gN⟩) (r.keep (kp.trans k2))) e3,kp.trans k2,λc u q m=>?_⟩;rw[aO,not_or] at m;exact e4 c u (by rw[dX m.1];exact q) m.2
def S.fz:S->S
 | .own ds=>.d (.lst ds)
 | .dcl kvs=>.d (.dct (kvs.map (·.1)) (kvs.map λp=>.lst p.2))
 | .box χ jl=>.d (.lst (jl.map .lst))
 | .box ζ jl=>.d (.tup (jl.map .lst))
 | .d x=>.d x
 | .exc C y c=>.exc C y c
 | .raw u=>.raw u
 | .mem b x R=>.mem b x R
 | .dt ks xs=>.d (.dtt ks xs)
theorem bi.fz(so:bi X f σ H)(I:Inv X Γ σ H s)(e:f[i]?=ψ (ψ x)):∃H',Inv X Γ σ H' s/\bi X (f.set i (ψ x.fz)) σ H'/\ao H H':=by
 obtain⟨v,h1,h2⟩:=so.rel i _ e;cases x with
 |d x=>exact⟨H,I,by rw[show S.fz (.d x) = .d x from rfl,nV e];exact so,ao.refl H⟩
 |exc C y c=>exact⟨H,I,by rw[show S.fz (.exc C y c) = .exc C y c from rfl,nV e];exact so,ao.refl H⟩
 |raw u=>exact⟨H,I,by rw[show S.fz (.raw u) = .raw u from rfl,nV e];exact so,ao.refl H⟩
 |mem b x R=>exact⟨H,I,by rw[show S.fz (.mem b x R) = .mem b x R from rfl,nV e];exact so,ao.refl H⟩
 |own ds=>
  obtain⟨p,vs,ev,hp,h0,rr⟩:=id h2;subst ev;obtain⟨o,I2⟩:=Inv.freeze I hp;have kp:ao H (ck H p (.frz o (.lst vs))):=ao.chg1 hp (.inl ⟨_,rfl⟩);obtain⟨jv,k2⟩:=so.updW (x':=.d (.lst ds)) (v':=.ref p) e h1 (H':=ck H p (.frz o (.lst vs))) (λb o h w=>by rw[dX (by rintro rfl;exact w rfl)];exact h) (.lst (.inl ⟨o,gN⟩) (rr.keep kp)) λa o=>o.elim;rw[nV h1] at jv;exact⟨_,I2,jv,k2⟩
 |dt ks xs=>
  obtain⟨p,vs,ev,hp,h0,hl,rr⟩:=id h2;subst ev;obtain⟨o,I2⟩:=Inv.freezeT I hp;have kp:ao H (ck H p (.frz o (.dT (HM ks vs)))):=ao.chg1 hp (.inr (.inr ⟨_,rfl⟩));obtain⟨jv,k2⟩:=so.updW (x':=.d (.dtt ks xs)) (v':=.ref p) e h1 (H':=ck H p (.frz o (.dT (HM ks vs)))) (λb o h w=>by rw[dX (by rintro rfl;exact w rfl)];exact h) (.dtt gN hl (rr.keep kp)) λa o=>o.elim;rw[nV h1] at jv;exact⟨_,I2,jv,k2⟩
 |dcl kvs=>
  obtain⟨p,cg,as,ev,hp,h0,t⟩:=id h2;subst ev;obtain⟨H1,vs,I1,e1,e2,e3,k1,e4⟩:=uZ kvs I t;have np:p∉as:=λm=>by obtain⟨_,us,q⟩:=t.at m;rw[hp] at q;cases q
  have m5:=e4 p _ hp np;obtain⟨o,I2⟩:=Inv.freezeD I1 m5;have kp:ao H1 (ck H1 p (.frz o (.dK cg))):=ao.chg1 m5 (.inr (.inl ⟨_,rfl⟩));obtain⟨jv,k2⟩:=so.updW (x':=.d (.dct (kvs.map (·.1)) (kvs.map λp=>.lst p.2))) (v':=.ref p) e h1 (H':=ck H1 p (.frz o (.dK cg)))
   (λb o h w=>by
    rw[dX (by rintro rfl;exact w ⟨_,cg,rfl,hp,.inl rfl⟩)];exact e4 b o h λm=>w ⟨p,cg,rfl,hp,.inr (t.mem.mp m)⟩)
   (.dct (by rw[gN,e1]) (by simp[e2]) (e3.keep kp)) λa o=>o.elim
  rw[nV h1] at jv;exact⟨_,I2,jv,k2⟩
 |box t jl=>
  have emap:(jl.map λx=>((0:Int),x)).map (λp=>D.lst p.2)=jl.map D.lst:=by rw[dF];rfl
  cases t with
  |false=>
   obtain⟨p,cg,as,ev,hp,h0,np,t⟩:=id h2;subst ev;obtain⟨H1,vs,I1,e1,e2,e3,k1,e4⟩:=uZ _ I t;rw[emap] at e3;have ea:as.map V.ref=vs:=(by rw[<-t.refs,e1];exact HN (by rw[aY];simpa using e2));have m5:=e4 p _ hp np;obtain⟨o,I2⟩:=Inv.freeze I1 m5;have kp:ao H1 (ck H1 p (.frz o (.lst (as.map V.ref)))):=ao.chg1 m5 (.inl ⟨_,rfl⟩);obtain⟨jv,k2⟩:=so.updW (x':=.d (.lst (jl.map .lst))) (v':=.ref p) e h1 (H':=ck H1 p (.frz o (.lst (as.map V.ref))))
    (λb o h w=>by
     rw[dX (by rintro rfl;exact w ⟨_,_,rfl,hp,.inl rfl⟩)];exact e4 b o h λm=>w ⟨p,_,rfl,hp,.inr (cT m)⟩)
    (.lst (vs:=as.map V.ref) (.inl ⟨o,gN⟩) (by have z:=e3.keep kp;rw[<-ea] at z;exact z)) λa o=>o.elim
   rw[nV h1] at jv;exact⟨_,I2,jv,k2⟩
  |true=>
   obtain⟨p,cg,as,ev,hp,t⟩:=id h2;subst ev;obtain⟨H1,vs,I1,e1,e2,e3,k1,e4⟩:=uZ _ I t;rw[emap] at e3;have ea:as.map V.ref=vs:=(by rw[<-t.refs,e1];exact HN (by rw[aY];simpa using e2));obtain⟨jv,k2⟩:=so.updW (x':=.d (.tup (jl.map .lst))) (v':=.ref p) e h1 (H':=H1)
    (λb o h w=>e4 b o h λm=>w ⟨p,_,rfl,hp,cT m⟩)
    (.tup (vs:=as.map V.ref) (k1.tups _ _ hp) (by have z:=e3;rw[<-ea] at z;exact z)) λa o=>o.elim
   rw[nV h1] at jv;exact⟨_,I1,jv,k2⟩
end
structure Sz(n:Nat):Prop where
 ok:n<=sizeLine
abbrev RE:=En->(D->Prop)->Prop
abbrev RT:=En->(Bool->Prop)->Prop
abbrev RA:=En->(ω D->Prop)->Prop
structure j8 where
 nx:En->Prop
 rt:D->Prop
 bk:En->Prop:=λ_=>False
 ct:En->Prop:=λ_=>False
abbrev RS:=j8->En->Prop
abbrev RG:=D->En->(En->Prop)->Prop
def Qo(X:Cx)(t:RE):TE:=λZ H Q=>∃a P,bi X a Z H/\t a P/\∀d v H',P d->ag H H'->dk X.K H' d v->Q v H'
def Qn(X:Cx)(t:RE):TE:=λZ H Q=>∃a P,bi X a Z H/\t a P/\∀d v H',P d->ag H H'->dm X.K H' d v->Q v H'
def K9(X:Cx)(t:RA):TE:=λZ H Q=>∃a P,bi X a Z H/\t a P/\∀ds p vs H1,P ds->ag H H1->H1 p=ξ->ak X.K H1 ds vs->Q (.ref p) (ck H1 p (.lst vs))
def liftT(X:Cx)(t:RT):TT:=λZ H Q=>∃a P,bi X a Z H/\t a P/\∀b H',P b->ag H H'->Q b H'
def K6(X:Cx)(t:RA):TA:=λZ H Q=>∃a P,bi X a Z H/\t a P/\∀ds vs H',P ds->ag H H'->ak X.K H' ds vs->Q vs H'
def Xo(X:Cx)(t:RS):TS:=λDe Z H=>∃a E,bi X a Z H/\t E a/\(∀a' Z' H',E.nx a'->ao H H'->bi X a' Z' H'->De.nx Z' H')/\(∀d v H',E.rt d->ao H H'->ag X.H₀ H'->dk X.K H' d v->De.rt v H') /\
 (∀a' Z' H',E.bk a'->ao H H'->bi X a' Z' H'->De.bk Z' H')/\∀a' Z' H',E.ct a'->ao H H'->bi X a' Z' H'->De.ct Z' H'
def K7(X:Cx)(g:RG):TG:=λv Z H Q=>∃d a P,dk X.K H d v/\bi X a Z H/\g d a P/\∀a' Z' H',P a'->ao H H'->bi X a' Z' H'->Q Z' H'
def jY{α β:Type}{A B C:α->β->Prop}{R:Prop}(h:∃d P,A d P/\B d P/\C d P)(k:∀d P,A d P->B d P->C d P->R):R:=let ⟨d,P,a,b,c⟩:=h;k d P a b c
def YQ{α β γ:Type}{A B C E:γ->α->β->Prop}{R:Prop}(h:∃d f P,A d f P/\B d f P/\C d f P/\E d f P)(k:∀d f P,A d f P->B d f P->C d f P->E d f P->R):R:=let ⟨d,f,P,a,b,c,e⟩:=h;k d f P a b c e
def rH{α β:Type}{A B C E F G:α->β->Prop}{R:Prop}(h:∃d P,A d P/\B d P/\C d P/\E d P/\F d P/\G d P)(k:∀d P,A d P->B d P->C d P->E d P->F d P->G d P->R):R:=let ⟨d,P,a,b,c,e,f,g⟩:=h;k d P a b c e f g
def DE(X:Cx)(e:Expr)(t:RE):Prop:=PE X e (Qo X t)
def DB(X:Cx)(e:Expr)(t:RE):Prop:=PE X e (Qn X t)
def DO(X:Cx)(e:Expr)(t:RA):Prop:=PE X e (K9 X t)
def DT(X:Cx)(e:Expr)(t:RT):Prop:=PT X e (liftT X t)
def DW(X:Cx)(e:Expr)(t:RT):Prop:=PW X e (liftT X t)
def DA(X:Cx)(es:ω Expr)(t:RA):Prop:=PA X es (K6 X t)
def DS(X:Cx)(st:Stmt)(t:RS):Prop:=PS X st (Xo X t)
def qe(X:Cx)(sts:ω Stmt)(t:RS):Prop:=mh X sts (Xo X t)
def DG(X:Cx)(tg:Expr)(g:RG):Prop:=PG X tg (K7 X g)
def PE.mono(h:PE X e t)(m:∀Z H Q,t' Z H Q->t Z H Q):PE X e t':=λΓ s Z H Q I q=>h Γ s Z H Q I (m Z H Q q)
def PT.mono(h:PT X e t)(m:∀Z H Q,t' Z H Q->t Z H Q):PT X e t':=λΓ s Z H Q I q=>h Γ s Z H Q I (m Z H Q q)
def PW.mono(h:PW X e t)(m:∀Z H Q,t' Z H Q->t Z H Q):PW X e t':=λwh Γ s Z H Q I q=>h wh Γ s Z H Q I (m Z H Q q)
def PA.mono(h:PA X e t)(m:∀Z H Q,t' Z H Q->t Z H Q):PA X e t':=λpos Γ s Z H Q I q=>h pos Γ s Z H Q I (m Z H Q q)
def PS.mono(h:PS X e t)(m:∀D Z H,t' D Z H->t D Z H):PS X e t':=λΓ s Z H D I q=>h Γ s Z H D I (m D Z H q)
def mh.mono(h:mh X e t)(m:∀D Z H,t' D Z H->t D Z H):mh X e t':=λΓ s Z H D I q=>h Γ s Z H D I (m D Z H q)
def PG.mono(h:PG X e t)(m:∀v Z H Q,t' v Z H Q->t v Z H Q):PG X e t':=λΓ s Z H v u Q I r q=>h Γ s Z H v u Q I r (m v Z H Q q)
section
variable{X:Cx}{e a b c:Expr}{pos:Pos}
theorem DE.bor(h:DE X e t):DB X e t:=PE.mono h λZ H Q hh=>jY hh λf P st q k=>⟨f,P,st,q,λd v H' p s r=>k d v H' p s (.inl r)⟩
theorem DO.val(h:DO X e t):DE X e (λd Q=>t d λds=>Q (.lst ds)):=by
 intro Γ s Z H Q I bj;obtain⟨d,P,st,q,k⟩:=bj;refine dh (h Γ s Z H (λv H'=>∃ds p vs H1,v = .ref p/\H'=ck H1 p (.lst vs)/\P (.lst ds)/\ag H H1/\H1 p=ξ/\ak X.K H1 ds vs) I ⟨d,_,st,q,λds p vs H1 hp s1 hn r=>⟨ds,p,vs,H1,rfl,rfl,hp,s1,hn,r⟩⟩) λu s1 hh_1=>?_;obtain⟨v,H',I',rv,ds,p,vs,H1,rfl,rfl,hp,sm,hn,r⟩:=hh_1;obtain⟨o,I2⟩:=Inv.freeze I' (a:=p) (xs:=vs) gN;have uv:ag H1 (ck (ck H1 p (.lst vs)) p (.frz o (.lst vs))):=ag.fn λb u e=>by rw[dX (fD e hn),dX (fD e hn)];exact e
 exact⟨.ref p,_,I2,rv,k (.lst ds) (.ref p) _ hp (sm.trans uv) (.lst (.inl ⟨o,gN⟩) (r.keep (.of uv)))⟩
def bV(i:Nat):RE:=λf Q=>match f[i]? with
 |some (ψ (.d d))=>Q d
 |some (ψ (.mem ζ d _))=>Q d
 |_=>False
def aQ(i:Nat):RE:=λf Q=>match f[i]? with
 |some (ψ (.d d))=>Q d
 |some (ψ (.own xs))=>Q (.lst xs)
 |some (ψ (.mem ζ d _))=>Q d
 |_=>False
theorem dv(i:Nat){x:Str}(hN:X.N[i]?=ψ x:=by rfl)(hv:qq X.env.scope x:=by walk_at "vis")(hd:(x == ("__debug__":Str))=χ:=by decide)
  (j9:(x == ("__classdict__":Str))=χ:=by decide):DE X (.Name x pos) (bV i):=by
 refine PE.mono (pv i hN hv hd j9) λZ H Q hh=>jY hh λf P st q k=>?_;unfold bV at q;split at q
 ·rename_i d e;obtain⟨v,h1,h2⟩:=st.rel i _ e;exact⟨v,h1,k d v H q (ag.refl H) h2⟩
 ·rename_i d R e;obtain⟨v,h1,h2⟩:=st.rel i _ e;exact⟨v,h1,k d v H q (ag.refl H) (h2.1 rfl)⟩
 ·exact q.elim
theorem ah(i:Nat){x:Str}(hN:X.N[i]?=ψ x:=by rfl)(hv:qq X.env.scope x:=by walk_at "vis")(hd:(x == ("__debug__":Str))=χ:=by decide)
  (j9:(x == ("__classdict__":Str))=χ:=by decide):DB X (.Name x pos) (aQ i):=by
 refine PE.mono (pv i hN hv hd j9) λZ H Q hh=>jY hh λf P st q k=>?_;unfold aQ at q;split at q
 ·rename_i d e;obtain⟨v,h1,h2⟩:=st.rel i _ e;exact⟨v,h1,k _ v H q (ag.refl H) (.inl h2)⟩
 ·rename_i xs e;obtain⟨v,h1,h2⟩:=st.rel i _ e;obtain⟨a,vs,e1,e2,_,r⟩:=h2;exact⟨v,h1,k _ v H q (ag.refl H) (.inr ⟨xs,a,vs,rfl,e1,e2,r⟩)⟩
 ·rename_i d R e;obtain⟨v,h1,h2⟩:=st.rel i _ e;exact⟨v,h1,k _ v H q (ag.refl H) (.inl (h2.1 rfl))⟩
 ·exact q.elim
def rC(d:D):RE:=λ_ Q=>Q d
def gI:DE X (.Constant (.int i) j pos) (rC (.int i)):=PE.mono A7 λZ H Q hh=>jY hh λd P st q k=>k _ _ H q (ag.refl H) (.int i)
def mV:DE X (.Constant (.bool i) j pos) (rC (.bl i)):=PE.mono M2 λZ H Q hh=>jY hh λd P st q k=>k _ _ H q (ag.refl H) (.bl i)
def vY:DE X (.Constant .none j pos) (rC .non):=PE.mono A8 λZ H Q hh=>jY hh λd P st q k=>k _ _ H q (ag.refl H) .non
abbrev R22:=D->D->(D->Prop)->Prop
def Xn(X:Cx)(r:R22):R2:=λx y H Q=>∃d e P,dm X.K H d x/\dm X.K H e y/\r d e P/\∀z v H',P z->ag H H'->dk X.K H' z v->Q v H'
def j3(X:Cx)(f:aF->aF->Sem aF)(r:R22):Prop:=ke X f (Xn X r)
def r2(r:R22)(ta tb:RE):RE:=λd Q=>ta d λx=>tb d λy=>r x y Q
variable{ta tb tc:RE}
def Qm(h:Qo X (r2 r ta tb) Z H Q):O' (Xn X r) (Qn X ta) (Qn X tb) Z H Q:=by
 obtain⟨d,P,st,ht,hP⟩:=h;exact⟨d,_,st,ht,λx v H1 h1 s1 r1=>⟨d,_,st.ext s1,h1,λy u H2 h2 s2 r2=>⟨x,y,P,r1.same s2,r2,h2,λz w H' hz s3 r3=>hP z w H' hz ((s1.trans s2).trans s3) r3⟩⟩⟩
def dL(ho:j3 X (binaryOp op) r)(ha:DB X a ta)(hb:DB X b tb):DE X (.BinOp a op b pos) (r2 r ta tb):=PE.mono (M4 ho ha hb) λZ H Q h=>Qm h
def xP(ho:j3 X (compareOp op) r)(ha:DB X a ta)(hb:DB X b tb)(hm:behindInMarks op b=χ:=by exact Qs _):DE X (.Compare a [op] [b] pos) (r2 r ta tb):=PE.mono (Vg ho ha hb hm) λZ H Q h=>Qm h
def dZ(t:RE):RT:=λf Q=>t f λd=>match d with
 | .bl k=>Q k
 |_=>False
def gC(ho:j3 X (compareOp op) r)(ha:DB X a ta)(hb:DB X b tb)(hm:behindInMarks op b=χ:=by exact Qs _):DT X (.Compare a [op] [b] pos) (dZ (r2 r ta tb)):=by
 refine PT.mono (Vq ho ha hb hm) λZ H Q hh=>jY hh λf P st q k=>?_;refine Qm (Q:=λx H'=>∃k,x = .bl k/\Q k H') ⟨f,_,st,q,λd v H' hd s r=>?_⟩;cases d with
 |bl b=>exact⟨b,r.bl_inv,k b H' hd s⟩
 |_=>exact hd.elim
def lX(h:DE X e ta)(he:∀whole,isTrue e X.env whole=(do let v <-whole;standAt e.pos;holding [v] (truthy v)):=by intro _;rfl):DT X e (dZ ta):=by
 refine PT.mono (C6 h he) λZ H Q hh=>jY hh λf P st q k=>?_;refine⟨f,_,st,q,λd v H' hd s r=>?_⟩;cases d with
 |bl b=>exact⟨b,r.bl_inv,k b H' hd s⟩
 |_=>exact hd.elim
def OR(t u:RT):RT:=λd Q=>t d λc=>if c=ζ then u d Q else Q χ
def rOr(t u:RT):RT:=λd Q=>t d λc=>if c=ζ then Q ζ else u d Q
def tU(t:RT):RT:=λd Q=>t d λc=>Q (!c)
variable{tA tB:RT}{rest:ω Expr}
def YM(ha:DT X a tA):DW X (.BoolOp .And [a] pos) tA:=Vt ha
def uE(ha:DT X a tA):DW X (.BoolOp .Or [a] pos) tA:=D4 ha
def YL(ha:DT X a tA)(hb:DW X (.BoolOp .And (b::rest) pos) tB):DW X (.BoolOp .And (a::b::rest) pos) (OR tA tB):=
 PW.mono (D0 ha hb) λZ H Q hh=>jY hh λf P st q k=>⟨f,_,st,q,λc H1 hc s1=>by
  cases c with
  |true=>rw[Ω rfl] at hc⊢;exact⟨f,P,st.ext s1,hc,λd H2 hd s2=>k d H2 hd (s1.trans s2)⟩
  |false=>rw[υ cQ] at hc⊢;exact k χ H1 hc s1⟩
def qK(ha:DT X a tA)(hb:DW X (.BoolOp .Or (b::rest) pos) tB):DW X (.BoolOp .Or (a::b::rest) pos) (rOr tA tB):=
 PW.mono (N0 ha hb) λZ H Q hh=>jY hh λf P st q k=>⟨f,_,st,q,λc H1 hc s1=>by
  cases c with
  |false=>rw[υ cQ] at hc⊢;exact⟨f,P,st.ext s1,hc,λd H2 hd s2=>k d H2 hd (s1.trans s2)⟩
  |true=>rw[Ω rfl] at hc⊢;exact k ζ H1 hc s1⟩
theorem DW.tst(h:DW X e tA):DT X e tA:=PW.pt h
def mK(ha:DT X a tA):DT X (.UnaryOp .Not a pos) (tU tA):=PT.mono (C5 ha) λZ H Q hh=>jY hh λd P st q k=>⟨d,_,st,q,λc H1 hc s1=>k _ H1 hc s1⟩
def SZ(ta tb:RE):RE:=λf Q=>ta f λd=>match d with
 | .bl k=>if k=ζ then tb f Q else Q (.bl χ)
 |_=>False
def U1(ta tb:RE):RE:=λf Q=>ta f λd=>match d with
 | .bl k=>if k=ζ then Q (.bl ζ) else tb f Q
 |_=>False
def Ry(ta:RE):RE:=λf Q=>ta f λd=>match d with
 | .bl k=>Q (.bl (!k))
 |_=>False
def YH{op}(h:DE X a ta):DE X (.BoolOp op [a] pos) ta:=B3 h
def RB(ha:DE X a ta)(hb:DE X (.BoolOp .And (b::rest) pos) tb):DE X (.BoolOp .And (a::b::rest) pos) (SZ ta tb):=
 PE.mono (A5 ha hb) λZ H Q hh=>jY hh λf P st q k=>⟨f,_,st,q,λd v H1 hd s1 r=>by
  cases d with
  |bl c=>
   refine⟨c,r.bl_inv,?_⟩;cases c with
   |true=>exact⟨f,P,st.ext s1,hd,λd v H2 hd s2=>k d v H2 hd (s1.trans s2)⟩
   |false=>exact k (.bl χ) (.bl χ) H1 hd s1 (.bl χ)
  |_=>exact hd.elim⟩
def Yr(ha:DE X a ta):DE X (.UnaryOp .Not a pos) (Ry ta):=
 PE.mono (A9 ha) λZ H Q hh=>jY hh λf P st q k=>⟨f,_,st,q,λd v H1 hd s1 r=>by
  cases d with
  |bl c=>exact⟨c,r.bl_inv,k (.bl !c) (.bl !c) H1 hd s1 (.bl _)⟩
  |_=>exact hd.elim⟩
def rIf(t:RT)(ta tb:RE):RE:=λd Q=>t d λc=>if c=ζ then ta d Q else tb d Q
def L3(X:Cx)(r:D->(D->Prop)->Prop):V->Hp->VK->Prop:=λx H Q=>∃d P,dm X.K H d x/\r d P/\∀z v H',P z->ag H H'->dk X.K H' z v->Q v H'
def UnD(X:Cx)(f:aF->Sem aF)(r:D->(D->Prop)->Prop):Prop:=Z_ X f (L3 X r)
def r1(r:D->(D->Prop)->Prop)(ta:RE):RE:=λd Q=>ta d λx=>r x Q
def yH(ho:UnD X (unaryOp op) r)(ha:DB X a ta):DE X (.UnaryOp op a pos) (r1 r ta):=
 PE.mono (M5 ho ha) λZ H Q hh=>jY hh λf P st q k=>⟨f,_,st,q,λd v H1 hd s1 rr=>⟨d,P,rr,hd,λz v H2 hz s2 r2=>k z v H2 hz (s1.trans s2) r2⟩⟩
def aV:RA:=λ_ Q=>Q []
def aD(t:RE)(u:RA):RA:=λd Q=>t d λx=>u d λxs=>Q (x::xs)
variable{t:RA}
def aT:DA X [] aV:=PA.mono MN λZ H Q hh=>jY hh λd P st q k=>k [] [] H q (ag.refl H) .nil
def aC(ha:DE X e ta)(hr:DA X es t)(hs:starEach (e::es) X.env=(χ,eval e X.env)::starEach es X.env:=by rfl):DA X (e::es) (aD ta t):=
 PA.mono (wW ha hr hs) λZ H Q hh=>jY hh λf P st q k=>⟨f,_,st,q,λd v H1 hd s1 r1=>⟨f,_,st.ext s1,hd,λds vs H2 tz s2 r2=>k (d::ds) (v::vs) H2 tz (s1.trans s2) (.cons (r1.keep (.of s2)) r2)⟩⟩
def jH(t:RA):RE:=λd Q=>t d λds=>Sz ds.length/\Q (.tup ds)
def fT{x1}(h:DA X es t):DE X (.Tuple es x1 pos) (jH t):=
 PE.mono (B4 h) λZ H Q hh=>jY hh λd P st q k=>⟨d,_,st,q,λds vs H1 hd s1 r=>⟨by rw[<-r.length];exact hd.1.ok,λp hp=>k (.tup ds) (.ref p) _ hd.2 (ag.upd_new s1 (s1.free hp) λ_ z=>by rw[hp] at z;cases z) (by
  have sm:ag H1 (ck H1 p (.tup vs)):=ag.fn λb u e=>by rw[dX (fD e hp)];exact e
  exact .tup gN (r.keep (.of sm)))⟩⟩
def oZ(t:RA):RA:=λd Q=>t d λds=>Sz ds.length/\Q ds
def jV(h:DA X es t):DO X (.List es pos) (oZ t):=
 PE.mono (Ri h) λZ H Q hh=>jY hh λd P st q k=>⟨d,_,st,q,λds vs H1 hd s1 r=>⟨by rw[<-r.length];exact hd.1.ok,λp hp=>k ds p vs H1 hd.2 s1 hp r⟩⟩
end
section
variable{X:Cx}{e a b c:Expr}{pos:Pos}{st:Stmt}{rest:ω Stmt}{t u:RS}{te:RE}
def cW(t u:RS):RS:=λE d=>t {E with nx:=u E} d
def gP:RS:=λE d=>E.nx d
def fV:qe X [] gP:=mh.mono Vo λDe Z H hh=>rH hh λd E st q n r b c=>n d Z H q (ao.refl H) st
def eV(h:DS X st t):qe X [st] t:=Vp h
def aL(h1:DS X st t)(h2:qe X rest u):qe X (st::rest) (cW t u):=
 mh.mono (Ro h1 h2) λDe Z H hh=>rH hh λf E st q n r b c=>⟨f,_,st,q,λf' Z' H' h k s=>⟨f',E,s,h,λf2 Z2 H2 x k2=>n f2 Z2 H2 x (k.trans k2),λd v H2 x k2=>r d v H2 x (k.trans k2),λf2 Z2 H2 x k2=>b f2 Z2 H2 x (k.trans k2),λf2 Z2 H2 x k2=>c f2 Z2 H2 x (k.trans k2)⟩,r,b,c⟩
def Pj:DS X st (λ_ _=>False):=PS.mono Rm λDe Z H ⟨d,E,st,q,_⟩=>q
def fM(te:RE):RS:=λE d=>te d E.rt
def vZ(h:DE X e te):DS X (.Return (ψ e) pos) (fM te):=
 PS.mono (C4 h) λDe Z H hh=>rH hh λf E st q n r b c=>⟨f,_,st,q,λd v H1 hd s1 rr=>r d v H1 hd (.of s1) (st.same.trans s1) rr⟩
def N4(te:RE):RS:=λE d=>te d λ_=>E.nx d
def jU(c:RT)(t u:RS):RS:=λE d=>c d λk=>if k=ζ then t E d else u E d
def jN(hc:DT X c tA)(ha:qe X sa t)(hb:qe X sb u):DS X (.If c sa sb pos) (jU tA t u):=
 PS.mono (M7 hc ha hb) λDe Z H hh=>rH hh λf E st q n r b c=>⟨f,_,st,q,λk H1 hk s1=>by
  cases k with
  |true=>rw[Ω rfl] at hk⊢;exact⟨f,E,st.ext s1,hk,λf2 Z2 H2 x k2=>n f2 Z2 H2 x ((ao.of s1).trans k2),λd v H2 x k2=>r d v H2 x ((ao.of s1).trans k2),λf2 Z2 H2 x k2=>b f2 Z2 H2 x ((ao.of s1).trans k2),λf2 Z2 H2 x k2=>c f2 Z2 H2 x ((ao.of s1).trans k2)⟩
  |false=>rw[υ cQ] at hk⊢;exact⟨f,E,st.ext s1,hk,λf2 Z2 H2 x k2=>n f2 Z2 H2 x ((ao.of s1).trans k2),λd v H2 x k2=>r d v H2 x ((ao.of s1).trans k2),λf2 Z2 H2 x k2=>b f2 Z2 H2 x ((ao.of s1).trans k2),λf2 Z2 H2 x k2=>c f2 Z2 H2 x ((ao.of s1).trans k2)⟩⟩
def cY(i:Nat):RG:=λd f Q=>Q (f.set i (ψ (.d d)))
def dH{i:Nat}{x:Str}(hN:X.N.Nodup)(hi:X.N[i]?=ψ x:=by rfl)(hx:Loc X.env.scope x:=by walk_at "vis")(hf:X.fn x=ζ\/X.env.scope.names.lookup x=ψ .local:=by walk_at "loc"):DG X (.Name x pos) (cY i):=
 PG.mono (Vi hN hi hx hf) λv Z H Q hh=>YQ hh λd f P r st q k=>k _ _ H q (ao.refl H) (st.set_d r)
abbrev ue:=ω D->En->(En->Prop)->Prop
def Zr(X:Cx)(g:ue):u_:=λvs Z H Q=>∃ds d P,ak X.K H ds vs/\bi X d Z H/\g ds d P/\∀d' Z' H',P d'->ao H H'->bi X d' Z' H'->Q Z' H'
def S_(X:Cx)(ts:ω Expr)(g:ue):Prop:=tq X ts (Zr X g)
theorem tq.mono{X:Cx}{e:ω Expr}{t t':u_}(h:tq X e t)(m:∀v Z H Q,t' v Z H Q->t v Z H Q):tq X e t':=λΓ s Z H v u Q I r q=>h Γ s Z H v u Q I r (m v Z H Q q)
def nW:ue:=λds d Q=>match ds with
 | []=>Q d
 |_=>False
def fW(g:RG)(u:ue):ue:=λds f Q=>match ds with
 | []=>False
 |d::r=>g d f λf'=>u r f' Q
def mF:S_ X [] nW:=tq.mono Vj λvs Z H Q hh=>YQ hh λds d P r st q k=>by
 cases r with
 |nil=>exact⟨rfl,k d Z H q (ao.refl H) st⟩
 |cons _ _=>exact q.elim
def eS{u:ue}(h1:DG X e g)(h2:S_ X es u)(hs:(assignEach (e::es) X.env).map (·.2)=assign e X.env::(assignEach es X.env).map (·.2):=by rfl):S_ X (e::es) (fW g u):=
 tq.mono (Rj h1 h2 hs) λvs Z H Q hh=>YQ hh λds d P r st q k=>by
  cases r with
  |nil=>exact q.elim
  |cons r rs=>
   refine⟨_,_,rfl,_,d,_,r,st,q,λd' Z' H' hq k1 st1=>⟨_,d',P,rs.keep k1,st1,hq,λd2 Z2 H2 p k2 s2=>k d2 Z2 H2 p (k1.trans k2) s2⟩⟩
def nX(n:Nat)(g:ue):RG:=λd f Q=>match d with
 | .tup ds=>ds.length=n/\g ds f Q
 |_=>False
def oX{es:ω Expr}{k:Nat}{g:ue}{n:Nat}(hc:X.calm=ζ)(h:S_ X es g)(hn:(assignEach es X.env).length=n:=by rfl)(o7:(assignEach es X.env).findIdx? (·.1)=ξ:=by rfl):DG X (.Tuple es k pos) (nX n g):=
 PG.mono (B6 hc h hn o7) λv Z H Q hh=>YQ hh λd i P r st q kk=>by
  cases d with
  |tup ds=>
   cases r with
   |tup h r=>exact⟨_,_,rfl,f8.of h,by rw[<-r.length];exact q.1,ds,i,P,r,st,q.2,kk⟩
  |_=>exact q.elim
def Du(te:RE)(g:RG):RS:=λE f=>te f λd=>g d f E.nx
def RF{tg:Expr}{g:RG}(he:DE X e te)(hg:DG X tg g)(hs:swapsWithSole [tg] e pos.line X.env=pure χ:=by rfl)(hw:swappedStores [tg] e X.env=pure ξ:=by rfl)
  (h1:(assignEach [tg] X.env).map (·.2)=[assign tg X.env]:=by rfl):DS X (.Assign [tg] e pos) (Du te g):=
 PS.mono (B8 he hg hs hw h1) λDe Z H hh=>rH hh λf E st q n r b c=>⟨f,_,st,q,λd v H1 hd s1 rr=>⟨d,f,_,rr,st.ext s1,hd,λf2 Z2 H2 x k2 s2=>n f2 Z2 H2 x ((ao.of s1).trans k2) s2⟩⟩
def eI(i:Nat)(te:RE):RS:=λE f=>te f λd=>E.nx (f.set i (ψ (.d d)))
def cL{i:Nat}{x:Str}{pos':Pos}(hN:X.N.Nodup)(he:DE X e te)(hi:X.N[i]?=ψ x:=by rfl)(hx:Loc X.env.scope x:=by walk_at "vis")(hs:swapsWith e (ψ (.Name x pos')) pos.line X.env=pure χ:=by rfl)
  (hf:X.fn x=ζ\/X.env.scope.names.lookup x=ψ .local:=by walk_at "loc"):DS X (.Assign [.Name x pos'] e pos) (eI i te):=
 PS.mono (Gv hN hi hx he hs hf) λDe Z H hh=>rH hh λf E st q n r b c=>⟨f,_,st,q,λd v H1 hd s1 rr=>n _ _ H1 hd (.of s1) ((st.ext s1).set_d rr)⟩
def qM(i:Nat)(t:RA):RS:=λE d=>t d λds=>E.nx (d.set i (ψ (.own ds)))
def tN{i:Nat}{x:Str}{pos':Pos}{t:RA}(hN:X.N.Nodup)(he:DO X e t)(hi:X.N[i]?=ψ x:=by rfl)(hx:Loc X.env.scope x:=by walk_at "vis")(hs:swapsWith e (ψ (.Name x pos')) pos.line X.env=pure χ:=by rfl)
  (hf:X.fn x=ζ\/X.env.scope.names.lookup x=ψ .local:=by walk_at "loc"):DS X (.Assign [.Name x pos'] e pos) (qM i t):=
 PS.mono (Gv hN hi hx he hs hf) λDe Z H hh=>rH hh λd E st q n r b c=>⟨d,_,st,q,λds p vs H1 hd s1 hp rr=>n _ _ _ hd ((ao.of s1).trans (.of (.fn λb o h=>by rw[dX (fD h hp)];exact h))) ((st.ext s1).set_own hp rr)⟩
def D6(i j:Nat)(t:RA):RS:=λE f=>t f λds=>match ds with
 | [x,y]=>E.nx ((f.set i (ψ (.d x))).set j (ψ (.d y)))
 |_=>False
theorem Yt{i j:Nat}{x y:Str}{t:RA}{px py pt:Pos}{kt k2 xp}(hc:X.calm=ζ)(hN:X.N.Nodup)(ha:DA X [a,b] t)(hi:X.N[i]?=ψ x:=by rfl)(hj:X.N[j]?=ψ y:=by rfl)(n6:i≠j:=by decide)
  (hx:X.env.scope.names.lookup x=ψ .local:=by rfl) (hy:X.env.scope.names.lookup y=ψ .local:=by rfl)
  (hw:swappedStores [.Tuple [.Name x px,.Name y py] kt pt] (.Tuple [a,b] k2 xp) X.env=pure (ψ [x,y]):=by rfl)
  (hs:swapsWithSole [.Tuple [.Name x px,.Name y py] kt pt] (.Tuple [a,b] k2 xp) pos.line X.env=pure χ:=by rfl):
  DS X (.Assign [.Tuple [.Name x px,.Name y py] kt pt] (.Tuple [a,b] k2 xp) pos) (D6 i j t):=
 PS.mono (C0 hc hN hi hj n6 hx hy ha hw hs) λDe Z H hh=>rH hh λd E st q n r b c=>⟨d,_,st,q,λds vs H1 hd s1 rr=>by
  cases rr with
  |nil=>exact hd.elim
  |cons r1 t1=>
   cases t1 with
   |nil=>exact hd.elim
   |cons r2 t2=>
    cases t2 with
    |nil=>exact⟨_,_,rfl,n _ _ H1 hd (.of s1) (((st.ext s1).set_d r1).set_d r2)⟩
    |cons _ _=>exact hd.elim⟩
def sX(i:Nat)(d:En):En:=match d[i]? with
 |some (ψ x)=>d.set i (ψ x.fz)
 |_=>d
def yJ(i:Nat)(h:DS X st t):DS X st (λE f=>t E (sX i f)):=by
 intro Γ s Z H De I bj;obtain⟨f,E,so,q,n,r,b,c⟩:=bj;have q:t E (sX i f):=q;unfold sX at q;split at q
 ·rename_i x e;obtain⟨H2,I2,jv,kp⟩:=so.fz I e;exact h Γ s Z _ De I2 ⟨_,E,jv,q,λf2 Z2 H2 x k2=>n f2 Z2 H2 x (kp.trans k2),λd v H2 x k2=>r d v H2 x (kp.trans k2),λf2 Z2 H2 x k2=>b f2 Z2 H2 x (kp.trans k2),λf2 Z2 H2 x k2=>c f2 Z2 H2 x (kp.trans k2)⟩
 ·exact h Γ s Z H De I ⟨f,E,so,q,n,r,b,c⟩
def pV(c:RT)(t:RS):Nat->RS
 | 0,_,_=>False
 |n+1,E,d=>c d λk=>if k=ζ then t {E with nx:=pV c t n E,ct:=pV c t n E,bk:=E.nx} d else E.nx d
def DU(c:RT)(t:RS):RS:=λE d=>∃n,pV c t n E d
def JH(hp:PassesOwn (model X.prog X.w) X.A X.env X.xe)(hc:DT X c tA)(hb:qe X body t):DS X (.While c body [] pos) (DU tA t):=
 PS.mono (Rn hp hc hb) λDe Z H hh=>rH hh λf E st mq n r b c=>by
  obtain⟨m,q⟩:=mq;refine⟨λm Z' H'=>∃f',bi X f' Z' H'/\ao H H'/\pV tA t m E f',⟨m,f,st,ao.refl H,q⟩,?_⟩;rintro m Z' H' ⟨f',gz,kp,hw⟩;cases m with
  |zero=>exact hw.elim
  |succ m=>
   refine⟨f',_,gz,hw,λk H1 hk s1=>?_⟩;have vw:=kp.trans (.of s1);cases k with
   |true=>
    dsimp only at hk⊢;rw[Ω rfl] at hk⊢;refine⟨λZ2 H2=>∃f2,bi X f2 Z2 H2/\ao H H2/\pV tA t m E f2,λZ2 H2 ⟨f2,a1,a2,a3⟩=>⟨m,qB m,f2,a1,a2,a3⟩,?_⟩;exact⟨f',_,gz.ext s1,hk,λf2 Z2 H2 x k2 s2=>⟨f2,s2,vw.trans k2,x⟩,λd v H2 x k2=>r d v H2 x (vw.trans k2),λf2 Z2 H2 x k2=>n f2 Z2 H2 x (vw.trans k2),λf2 Z2 H2 x k2 s2=>⟨f2,s2,vw.trans k2,x⟩⟩
   |false=>
    dsimp only at hk⊢;rw[υ cQ] at hk⊢;exact n f' Z' H1 hk vw (gz.ext s1)
def q_(X:Cx)(J:It)(xs:ω D)(H0:Hp):Prop:=∀i H,ao H0 H ->
 (∀d,xs[i]?=ψ d->J.go i H/\∀x H',J.yld i H x H'->ag H H'/\dk X.K H' d x)/\(xs.length<=i->J.stop i H)
def K8(X:Cx)(t:RA):TI:=λZ H R=>∃d P,bi X d Z H/\t d P/\∀xs J H',P xs->ag H H'->q_ X J xs H'->R J H'
def DI(X:Cx)(tg iter:Expr)(t:RA):Prop:=PI X tg iter (K8 X t)
theorem PI.mono{X:Cx}{tg e:Expr}{t t':TI}(h:PI X tg e t)(m:∀Z H Q,t' Z H Q->t Z H Q):PI X tg e t':=λΓ s Z H Q I q=>h Γ s Z H Q I (m Z H Q q)
def Bk(g:RG)(t:RS):ω D->RS
 | [],E,d=>E.nx d
 |x::xs,E,d=>g x d λd1=>t {E with nx:=Bk g t xs E,ct:=Bk g t xs E,bk:=E.nx} d1
def lC(ti:RA)(g:RG)(t:RS):RS:=λE d=>ti d λxs=>Bk g t xs E d
theorem kM(hp:PassesOwn (model X.prog X.w) X.A X.env X.xe)(hc:X.calm=ζ)(hi:DI X tg iter ti)(hg:DG X tg g)(hb:qe X body t)
  (hs:∀x,foldedSetIterable iter X.env x=pure x:=by intro _;rfl):DS X (.For tg iter body [] pos) (lC ti g t):=
 PS.mono (B9 hp hc hi hg hb hs) λDe Z H hh=>rH hh λf E st q n r b c=>by
  refine⟨f,_,st,q,λxs J H1 hx s1 ok=>?_⟩;refine⟨λi m Z' H'=>m=xs.length-i/\i<=xs.length/\∃f',bi X f' Z' H'/\ao H1 H'/\Bk g t (xs.drop i) E f',⟨xs.length,δ,gH _,f,st.ext s1,ao.refl H1,by simpa using hx⟩,?_⟩;rintro i m Z' H' ⟨rfl,hi,f',gz,kp,hf⟩;obtain⟨o1,o2⟩:=ok i H' kp;have vw:ao H H':=(ao.of s1).trans kp;by_cases e_:i<xs.length
  ·have e:xs.drop i=xs[i]::xs.drop (i+1):=gR e_;rw[e] at hf;obtain⟨go,yl⟩:=o1 xs[i] (aG e_);refine .inr ⟨go,λZ2 H2=>∃f2,bi X f2 Z2 H2/\ao H1 H2/\Bk g t (xs.drop (i+1)) E f2,λZ2 H2 hh=>⟨xs.length-(i+1),ν,rfl,e_,hh⟩,λx H2 y=>?_⟩;obtain⟨s2,rx⟩:=yl x H2 y;refine⟨xs[i],f',_,rx,gz.ext s2,hf,λf3 Z3 H3 h3 k3 s3=>?_⟩;have k13:ao H1 H3:=(kp.trans (.of s2)).trans k3;have k03:ao H H3:=(vw.trans (.of s2)).trans k3;exact⟨f3,_,s3,h3,λf4 Z4 H4 x4 k4 s4=>⟨f4,s4,k13.trans k4,x4⟩,λd v H4 x4 k4=>r d v H4 x4 (k03.trans k4),λf4 Z4 H4 x4 k4=>n f4 Z4 H4 x4 (k03.trans k4),λf4 Z4 H4 x4 k4 s4=>⟨f4,s4,k13.trans k4,x4⟩⟩
  ·have e:i=xs.length:=ν;subst e;rw[KY] at hf;exact .inl ⟨o2 (bU _),n f' Z' H' hf vw gz⟩
end
section
variable{X:Cx}{tg e:Expr}{te:RE}{pos p:Pos}
def riL(te:RE):RA:=λa Q=>te a λd=>match d with
 | .lst ds=>Q ds
 |_=>False
def jF(h:DE X e te):DI X tg e (riL te):=by
 refine PI.mono (Vk h) λZ H R hh=>jY hh λb P st q k=>⟨b,_,st,q,λd v H1 hd s1 r=>?_⟩;cases d with
 |lst ds=>
  cases r with
  | @lst a vs _ hz r=>
   refine⟨a,rfl,⟨vs,hz.sq⟩,k ds _ H1 hd s1 λi H2 kp=>⟨λd e=>?_,λhl=>⟨vs,(hz.keep kp).sq,by rw[<-r.length];exact hl⟩⟩⟩;obtain⟨v,h1,h2⟩:=(r.keep kp).get e;refine⟨⟨vs,v,(hz.keep kp).sq,h1⟩,λx H' y=>?_⟩;obtain⟨e1,e2⟩:=y;subst e1;have e3:=e2 vs (hz.keep kp).sq;rw[h1] at e3;cases e3;exact⟨ag.refl _,h2⟩
 |_=>exact hd.elim
def riT(te:RE):RA:=λa Q=>te a λd=>match d with
 | .tup ds=>Q ds
 |_=>False
def RC(h:DE X e te):DI X tg e (riT te):=by
 refine PI.mono (B7 h) λZ H R hh=>jY hh λb P st q k=>⟨b,_,st,q,λd v H1 hd s1 r=>?_⟩;cases d with
 |tup ds=>
  cases r with
  | @tup a vs _ hz r=>
   refine⟨a,rfl,⟨vs,f8.of hz⟩,k ds _ H1 hd s1 λi H2 kp=>⟨λd e=>?_,λhl=>⟨vs,f8.of (kp.tups _ _ hz),by rw[<-r.length];exact hl⟩⟩⟩;obtain⟨v,h1,h2⟩:=(r.keep kp).get e;refine⟨⟨vs,v,f8.of (kp.tups _ _ hz),h1⟩,λx H' y=>?_⟩;obtain⟨e1,e2⟩:=y;subst e1;have e3:=e2 vs (f8.of (kp.tups _ _ hz));rw[h1] at e3;cases e3;exact⟨ag.refl _,h2⟩
 |_=>exact hd.elim
def uG(lo:Int)(n:Nat):ω D:=(fH n).map λk:Nat=>D.int (lo+(k:Int))
def Qd(lo:Int)(n:Nat):q_ X (yo lo n) (uG lo n) H0:=λi H kp=>by
 refine⟨λd e=>?_,λhl=>by show n<=i;simpa [uG] using hl⟩;unfold uG at e;rw[cG] at e;by_cases hi:i<n
 ·rw[uK hi] at e;cases e;exact⟨hi,λx H' y=>by obtain⟨rfl,rfl⟩:=y;exact⟨ag.refl _,.int _⟩⟩
 ·rw[iX (by simpa using hi)] at e;cases e
structure rj(j:Int):Prop where
 lo:-(2 ^ 62)<=j
 hi:j<2 ^ 62
def TN(t:RA):RA:=λa Q=>t a λds=>match ds with
 | [.int j]=>rj j/\Q (uG 0 j.toNat)
 |_=>False
def Vw(t:RA):RA:=λa Q=>t a λds=>match ds with
 | [.int i,.int j]=>(rj i/\rj j)/\Q (uG i (j-i).toNat)
 |_=>False
def yI{a:Expr}{t:RA}(hm:X.mg "range" = ξ)(ha:DA X [a] t)(hg:Gl X "range":=by rfl)(hs:starEach [a] X.env=[(χ,eval a X.env)]:=by rfl):DI X tg (.Call (.Name "range" p) [a] [] pos) (TN t):=by
 refine PI.mono (Mg hg hm ha hs) λZ H R hh=>jY hh λb P st q k=>⟨b,_,st,q,λds vs H1 hd s1 r=>?_⟩;split at hd
 ·rename_i j;rw[ak.ints_inv (ns:=[j]) r];exact⟨j,rfl,hd.1.lo,hd.1.hi,k _ _ H1 hd.2 s1 (Qd 0 _)⟩
 ·exact hd.elim
def La{a b:Expr}{t:RA}(hm:X.mg "range" = ξ)(ha:DA X [a,b] t)(hg:Gl X "range":=by rfl)(hs:starEach [a,b] X.env=[(χ,eval a X.env),(χ,eval b X.env)]:=by rfl)(p8:starEach [b] X.env=[(χ,eval b X.env)]:=by rfl):DI X tg (.Call (.Name "range" p) [a,b] [] pos) (Vw t):=by
 refine PI.mono (Mh hg hm ha hs p8) λZ H R hh=>jY hh λc P st q k=>⟨c,_,st,q,λds vs H1 hd s1 r=>?_⟩;split at hd
 ·rename_i i j;rw[ak.ints_inv (ns:=[i,j]) r];exact⟨i,j,rfl,⟨hd.1.1.lo,hd.1.1.hi,hd.1.2.lo,hd.1.2.hi⟩,k _ _ H1 hd.2 s1 (Qd i _)⟩
 ·exact hd.elim
end
abbrev FD:=ω D->(D->Prop)->Prop
def t9(K:aI)(F:FD):Sp:=λvs H Q _=>ij K H/\∃ds P,ak K H ds vs/\F ds P/\∀d v H',P d->ag H H'->dk K H' d v->Q v H'
def cH(F:FD)(t:RA):RE:=λa Q=>t a λds=>F ds Q
section
variable{X:Cx}{k:Nat}{f:Addr}{fd:nK}{ps:ω Str}{F:FD}{x:Str}{p pos:Pos}{e:Expr}{es:ω Expr}{t:RA}
theorem Tx(G:jo X.prog X.w X.K X.mg X.base m_ k f fd ps (t9 X.K F))(hr:dc k X.A)(hm:X.mg x=ψ (.ref f))(hk:pM X.K (.ref f)=ζ)(hb:Binds X.K fd ps [])(ha:DA X (e::es) t)(hg:Gl X x:=by rfl)
  (o6:(x == ("__debug__":Str))=χ:=by decide) (he:starEach (e::es) X.env=(χ,eval e X.env)::starEach es X.env:=by rfl) (kb:(backTo pos (starEach es X.env)).any (·.1)=χ:=by rfl):
  DE X (.Call (.Name x p) (e::es) [] pos) (cH F t):=
 PE.mono (Vf (E:=E0) G hr hg hm hk hb .nil M1 ha o6 he kb) λZ H Q hh=>jY hh λa P st q kk=>⟨a,_,st,q,λds vs H1 hd s1 r=>by
  show t9 X.K F (vs++[]) H1 Q E0;rw[eH];exact⟨(st.ext s1).tabs,ds,P,r,hd,λd v H2 hp s2 r2=>kk d v H2 hp (s1.trans s2) r2⟩⟩
end
def dW(N:ω Str)(ds:ω D):En:=ds.map (λd=>ψ (.d d))++fL (N.length-ds.length) ξ
section
variable{P:cC}{w:cZ}{K:aI}{mg:Str->Option aF}{base:Heap}
def Sk(tb:ij X.K X.H₀)(r:ak X.K X.H₀ ds vs):bi X (dW N ds) (start N vs) X.H₀:=by
 have hl:=r.length;have own:∀(i:Nat)(x:S),(dW N ds)[i]?=ψ (ψ x)->∃d,x = .d d:=λi x e=>by
  unfold dW at e;by_cases hi:i<ds.length
  ·rw[dN (by simpa using hi),cG,aG hi] at e;cases e;exact⟨_,rfl⟩
  ·rw[dR (by simpa using hi),jK] at e;split at e <;> cases e
 refine⟨by simp[dW,start,hl],ag.refl _,λi x e=>?_,λi j x y v u a e1 _ _ _ o _=>by
  obtain⟨d,rfl⟩:=own i x e1;exact o.elim,tb⟩
 unfold dW at e;by_cases hi:i<ds.length
 ·rw[dN (by simpa using hi),cG,aG hi] at e;cases e;obtain⟨v,h1,h2⟩:=r.get (aG hi);refine⟨v,?_,h2⟩;unfold start;rw[dN (by simpa [<-hl] using hi),cG,h1];rfl
 ·rw[dR (by simpa using hi),jK] at e;split at e <;> cases e
def Xj{x qual:Str}{st:Stmt}{f:Addr}{fd:nK}{N ps:ω Str}{k:Nat}{F:FD}{t:RS}(Fu:u3 K x qual st f fd)(Sc:gV N ps (jC st))
  (ik:∀(gn:aF)(A:dJ)(outer:ω Env)(s:aH)(H:Hp)(E:XK),dc k (A.deeper (envOfC qual (jC st) s.z f gn)) ->
   qe (QW m_ P w K mg base N qual (jC st) f gn A outer s H E).nox (tM st) t)
  (len:∀ds Q,F ds Q->ds.length=ps.length) (pure:∀ds Q,F ds Q->t {nx:=λ_=>Q .non,rt:=Q} (dW N ds)):jo P w K mg base m_ (k+1) f fd ps (t9 K F):=by
 refine Fu.ok Sc (λvs H Q E ⟨_,ds,P,r,h,_⟩=>by rw[<-r.length];exact len ds P h) λgn A outer s H vs Q E hr ⟨tb,ds,P',r,h,kk⟩=>⟨_,ik gn A outer s H E hr,?_⟩;exact⟨dW N ds,_,Sk (X:=(QW m_ P w K mg base N qual (jC st) f gn A outer s H E).nox) tb r,pure ds P' h,λa' Z' H' hq k s'=>kk .non .non H' hq s'.same .non,λd v H' hq k sm rv=>kk d v H' hq sm rv,λ_ _ _ z=>z.elim,λ_ _ _ z=>z.elim⟩
end
def BL(n:Nat)(i:Int):Prop:=i.natAbs<2 ^ n
def BL.bits(h:BL n i):EY i<=n:=RX.mpr h
def BL.of(h:EY i<=n):BL n i:=RX.mp h
def BL.mono(h:BL m i)(l:m<=n:=by decide):BL n i:=BL.of (fR h.bits l)
def BL.add(a:BL m i)(b:BL n j):BL (max m n+1) (i+j):=BL.of (intBits_add_le a.bits b.bits)
def BL.sub(a:BL m i)(b:BL n j):BL (max m n+1) (i-j):=BL.of (intBits_sub_le a.bits b.bits)
def BL.mul(a:BL m i)(b:BL n j):BL (m+n) (i*j):=BL.of (intBits_mul_le a.bits b.bits)
def BL.neg(a:BL m i):BL m (-i):=BL.of (intBits_neg_le a.bits)
def BL.fdiv(a:BL m i):BL m (i.fdiv j):=BL.of (intBits_fdiv_le a.bits)
def BL.le(a:BL m j)(h:i.natAbs<=j.natAbs):BL m i:=GW h a
def BL.of_lt{m:Nat}{i:Int}(h1:-(2 ^ m:Nat)<i)(h2:i<(2 ^ m:Nat)):BL m i:=by unfold BL;lia
def BL.intMulOk(a:BL m i)(b:BL n j)(h:m+n<=134217728):IntMulOk i j:=IntMulOk.of_le a.bits b.bits h
def BL.noPy(h:BL 9000 j):oI i j=χ:=by
 refine PyProof.noPylong_of_log2 ?_;by_cases h0:j.natAbs=0
 ·rw[h0];decide +kernel
 ·exact(Nat.log2_lt h0).mpr h
section
variable{X:Cx}{e a b c:Expr}{pos:Pos}
theorem dm.int_inv{K:aI}{H:Hp}{i:Int}{v:V}(h:dm K H (.int i) v):v = .int i:=by
 rcases h with h | ⟨ds,a,vs,e1,_⟩
 ·exact h.int_inv
 ·cases e1
theorem dm.bl_inv{K:aI}{H:Hp}{i:Bool}{v:V}(h:dm K H (.bl i) v):v = .bl i:=by
 rcases h with h | ⟨ds,a,vs,e1,_⟩
 ·exact h.bl_inv
 ·cases e1
theorem dm.non_inv{K:aI}{H:Hp}{v:V}(h:dm K H .non v):v = .non:=by
 rcases h with h | ⟨ds,a,vs,e1,_⟩
 ·cases h;rfl
 ·cases e1
theorem dm.is_non{K:aI}{H:Hp}{d:D}{v:V}(h:dm K H d v):decide (v = .non)=(match d with | .non=>ζ |_=>χ):=by
 rcases h with h | ⟨ds,a,vs,e1,e2,_⟩
 ·cases h <;> simp
 ·subst e1 e2;simp
structure MulOk(i j:Int):Prop where
 ok:IntMulOk i j
structure qw(i j:Int):Prop where
 nz:j≠0
 np:oI i j=χ
structure u4(j:Int):Prop where
 nz:j≠0
structure u5(i j:Int):Prop where
 ok:0<=j/\j<=1000000/\i.natAbs<2 ^ 64
theorem BL.mulOk(a:BL m i)(b:BL n j)(h:m+n<=134217728:=by decide):MulOk i j:=⟨a.intMulOk b h⟩
theorem BL.divOk(h:BL 9000 j)(nz:j≠0):qw i j:=⟨nz,h.noPy⟩
def mJ:R22:=λx y Q=>match x,y with
 | .int i,.int j=>Q (.int (i+j))
 |_,_=>False
def nF:R22:=λx y Q=>match x,y with
 | .int i,.int j=>Q (.int (i-j))
 |_,_=>False
def fJ:R22:=λx y Q=>match x,y with
 | .int i,.int j=>MulOk i j/\Q (.int (i*j))
 |_,_=>False
def jX:R22:=λx y Q=>match x,y with
 | .int i,.int j=>qw i j/\Q (.int (i.fdiv j))
 |_,_=>False
def oP:R22:=λx y Q=>match x,y with
 | .int i,.int j=>u4 j/\Q (.int (i.fmod j))
 |_,_=>False
def Ax:R22:=λx y Q=>match x,y with
 | .int i,.int j=>u5 i j/\Q (.int (i ^ j.toNat))
 |_,_=>False
def Md{f:aF->aF->Sem aF}{C:Int->Int->Prop}{g:Int->Int->Int}{r:R22}(h:ke X f (rI C λi j=>.int (g i j)))
  (hr:∀x y Q,r x y Q->∃i j,x = .int i/\y = .int j/\C i j/\Q (.int (g i j))):j3 X f r:=by
 intro Γ s Z H x y v u Q I rx ry bj;obtain⟨d,e,P,r1,r2,q,k⟩:=bj;obtain⟨i,j,rfl,rfl,hc,q⟩:=hr _ _ _ q;exact h Γ s Z H x y v u Q I rx ry ⟨i,j,r1.int_inv,r2.int_inv,hc,k _ _ H q (ag.refl H) (.int _)⟩
def gZ:j3 X (binaryOp .Add) mJ:=Md (C:=λ_ _=>True) (g:=λi j=>i+j) (yg λ_ _ _ _ _ _ _ _ q=>add_int q) λx y Q q=>by
 unfold mJ at q;split at q
 ·exact⟨_,_,rfl,rfl,trivial,q⟩
 ·exact q.elim
def iV:j3 X (binaryOp .Sub) nF:=Md (C:=λ_ _=>True) (g:=λi j=>i-j) (yg λ_ _ _ _ _ _ _ _ q=>sub_int q) λx y Q q=>by
 unfold nF at q;split at q
 ·exact⟨_,_,rfl,rfl,trivial,q⟩
 ·exact q.elim
def cM:j3 X (binaryOp .Mult) fJ:=Md (C:=λi j=>IntMulOk i j) (g:=λi j=>i*j) (yg λ_ _ _ _ _ _ _ hc q=>mul_int q hc) λx y Q q=>by
 unfold fJ at q;split at q
 ·exact⟨_,_,rfl,rfl,q.1.ok,q.2⟩
 ·exact q.elim
def hE:j3 X (binaryOp .FloorDiv) jX:=Md (C:=λi j=>j≠0/\oI i j=χ) (g:=λi j=>i.fdiv j) (yg λ_ _ _ _ _ _ _ hc q=>floordiv_int hc.1 q (.inl hc.2)) λx y Q q=>by
 unfold jX at q;split at q
 ·exact⟨_,_,rfl,rfl,⟨q.1.nz,q.1.np⟩,q.2⟩
 ·exact q.elim
def jW:j3 X (binaryOp .Mod) oP:=Md (C:=λ_ j=>j≠0) (g:=λi j=>i.fmod j) (yg λ_ _ _ _ _ _ _ hc q=>mod_int' hc q) λx y Q q=>by
 unfold oP at q;split at q
 ·exact⟨_,_,rfl,rfl,q.1.nz,q.2⟩
 ·exact q.elim
def ZE:j3 X (binaryOp .Pow) Ax:=Md (C:=λi j=>0<=j/\j<=1000000/\i.natAbs<2 ^ 64) (g:=λi j=>i ^ j.toNat) (yg λ_ _ _ _ _ _ _ hc q=>pow_int_small hc.1 hc.2.1 hc.2.2 q) λx y Q q=>by
 unfold Ax at q;split at q
 ·exact⟨_,_,rfl,rfl,q.1.ok,q.2⟩
 ·exact q.elim
def xO:D->(D->Prop)->Prop:=λx Q=>match x with
 | .int i=>Q (.int (-i))
 |_=>False
def tI:UnD X (unaryOp .USub) xO:=by
 intro Γ s Z H x v Q I rx bj;obtain⟨d,P,r,q,k⟩:=bj;unfold xO at q;split at q
 ·rename_i i;exact F6 Γ s Z H x v Q I rx ⟨i,r.int_inv,k _ _ H q (ag.refl H) (.int _)⟩
 ·exact q.elim
def pQ(p:Int->Int->Bool):R22:=λx y Q=>match x,y with
 | .int i,.int j=>Q (.bl (p i j))
 |_,_=>False
def Va(h:ke X f (yh λi j=>.bl (p i j))):j3 X f (pQ p):=by
 intro Γ s Z H x y v u Q I rx ry bj;obtain⟨d,e,P,r1,r2,q,k⟩:=bj;unfold pQ at q;split at q
 ·rename_i i j;exact h Γ s Z H x y v u Q I rx ry ⟨i,j,r1.int_inv,r2.int_inv,k _ _ H q (ag.refl H) (.bl _)⟩
 ·exact q.elim
theorem DJ:j3 X (compareOp .Lt) (pQ λi j=>decide (i<j)):=Va Xw
theorem Jk:j3 X (compareOp .LtE) (pQ λi j=>decide (i<=j)):=Va Xv
theorem WR:j3 X (compareOp .Gt) (pQ λi j=>decide (j<i)):=Va Xu
theorem L9:j3 X (compareOp .GtE) (pQ λi j=>decide (j<=i)):=Va Xt
def sN(neg:Bool):R22:=λx y Q=>match x,y with
 | .int i,.int j=>Q (.bl (if neg then !decide (i=j) else decide (i=j)))
 | .bl i,.bl j=>Q (.bl (if neg then !decide (i=j) else decide (i=j)))
 |_,_=>False
theorem uF:j3 X (compareOp .Eq) (sN χ):=by
 intro Γ s Z H x y v u Q I rx ry bj;obtain⟨d,e,P,r1,r2,q,k⟩:=bj;unfold sN at q;split at q
 ·rename_i i j;rw[r1.int_inv] at rx;rw[r2.int_inv] at ry;exact Xs Γ s Z H _ _ v u Q I rx ry ⟨rfl,by
   have e:decide (V.int i=V.int j)=decide (i=j):=δ;rw[e];exact k _ _ H q (ag.refl H) (.bl _)⟩
 ·rename_i i j;rw[r1.bl_inv] at rx;rw[r2.bl_inv] at ry;exact Xs Γ s Z H _ _ v u Q I rx ry ⟨rfl,by
   have e:decide (V.bl i=V.bl j)=decide (i=j):=δ;rw[e];exact k _ _ H q (ag.refl H) (.bl _)⟩
 ·exact q.elim
theorem DK:j3 X (compareOp .NotEq) (sN ζ):=by
 intro Γ s Z H x y v u Q I rx ry bj;obtain⟨d,e,P,r1,r2,q,k⟩:=bj;unfold sN at q;split at q
 ·rename_i i j;rw[r1.int_inv] at rx;rw[r2.int_inv] at ry;exact Xx Γ s Z H _ _ v u Q I rx ry ⟨rfl,by
   have e:decide (V.int i=V.int j)=decide (i=j):=δ;rw[e];exact k _ _ H q (ag.refl H) (.bl _)⟩
 ·rename_i i j;rw[r1.bl_inv] at rx;rw[r2.bl_inv] at ry;exact Xx Γ s Z H _ _ v u Q I rx ry ⟨rfl,by
   have e:decide (V.bl i=V.bl j)=decide (i=j):=δ;rw[e];exact k _ _ H q (ag.refl H) (.bl _)⟩
 ·exact q.elim
def CQ:D->Bool
 | .non=>ζ
 |_=>χ
def BG(neg:Bool):R22:=λx y Q=>match y with
 | .non=>Q (.bl (if neg then !CQ x else CQ x))
 |_=>False
theorem Bp{K:aI}{H:Hp}{d:D}{v:V}(h:dm K H d v):decide (v = .non)=CQ d:=by
 rw[h.is_non];cases d <;> rfl
def Qy:j3 X (compareOp .Is) (BG χ):=by
 intro Γ s Z H x y v u Q I rx ry bj;obtain⟨d,e,P,r1,r2,q,k⟩:=bj;unfold BG at q;split at q
 ·exact A3 Γ s Z H x y v u Q I rx ry ⟨r2.non_inv,by rw[Bp r1];exact k _ _ H q (ag.refl H) (.bl _)⟩
 ·exact q.elim
def ZD:j3 X (compareOp .IsNot) (BG ζ):=by
 intro Γ s Z H x y v u Q I rx ry bj;obtain⟨d,e,P,r1,r2,q,k⟩:=bj;unfold BG at q;split at q
 ·exact Vd Γ s Z H x y v u Q I rx ry ⟨r2.non_inv,by rw[Bp r1];exact k _ _ H q (ag.refl H) (.bl _)⟩
 ·exact q.elim
def ci:R22:=λx y Q=>match x,y with
 | .lst ds,.int i=>match jm ds i with
  |some d=>Q d
  |none=>False
 | .tup ds,.int i=>match jm ds i with
  |some d=>Q d
  |none=>False
 |_,_=>False
def Ai{K:aI}{H:Hp}{ds:ω D}{vs:ω V}{i:Int}{d:D}(r:ak K H ds vs)(h:jm ds i=ψ d):∃v,jm vs i=ψ v/\dk K H d v:=by
 unfold jm at h⊢;rw[<-r.length];cases e:n9 ds.length i with
 |none=>rw[e] at h;cases h
 |some j=>
  rw[e] at h;exact r.get h
def kL(ha:DB X a ta)(hb:DB X b tb)(hs:Ig b:=by intro _ _;rfl):DE X (.Subscript a b pos) (r2 ci ta tb):=by
 refine PE.mono (M3 (Ui.or Zj) ha hb hs) λZ H Q h=>?_;obtain⟨g,P,st,ht,hP⟩:=h;refine⟨g,_,st,ht,λx v H1 h1 s1 r1=>⟨g,_,st.ext s1,h1,λy u H2 h2 s2 r2=>?_⟩⟩;have r1':=r1.same s2;unfold ci at h2;split at h2
 ·rename_i ds i;split at h2
  ·rename_i d e;obtain⟨p,vs,rfl,hq,rr⟩:=r1'.lst;obtain⟨w',e',kc⟩:=Ai rr e;exact .inl ⟨p,vs,i,w',rfl,r2.int_inv,hq,e',hP d w' H2 h2 (s1.trans s2) kc⟩
  ·exact h2.elim
 ·rename_i ds i;split at h2
  ·rename_i d e;obtain⟨p,vs,rfl,hq,rr⟩:=r1'.tup;obtain⟨w',e',kc⟩:=Ai rr e;exact .inr ⟨p,vs,i,w',rfl,r2.int_inv,f8.of hq,e',hP d w' H2 h2 (s1.trans s2) kc⟩
  ·exact h2.elim
 ·exact h2.elim
abbrev RO:=En->(Option Int->Prop)->Prop
def L1(X:Cx)(t:RO):TO:=λZ H Q=>∃d P,bi X d Z H/\t d P/\∀o H',P o->ag H H'->Q o H'
def DP(X:Cx)(e:Option Expr)(t:RO):Prop:=PO X e (L1 X t)
def sH:RO:=λ_ Q=>Q ξ
def DR(t:RE):RO:=λf Q=>t f λd=>match d with
 | .int i=>Q (ψ i)
 |_=>False
def EN:DP X ξ sH:=λΓ s Z H Q I hh=>jY hh λd P st q k=>Vm Γ s Z H Q I (k ξ H q (ag.refl H))
def EO(h:DE X e t):DP X (ψ e) (DR t):=λΓ s Z H Q I hh=>jY hh λf P st q k=>Vn h Γ s Z H Q I ⟨f,_,st,q,λd v H1 hd s1 r=>by
 cases d with
 |int i=>exact⟨i,r.int_inv,k (ψ i) H1 hd s1⟩
 |_=>exact hd.elim⟩
def cutD(xs:ω D)(lo hi:Option Int):ω D:=(xs.drop (HT.sIx xs.length 0 lo)).take (HT.sIx xs.length xs.length hi-HT.sIx xs.length 0 lo)
def Jw(te:RE)(tl th:RO):RA:=λd Q=>te d λx=>tl d λl=>th d λu=>match x with
 | .lst ds=>Q (cutD ds l u)
 |_=>False
def Pg{lo hi:Option Expr}(he:DB X e te)(hl:DP X lo tl)(hu:DP X hi th):DO X (.Subscript e (.Slice lo hi ξ p2) pos) (Jw te tl th):=by
 refine PE.mono (Cs Ke he hl hu) λZ H Q hh=>jY hh λf P st q k=>?_;refine⟨f,_,st,q,λd v H1 hd s1 r1=>⟨f,_,st.ext s1,hd,λl H2 h2 s2=>⟨f,_,(st.ext s1).ext s2,h2,λu H3 h3 s3=>?_⟩⟩⟩;cases d with
 |lst ds=>
  obtain⟨p,vs,rfl,hq,rr⟩:=(r1.same (s2.trans s3)).lst;refine⟨p,vs,rfl,hq,λp' ly=>k (cutD ds l u) p' (US vs l u) H3 h3 ((s1.trans s2).trans s3) ly ?_⟩;unfold cutD US;rw[<-rr.length];exact(rr.drop _).take _
 |_=>exact h3.elim
def Zq(X:Cx)(r:ω D->(D->Prop)->Prop):ω V->Hp->VK->Prop:=λxs H Q=>∃ds P,ak X.K H ds xs/\r ds P/\∀z v H',P z->ag H H'->dk X.K H' z v->Q v H'
def Aa(X:Cx)(f:aF)(r:ω D->(D->Prop)->Prop):Prop:=yA X f (Zq X r)
def rCB(r:ω D->(D->Prop)->Prop)(t:RA):RE:=λd Q=>t d λds=>r ds Q
variable{x:Str}{p:Pos}{es:ω Expr}{t:RA}{id T:String}{r:ω D->(D->Prop)->Prop}
theorem tS(hc:Aa X (.builtin id) r)(hm:X.mg x=ξ)(hv:bootBuiltins x=ψ (.builtin id))(ha:DA X (e::es) t)(hg:Gl X x:=by rfl)(hn:x≠"__name__":=by decide)(o6:(x == ("__debug__":Str))=χ:=by decide)
  (he:starEach (e::es) X.env=(χ,eval e X.env)::starEach es X.env:=by rfl) (kb:(backTo pos (starEach es X.env)).any (·.1)=χ:=by rfl):DE X (.Call (.Name x p) (e::es) [] pos) (rCB r t):=
 PE.mono (yN hc hg hm hv ha hn o6 he kb) λZ H Q hh=>jY hh λd P st q k=>⟨d,_,st,q,λds vs H1 hd s1 rr=>⟨ds,P,rr,hd,λz v H2 hz s2 r2=>k z v H2 hz (s1.trans s2) r2⟩⟩
theorem LQ(hc:Aa X (.type T) r)(hm:X.mg x=ξ)(hv:bootBuiltins x=ψ (.type T))(ha:DA X (e::es) t)(hg:Gl X x:=by rfl)(hn:x≠"__name__":=by decide)(o6:(x == ("__debug__":Str))=χ:=by decide)
  (he:starEach (e::es) X.env=(χ,eval e X.env)::starEach es X.env:=by rfl) (kb:(backTo pos (starEach es X.env)).any (·.1)=χ:=by rfl):DE X (.Call (.Name x p) (e::es) [] pos) (rCB r t):=
 PE.mono (MO hc hg hm hv ha hn o6 he kb) λZ H Q hh=>jY hh λd P st q k=>⟨d,_,st,q,λds vs H1 hd s1 rr=>⟨ds,P,rr,hd,λz v H2 hz s2 r2=>k z v H2 hz (s1.trans s2) r2⟩⟩
def UT:ω D->(D->Prop)->Prop:=λds Q=>match ds with
 | [.int i]=>Q (.int (if i<0 then -i else i))
 |_=>False
def HJ:Aa X (.builtin "abs") UT:=by
 intro Γ s Z H xs us Q I rv bj;obtain⟨ds,P,r,q,k⟩:=bj;unfold UT at q;split at q
 ·rename_i i;cases r with
  |cons r1 r2=>
   cases r2;rw[r1.int_inv] at rv;exact Oc Γ s Z H _ us Q I rv ⟨i,rfl,k _ _ H q (ag.refl H) (.int _)⟩
 ·exact q.elim
def Kv:ω D->(D->Prop)->Prop:=λds Q=>match ds with
 | [.bl b]=>Q (.int (if b then 1 else 0))
 | [.int i]=>Q (.int i)
 |_=>False
def Fr:Aa X (.type "int") Kv:=by
 intro Γ s Z H xs us Q I rv bj;obtain⟨ds,P,r,q,k⟩:=bj;unfold Kv at q;split at q
 ·rename_i i;cases r with
  |cons r1 r2=>
   cases r2;rw[r1.bl_inv] at rv;exact VW Γ s Z H _ us Q I rv (.inr ⟨i,rfl,k _ _ H q (ag.refl H) (.int _)⟩)
 ·rename_i i;cases r with
  |cons r1 r2=>
   cases r2;rw[r1.int_inv] at rv;exact VW Γ s Z H _ us Q I rv (.inl ⟨i,rfl,k _ _ H q (ag.refl H) (.int _)⟩)
 ·exact q.elim
def G9:ω D->(D->Prop)->Prop:=λds Q=>match ds with
 | [.int i,.int j]=>Q (.int (if j > i then j else i))
 |_=>False
def Aw:ω D->(D->Prop)->Prop:=λds Q=>match ds with
 | [.int i,.int j]=>Q (.int (if j<i then j else i))
 |_=>False
def Tn(hc:X.calm=ζ:=by rfl):Aa X (.builtin "min") Aw:=by
 intro Γ s Z H xs us Q I rv bj;obtain⟨ds,P,r,q,k⟩:=bj;unfold Aw at q;split at q
 ·rename_i i j
  ·rw[ak.ints_inv (ns:=[i,j]) r] at rv;exact Ko hc Γ s Z H _ us Q I rv ⟨i,j,rfl,k _ _ H q (ag.refl H) (.int _)⟩
 ·exact q.elim
def sB:D->(D->Prop)->Prop:=λd Q=>match d with
 | .lst ds=>Q (.int ds.length)
 | .tup ds=>Q (.int ds.length)
 |_=>False
def sG{t:TE}(h:PE X e t)(hs:starEach [e] X.env=[(χ,eval e X.env)]:=by rfl)(hn:starEach [] X.env=[]:=by rfl):PA X [e] (λZ H Q=>t Z H λv H'=>Q [v] H'):=
 PA.mono (wW h MN (by rw[hs,hn])) λZ H Q q=>q
theorem oW(hm:X.mg "len" = ξ)(h:DB X e te)(hg:Gl X "len":=by rfl)(hs:starEach [e] X.env=[(χ,eval e X.env)]:=by rfl)(hn:starEach [] X.env=[]:=by rfl):DE X (.Call (.Name "len" p) [e] [] pos) (r1 sB te):=by
 refine PE.mono (yN YB hg hm PySem.boot_len (sG h hs hn) η η (by rw[hs,hn]) (by rw[hn];rfl)) λZ H Q hh=>jY hh λg P st q k=>⟨g,_,st,q,λd v H1 hd s1 r=>?_⟩;unfold sB at hd;split at hd
 ·obtain⟨p,vs,rfl,hq,rr⟩:=r.lst;exact⟨p,vs,rfl,.inl hq,by rw[<-rr.length];exact k _ _ H1 hd s1 (.int _)⟩
 ·obtain⟨p,vs,rfl,hq,rr⟩:=r.tup;exact⟨p,vs,rfl,.inr (f8.of hq),by rw[<-rr.length];exact k _ _ H1 hd s1 (.int _)⟩
 ·exact hd.elim
end
def I0(ds:ω D):ω D:=ds.zipIdx.map λp=>D.tup [.int (p.2:Int),p.1]
section
variable{te:RE}
def V0(te:RE):RA:=λa Q=>te a λd=>match d with
 | .lst ds=>Q (I0 ds)
 |_=>False
end
def Gb(T:String):D->Option Bool
 | .non=>ψ (T == "NoneType")
 | .bl _=>ψ (T == "bool" ||T == "int")
 | .int _=>ψ (T == "int")
 | .str _=>ψ (T == "str")
 | .tup _=>ψ (T == "tuple")
 | .lst _=>ψ (T == "list")
 | .dct _ _=>ξ
 | .dtt _ _=>ξ
def JE(T:String):D->(D->Prop)->Prop:=λd Q=>match Gb T d with
 |some b=>Q (.bl b)
 |none=>False
structure nj(K:aI)(T:String):Prop where
 non:lW K (.type "NoneType") (.type T)=ψ (T == "NoneType")
 bl:lW K (.type "bool") (.type T)=ψ (T == "bool" ||T == "int")
 int:lW K (.type "int") (.type T)=ψ (T == "int")
 str:lW K (.type "str") (.type T)=ψ (T == "str")
 tup:lW K (.type "tuple") (.type T)=ψ (T == "tuple")
 lst:lW K (.type "list") (.type T)=ψ (T == "list")
section
variable{X:Cx}{e:Expr}{te:RE}{pos p p2:Pos}{T:String}{x:Str}
theorem xQ(tab:nj X.K T)(hm:X.mg "isinstance" = ξ)(hT:X.mg x=ξ)(hb:bootBuiltins x=ψ (.type T))(h:DE X e te)(hg:Gl X "isinstance":=by rfl)(hgT:Gl X x:=by rfl)(hn:x≠"__name__":=by decide)(hd:(x == ("__debug__":Str))=χ:=by decide)
  (hs:starEach [e,.Name x p2] X.env=(χ,eval e X.env)::starEach [.Name x p2] X.env:=by rfl) (p8:starEach [.Name x p2] X.env=(χ,eval (.Name x p2) X.env)::starEach [] X.env:=by rfl) (kb:(backTo pos (starEach [.Name x p2] X.env)).any (·.1)=χ:=by rfl):
  DE X (.Call (.Name "isinstance" p) [e,.Name x p2] [] pos) (r1 (JE T) te):=by
 have hc:yA X (.builtin "isinstance") (λxs H Q=>∃d v P,xs=[v,.ty T]/\dk X.K H d v/\JE T d P/\∀b,P (.bl b)->Q (.bl b) H):=by
  intro Γ s Z H xs us Q I r bj;obtain⟨d,v,P,ex,rd,q,k⟩:=bj;subst ex;obtain⟨u,w',rfl,r1,r2⟩:=vals2 r;cases r2;unfold JE at q;split at q
  ·rename_i b eb;have fin:∀{t:aF},j5 X.K H v t->lW X.K t (.type T)=ψ b->Θ X (call (.builtin "isinstance") [u,.type T]) (EP X Γ Z Q) X.xe s:=λty e=>Lh I r1 ty e λtk=>⟨.bl b,H,I.tok tk,rfl,k b q⟩;cases rd with
   |non=>cases eb;exact fin .non tab.non
   |bl _=>cases eb;exact fin (.bl _) tab.bl
   |int _=>cases eb;exact fin (.int _) tab.int
   |str _=>cases eb;exact fin (.str _) tab.str
   |tup h _=>cases eb;exact fin (.tup h) tab.tup
   | @lst a vs _ h _=>
    cases eb;rcases h with⟨o,h⟩ | ⟨o,its,n,hk,hc,_⟩
    ·exact fin (.frz h) tab.lst
    ·cases (show u=gD a from r1);exact gX wR I.kIn ⟨o,I.kIn a o hk,hc⟩ tab.lst (λz=>nomatch z) λtk=>⟨.bl _,H,I.tok tk,rfl,k _ q⟩
   |dct _ _ _=>cases eb
   |dtt _ _ _=>cases eb
  ·exact q.elim
 refine PE.mono (yN hc hg hm PyProof.Rows.boot_isinstance (wW h (wW (Ve (v:=.ty T) hgT hT hb rfl hn hd) MN p8) hs) η η hs kb) λZ H Q hh=>jY hh λc P st q k=>?_;refine⟨c,_,st,q,λd v H1 hd s1 r=>⟨d,v,P,rfl,r,hd,λb hb=>k _ _ H1 hb s1 (.bl b)⟩⟩
end
def sW:bootBuiltins "abs" = ψ (.builtin "abs"):=ι
def Km:bootBuiltins "min" = ψ (.builtin "min"):=ι
def EK:bootBuiltins "int" = ψ (.type "int"):=ι
def Fo:bootBuiltins "bool" = ψ (.type "bool"):=ι
def pN:bootBuiltins "tuple" = ψ (.type "tuple"):=ι
def Fp:bootBuiltins "list" = ψ (.type "list"):=ι
def Wi(K:aI):nj K "int":=⟨by rfl,by rfl,by rfl,by rfl,by rfl,by rfl⟩
def Sn(K:aI):nj K "bool":=⟨by rfl,by rfl,by rfl,by rfl,by rfl,by rfl⟩
def So(K:aI):nj K "list":=⟨by rfl,by rfl,by rfl,by rfl,by rfl,by rfl⟩
def tH(K:aI):nj K "tuple":=⟨by rfl,by rfl,by rfl,by rfl,by rfl,by rfl⟩
def G8{P:ω aF->Prop}(h:P [])(us:ω aF)(hl:us.length=0):P us:=by
 rw[kF hl];exact h
def bind1{P:ω aF->Prop}(h:∀a,P [a])(us:ω aF)(hl:us.length=1):P us:=by
 cases us with
 |nil=>cases hl
 |cons a us=>exact G8 (P:=λus=>P (a::us)) (h a) us (rZ hl)
def bind2{P:ω aF->Prop}(h:∀a b,P [a,b])(us:ω aF)(hl:us.length=2):P us:=by
 cases us with
 |nil=>cases hl
 |cons a us=>exact bind1 (P:=λus=>P (a::us)) (h a) us (rZ hl)
def bind3{P:ω aF->Prop}(h:∀a b c,P [a,b,c])(us:ω aF)(hl:us.length=3):P us:=by
 cases us with
 |nil=>cases hl
 |cons a us=>exact bind2 (P:=λus=>P (a::us)) (h a) us (rZ hl)
def bind4{P:ω aF->Prop}(h:∀a b c d,P [a,b,c,d])(us:ω aF)(hl:us.length=4):P us:=by
 cases us with
 |nil=>cases hl
 |cons a us=>exact bind3 (P:=λus=>P (a::us)) (h a) us (rZ hl)
structure FnAt(P:cC)(w:cZ)(K:aI)(mg:Str->Option aF)(base:Heap)(x:Str)(ps:List Str)(k:Nat)(F:FD):Prop where
 ex:∃f fd,jo P w K mg base m_ k f fd ps (t9 K F)/\Binds K fd ps []/\pM K (.ref f)=ζ/\mg x=ψ (.ref f)
structure aj(K:aI)(mg:Str->Option aF)(x:Str)(st:Stmt)(ps:List Str):Prop where
 ex:∃f fd,u3 K x x st f fd/\mg x=ψ (.ref f)/\∀us:ω aF,us.length=ps.length->bindArgs fd ⟨us,[]⟩=pure (ps.zip us)
section
variable{P:cC}{w:cZ}{K:aI}{mg:Str->Option aF}{base:Heap}
theorem aj.ok{x:Str}{st:Stmt}{N ps:ω Str}{k:Nat}{F:FD}{t:RS}(Z:aj K mg x st ps)(Sc:gV N ps (jC st))
  (ik:∀{f:Addr}(gn:aF)(A:dJ)(outer:ω Env)(s:aH)(H:Hp)(E:XK),dc k (A.deeper (envOfC x (jC st) s.z f gn)) ->
   qe (QW m_ P w K mg base N x (jC st) f gn A outer s H E).nox (tM st) t)
  (len:∀ds Q,F ds Q->ds.length=ps.length) (pure:∀ds Q,F ds Q->t {nx:=λ_=>Q .non,rt:=Q} (dW N ds)):FnAt P w K mg base x ps (k+1) F:=by
 obtain⟨f,fd,a,b,c⟩:=Z.ex;exact⟨f,fd,Xj a Sc (λgn A outer s H E hr=>ik gn A outer s H E hr) len pure,.all c,a.kp,b⟩
theorem aj.okL{x:Str}{st:Stmt}{ps:ω Str}{k:Nat}{F:FD}(Z:aj K mg x st ps)(h:∀(base:Heap)(f:Addr)(fd:nK),u3 K x x st f fd->jo P w K mg base m_ k f fd ps (t9 K F)):
  ∃f fd,mg x=ψ (.ref f)/\(∀us:ω aF,us.length=ps.length->bindArgs fd ⟨us,[]⟩=pure (ps.zip us))/\∀base,jo P w K mg base m_ k f fd ps (t9 K F):=by
 obtain⟨f,fd,a,b,c⟩:=Z.ex;exact⟨f,fd,b,c,λbase=>h base f fd a⟩
end
section
variable{X:Cx}{k:Nat}{ps:ω Str}{F:FD}{x:Str}{p pos:Pos}{e:Expr}{es:ω Expr}{t:RA}
theorem Pa(C:FnAt X.prog X.w X.K X.mg X.base x ps k F)(hr:dc k X.A)(ha:DA X (e::es) t)(hg:Gl X x:=by rfl)
  (o6:(x == ("__debug__":Str))=χ:=by decide) (he:starEach (e::es) X.env=(χ,eval e X.env)::starEach es X.env:=by rfl) (kb:(backTo pos (starEach es X.env)).any (·.1)=χ:=by rfl):
  DE X (.Call (.Name x p) (e::es) [] pos) (cH F t):=by
 obtain⟨f,fd,G,hb,hk,hm⟩:=C.ex;exact Tx G hr hm hk hb ha hg o6 he kb
end
def Nk(n:Nat):FD:=λds Q=>∃ns:ω Int,ds=[.lst (ns.map .int)]/\ns.length<=n/\Q (.bl ζ)
def E7{K:aI}{H:Hp}{a:Addr}{vs:ω V}(hO:Tf H)(h:iu K H a vs):qz K H a vs:=by
 rcases h with(h | ⟨o,h⟩) |h
 ·rcases hO a with z | ⟨o,xs,z⟩
  ·rw[z] at h;cases h
  ·rw[z] at h;cases h
 ·exact .inl ⟨o,h⟩
 ·exact .inr h
def ph(K:aI):Prop:=∀x∈YX,uX K mainGlobals x=ψ ξ
def ph.tabs{K:aI}(n:ph K)(H:Hp):ij K H:=λx c P m e=>by
 unfold UK at e;rw[n x m] at e;cases e
def noLam{K:aI}(a:uX K mainGlobals "rising" = ψ ξ)(b:uX K mainGlobals "framed_rising" = ψ ξ)(c:uX K mainGlobals "laid_triangles" = ψ ξ):ph K:=λx m=>by
 simp only[YX,aO,eM,or_false] at m;rcases m with rfl |rfl |rfl
 ·exact a
 ·exact b
 ·exact c
def walk_law{l:OC}{q:cC}{loose:ω Str}{XP:(Str->Option aF)->Heap->Prop}{YP:cZ->Heap->Prop}{d:DefRec}{K:Params->aI}{x:Str}{k:Nat}
  (hn:l.most=ψ 63) (zk:d.params.defaults=[]) (hr:dc k callerA)
  (hY:∀(w:cZ)(h:Heap),YP w h->(K w.params).In h) (hd:d.name = "law") (hL:∀w:cZ,ph (K w.params))
  (F:∀(w:cZ)(mg:Str->Option aF)(h:Heap),(K w.params).In h->h.Ns mainGlobals mg ->
   ∃f fd,mg "law" = ψ (.ref f)/\(∀us:ω aF,us.length=[x].length->bindArgs fd ⟨us,[]⟩=pure ([x].zip us))/\∀base,jo l.prog w (K w.params) mg base m_ k f fd [x] (t9 (K w.params) (Nk 63))):
  UJ q loose XP YP l.row.toRowW d [] (λf vs=>QM f vs):=by
 refine L2.uz (n:=63) (k:=k) (x:=x) (CX:=λ_=>m_) (sp:=λw=>t9 (K w.params) (Nk 63)) hn η zk hr hY ?_ ?_ λ_ _ _ _ _ z=>z
 ·intro w mg fa h KX G ya;rw[hd] at ya;obtain⟨f,fd,hm,hb,hF⟩:=F w mg h KX G;rw[ya] at hm;cases hm;exact⟨fd,λs u=>.of_eq (hb [u] rfl),λbase _ _=>hF base⟩
 ·intro w H a ns hl hO hS;exact⟨(hL w).tabs H,[.lst (ns.map .int)],λd=>d = .bl ζ,.cons (.lst (E7 hO hS) .ints) .nil,⟨ns,rfl,hl,rfl⟩,λd v H' e _ r=>by subst e;exact r.bl_inv⟩
def js(f:D->D->Option Bool):ω D->ω D->Option Bool
 | [],[]=>ψ ζ
 | [],_::_=>ψ χ
 |_::_,[]=>ψ χ
 |x::xs,y::ys=>match f x y,js f xs ys with
  |some a,ψ b=>ψ (a && b)
  |_,_=>ξ
def fo:Nat->D->D->Option Bool
 | 0,_,_=>ξ
 |n+1,d,e=>match d,e with
  | .int a,.int b=>ψ (decide (a=b))
  | .bl a,.bl b=>ψ (decide (a=b))
  | .non,.non=>ψ ζ
  | .non,.tup _=>ψ χ
  | .tup _,.non=>ψ χ
  | .tup xs,.tup ys=>js (fo n) xs ys
  | .lst xs,.lst ys=>js (fo n) xs ys
  |_,_=>ξ
theorem JL:∀{xs ys:ω D}{b:Bool},js f xs ys=ψ b->∀(j:Nat)(x y:D),xs[j]?=ψ x->ys[j]?=ψ y->∃c,f x y=ψ c
 | [],_,_,_,j,x,y,e,_=>by simp at e
 |_::_,[],_,_,j,x,y,_,e=>by simp at e
 |a::xs,c::ys,b,h,j,x,y,e1,e2=>by
  unfold js at h;split at h
  ·rename_i p q hp hq;cases j with
   |zero=>simp at e1 e2;subst e1 e2;exact⟨p,hp⟩
   |succ j=>exact JL hq j x y (by simpa using e1) (by simpa using e2)
  ·cases h
theorem EQ:∀{xs ys:ω D}{b:Bool},js f xs ys=ψ b ->
  ((fH (min xs.length ys.length)).all (λj=>match xs[j]?,ys[j]? with |some x,ψ y=>(f x y).getD χ |_,_=>χ) && xs.length == ys.length)=b
 | [],[],b,h=>by cases h;rfl
 | [],_::_,b,h=>by cases h;rfl
 |_::_,[],b,h=>by cases h;rfl
 |x::xs,y::ys,b,h=>by
  unfold js at h;split at h
  ·rename_i p q hp hq;cases h;have ih:=EQ hq;rw[<-ih];simp only[bP,Nat.succ_min_succ,zH,FI,aB,hp,lM,List.all_map];rw[Bool.and_assoc];congr 1;congr 1;rw[qV];simp
  ·cases h
section
variable{X:Cx}{σ:St}{H:Hp}{s:aH}
def RI{f:D->D->Option Bool}(hf:∀{d e:D}{v:V}{b:Bool},f d e=ψ b->dk X.K H d v->dk X.K H e v->b=ζ):∀{xs ys:ω D}{vs:ω V}{b:Bool},js f xs ys=ψ b->ak X.K H xs vs->ak X.K H ys vs->b=ζ:=by
 intro xs
 induction xs with
 |nil=>intro ys vs b h q1 q2;cases q1;cases q2;cases h;rfl
 |cons x xs ih=>
  intro ys vs b h q1 q2;cases q1 with
  |cons r t=>
   cases q2 with
   |cons r' t'=>
    unfold js at h;split at h
    ·rename_i p q hp hq;cases h;rw[hf hp r r',ih hq t t'];rfl
    ·cases h
theorem JK(I:Inv X Γ σ H s):∀(n:Nat){d e:D}{v:V}{b:Bool},fo n d e=ψ b->dk X.K H d v->dk X.K H e v->b=ζ
 | 0,_,_,_,_,h,_,_=>by cases h
 |n+1,d,e,v,b,h,r1,r2=>by
  unfold fo at h;split at h
  ·rw[r1.int_inv] at r2;cases r2;cases h;simp
  ·rw[r1.bl_inv] at r2;cases r2;cases h;simp
  ·cases h;rfl
  ·cases r1;cases r2
  ·cases r2;cases r1
  ·rename_i xs ys;cases r1 with
   | @tup a vs _ h1 q1=>
    cases r2 with
    | @tup _ ws _ h2 q2=>
     rw[h1] at h2;cases h2;exact RI (λ{d e v b}=>JK I n) h q1 q2
  ·rename_i xs ys;cases r1 with
   | @lst a vs _ h1 q1=>
    cases r2 with
    | @lst _ ws _ h2 q2=>
     rw[I.list_inj h2.sq h1.sq] at q2;exact RI (λ{d e v b}=>JK I n) h q1 q2
  ·cases h
theorem RJ(I:Inv X Γ σ H s){a c:Addr}(h:js (fo n) xs ys=ψ b)(h1:iu X.K H a vs)(q1:ak X.K H xs vs)(h2:iu X.K H c ws)(q2:ak X.K H ys ws)(hu:A.units<cLine)
  (om:∀{d e:D}{v u:V}{x y:aF}{b:Bool},fo n d e=ψ b->dk X.K H d v->dk X.K H e u->RelV v x->RelV u y->HA A.in1 s x y b):vU A s (.ref a) (.ref c) b/\HA A s (.ref a) (.ref c) b:=by
 obtain⟨its,rv,ht,_⟩:=I.list h1;obtain⟨f7,qa,vp,_⟩:=I.list h2;have l1:xs.length=its.length:=q1.length.trans rv.length;have l2:ys.length=f7.length:=q2.length.trans qa.length;have rc:vU A s (.ref a) (.ref c) b:=by
  by_cases hl:xs.length=ys.length
  ·have:=SeqAt.RcAt.lists (A:=A) (s:=s) (e:=λj=>match xs[j]?,ys[j]? with |some x,ψ y=>(fo n x y).getD χ |_,_=>χ) ht.isList vp.isList θ hu (λj g1 g2=>?_)
   ·have al:=EQ h;simp only[bI,<-l1] at this;rw[<-hl,IR,beq_self_eq_true,xF] at al;rw[al] at this;exact this
   ·simp only[bI] at g1 g2;have e1:xs[j]?=ψ (xs[j]'ν):=aG _;have e2:ys[j]?=ψ (ys[j]'ν):=aG _;obtain⟨k,hk⟩:=JL h j _ _ e1 e2;rw[e1,e2];simp only[hk,lM];obtain⟨v1,f1,f2⟩:=q1.get e1;obtain⟨v2,f3,f4⟩:=q2.get e2;obtain⟨u1,g3,g4⟩:=rv.get f1;obtain⟨u2,g5,g6⟩:=qa.get f3;have a1:its.toArray[j]=u1:=by
     have:=aG g1;rw[this] at g3;simpa using eK g3
    have a2:f7.toArray[j]=u2:=by
     have:=aG g2;rw[this] at g5;simpa using eK g5
    rw[a1,a2];exact om hk f2 f4 g4 g6
  ·have al:=EQ h;have:(xs.length == ys.length)=χ:=(by simpa using hl);rw[this,BM] at al;rw[<-al];exact SeqAt.RcAt.lists_lengths ht.isList vp.isList θ hu
 refine⟨rc,?_⟩;by_cases zf:a=c
 ·subst zf;rw[I.list_inj h2 h1] at q2;rw[RI (λ{d e v b}=>JK I n) h q1 q2];exact uC _
 ·exact HC zf rc
theorem zX(I:Inv X Γ σ H s):∀(n:Nat){d e:D}{v u:V}{x y:aF}{b:Bool}{A:dJ},fo n d e=ψ b->dk X.K H d v->dk X.K H e u->RelV v x->RelV u y->A.units+n<cLine ->
  vU A s x y b/\HA A s x y b
 | 0,_,_,_,_,_,_,_,_,h,_,_,_,_,_=>by cases h
 |n+1,d,e,v,u,x,y,b,A,h,r1,r2,rx,ry,hu=>by
  have same:=λ(hvu:v=u)=>JK I (n+1) h r1 (hvu▸r2);unfold fo at h;split at h
  ·rename_i i j;rw[r1.int_inv] at rx;rw[r2.int_inv] at ry;obtain⟨t,rfl⟩:=rx;obtain⟨t',rfl⟩:=ry;cases h;have e:decide (i=j)=(i == j):=(by rw[oR]);rw[e];exact⟨SeqAt.RcAt.int_int _ _ _ _,vT _ _ _ _⟩
  ·rename_i i j;rw[r1.bl_inv] at rx;rw[r2.bl_inv] at ry;cases rx;cases ry;cases h;have e:decide (i=j)=(i == j):=(by rw[oR]);rw[e];exact⟨SeqAt.RcAt.bool_bool _ _,SeqAt.EqAt.bool_bool _ _⟩
  ·cases r1;cases r2;cases rx;cases ry;cases h;exact⟨SeqAt.RcAt.none_none,uC _⟩
  ·cases r1;cases r2 with
   |tup h2 q2=>
    cases rx;cases ry;cases h;obtain⟨its,rv,ht,_⟩:=I.tuple (f8.of h2);exact⟨SeqAt.RcAt.none_tuple ht ν,SeqAt.EqAt.none_tuple ht ν⟩
  ·cases r2;cases r1 with
   |tup h2 q2=>
    cases rx;cases ry;cases h;obtain⟨its,rv,ht,_⟩:=I.tuple (f8.of h2);exact⟨SeqAt.RcAt.tuple_none ht ν,SeqAt.EqAt.tuple_none ht ν⟩
  ·rename_i xs ys;cases r1 with
   | @tup a vs _ h1 q1=>
    cases r2 with
    | @tup c ws _ h2 q2=>
     cases rx;cases ry;obtain⟨its,rv,ht,_⟩:=I.tuple (f8.of h1);obtain⟨f7,qa,vp,_⟩:=I.tuple (f8.of h2);have l1:xs.length=its.length:=q1.length.trans rv.length;have l2:ys.length=f7.length:=q2.length.trans qa.length;have rc:vU A s (.ref a) (.ref c) b:=by
      have:=SeqAt.RcAt.tuples (A:=A) (s:=s) (e:=λj=>match xs[j]?,ys[j]? with |some x,ψ y=>(fo n x y).getD χ |_,_=>χ) ht vp ν (λj g1 g2=>?_)
      ·simp only[bI,<-l1,<-l2] at this;rw[EQ h] at this;exact this
      ·simp only[bI] at g1 g2;have e1:xs[j]?=ψ (xs[j]'ν):=aG _;have e2:ys[j]?=ψ (ys[j]'ν):=aG _;obtain⟨k,hk⟩:=JL h j _ _ e1 e2;rw[e1,e2];simp only[hk,lM];obtain⟨v1,f1,f2⟩:=q1.get e1;obtain⟨v2,f3,f4⟩:=q2.get e2;obtain⟨u1,g3,g4⟩:=rv.get f1;obtain⟨u2,g5,g6⟩:=qa.get f3;have a1:its.toArray[j]=u1:=by
        have:=aG g1;rw[this] at g3;simpa using eK g3
       have a2:f7.toArray[j]=u2:=by
        have:=aG g2;rw[this] at g5;simpa using eK g5
       rw[a1,a2];exact(zX I n hk f2 f4 g4 g6 (by show A.units+1+n<cLine;lia)).2
     refine⟨rc,?_⟩;by_cases zf:a=c
     ·subst zf;rw[same rfl];exact uC _
     ·exact HC zf rc
  ·rename_i xs ys;cases r1 with
   | @lst a vs _ h1 q1=>
    cases r2 with
    | @lst c ws _ h2 q2=>
     cases rx;cases ry;exact RJ I h h1.sq q1 h2.sq q2 ν λ{d e v u x y b} hk f2 f4 g4 g6=>(zX I n hk f2 f4 g4 g6 (by show A.units+1+n<cLine;lia)).2
  ·cases h
end
def dEq:R22:=λx y Q=>match fo 6 x y with
 |some b=>Q (.bl b)
 |none=>False
def Yv{Z:St}{s:aH}(I:Inv X Γ Z H s)(h:fo 6 d e=ψ b)(r1:dm X.K H d v)(r2:dm X.K H e u)(rx:RelV v x)(ry:RelV u y)(hu:A.units+6<cLine):vU A s x y b:=by
 by_cases hl:∃xs ys,d = .lst xs/\e = .lst ys
 ·obtain⟨xs,ys,rfl,rfl⟩:=hl;obtain⟨a,vs,rfl,h1,q1⟩:=r1.lst;obtain⟨c,ws,rfl,h2,q2⟩:=r2.lst;cases rx;cases ry;exact(RJ I (n:=5) h h1 q1 h2 q2 ν λ{d e v u x y b} hk f2 f4 g4 g6=>(zX I 5 hk f2 f4 g4 g6 (by show A.units+1+5<cLine;lia)).2).1
 ·have p1:dk X.K H d v:=by
   rcases r1 with r | ⟨ds,a,vs,e1,_⟩
   ·exact r
   ·subst e1;cases e <;> first | (cases h;done) |exact Ψ ⟨_,_,rfl,rfl⟩ hl
  have p2:dk X.K H e u:=by
   rcases r2 with r | ⟨ds,a,vs,e1,_⟩
   ·exact r
   ·subst e1;cases d <;> first | (cases h;done) |exact Ψ ⟨_,_,rfl,rfl⟩ hl
  exact(zX I 6 h p1 p2 rx ry hu).1
def L8(hr:dc k X.A):j3 X (compareOp .Eq) dEq:=by
 intro Γ s Z H x y v u Q I rx ry bj;obtain⟨d,e,P,r1,r2,q,kk⟩:=bj;unfold dEq at q;split at q
 ·rename_i b hb;have hu:=hr.units;exact Yv I (A:=X.A) hb r1 r2 rx ry ν _ _ _ _ ⟨.bl b,H,I,rfl,kk _ _ H q (ag.refl H) (.bl b)⟩
 ·exact q.elim
theorem CL(env:Env):∀(names:ω (Str×NameKind))(acc:ω (Str×Addr)),(∀y∈names,y.2 = .free->∃c,env.cells.lookup y.1=ψ c) ->
  ∃cl:ω (Str×Addr),(do
   let mut cs:=acc
   for (name,kind) in names do
    if kind == .free then cs:=(name,<-cellOf env name)::cs
   return cs:Sem (ω (Str×Addr)))=pure cl/\(∀p∈cl,p∈acc\/env.cells.lookup p.1=ψ p.2)/\(∀p∈acc,p∈cl)/\∀y∈names,y.2 = .free->∃c,(y.1,c)∈cl
 | [],acc,_=>⟨acc,δ,λp h=>.inl h,λp h=>h,λy h=>by simp at h⟩
 | (n,k)::r,acc,h=>by
  by_cases hk:k = .free
  ·subst hk;obtain⟨c,hc⟩:=h _ dU rfl;obtain⟨cl,e,h1,h2,h3⟩:=CL env r ((n,c)::acc) λy hy=>h y (bH _ hy);refine⟨cl,?_,λp hp=>?_,λp hp=>h2 p (bH _ hp),λy hy hf=>?_⟩
   ·rw[<-e];have j_:cellOf env n=pure c:=(by unfold cellOf;rw[hc]);simp only[oK,j_,beq_self_eq_true,if_true,pure_bind]
   ·rcases h1 p hp with q |q
    ·rcases aO.mp q with rfl |q
     ·exact .inr hc
     ·exact .inl q
    ·exact .inr q
   ·rcases aO.mp hy with rfl |hy
    ·exact⟨c,h2 _ dU⟩
    ·exact h3 y hy hf
  ·obtain⟨cl,e,h1,h2,h3⟩:=CL env r acc λy hy=>h y (bH _ hy);refine⟨cl,?_,h1,h2,λy hy hf=>?_⟩
   ·rw[<-e];have hb:(k == jA)=χ:=(by simpa using hk);simp only[oK,hb,aS,if_false,pure_bind]
   ·rcases aO.mp hy with rfl |hy
    ·exact Ψ hf hk
    ·exact h3 y hy hf
theorem FQ{α:Type}:∀{l:ω (Str×α)}{x:Str}{c:α},(x,c)∈l->∃c',l.lookup x=ψ c'
 | [],_,_,h=>by simp at h
 | (y,d)::r,x,c,h=>by
  rw[sT];cases e:x == y with
  |true=>exact⟨d,rfl⟩
  |false=>
   rcases aO.mp h with q |q
   ·cases q;rw[beq_self_eq_true] at e;cases e
   ·exact FQ q
def QU(h:∀y∈scope.names,y.2 = .free->∃c,env.cells.lookup y.1=ψ c):
  ∃cl,closureFor scope env=pure cl/\(∀x c,cl.lookup x=ψ c->env.cells.lookup x=ψ c)/\∀y∈scope.names,y.2 = .free->∃c,cl.lookup y.1=ψ c:=by
 obtain⟨cl,e,h1,_,h3⟩:=CL env scope.names [] h;refine⟨cl,e,λx c hx=>?_,λy hy hf=>?_⟩
 ·rcases h1 _ (kZ hx) with q |q
  ·simp at q
  ·exact q
 ·obtain⟨c,hc⟩:=h3 y hy hf;exact FQ hc
def pP(X:Cx)(scope:Scope)(N:ω Str)(cl:ω (Str×Addr))(C:Addr)(s:aH)(H:Hp)(fp:ω Addr):Cx where
 prog:=X.prog
 w:=X.w
 K:=X.K
 mg:=X.mg
 base:=X.base
 A:=X.A
 N:=N
 s₀:=s
 H₀:=H
 env:=compEnvC scope cl C X.env
 outer:=X.stack
 stack:=X.stack
 ex:=fp
 fn:=λ_=>χ
 calm:=X.calm
 pn:=[]
 xe:=λ_ _=>False
structure l7(X:Cx)(scope:Scope):Prop where
 kind:scope.kind = .function
 nocell:∀y∈scope.names,y.2≠.cell
 locs:∀y∈scope.names,y.2 = .local->scope.names.lookup y.1=ψ .local
 frees:∀y∈scope.names,y.2 = .free->X.env.kindOf y.1=ψ .cell\/X.env.kindOf y.1=ψ .free
theorem sC{env:Env}:∀{names:ω (Str×NameKind)}{x:Str}{k:NameKind},(names.map λ(n,k)=>if(k == jA && env.scope.kind == .function && env.kindOf n == ψ .cell) then(n,tL) else(n,k)).lookup x=ψ k ->
  (k = .cell\/k = .free)->(∀y∈names,y.2≠.cell)->(x,.free)∈names
 | [],_,_,h,_,_=>by simp at h
 | (n,j)::r,x,k,h,hk,hn=>by
  have h:List.lookup x ((if(j == jA && env.scope.kind == .function && env.kindOf n == ψ .cell)=ζ then(n,tL) else(n,j))::r.map λ(n,k)=>if(k == jA && env.scope.kind == .function && env.kindOf n == ψ .cell) then(n,tL) else(n,k))=ψ k:=h;have n8:∀y∈r,y.2≠.cell:=λy hy=>hn y (bH _ hy);cases hx:x == n with
  |true=>
   have e:x=n:=eq_of_beq hx;subst e;by_cases hc:(j == jA && env.scope.kind == .function && env.kindOf x == ψ .cell)=ζ
   ·have hj:j = .free:=by
     rw[jI,jI] at hc;exact eq_of_beq hc.1.1
    subst hj;exact dU
   ·rw[υ hc,sT,beq_self_eq_true] at h;cases h;rcases hk with rfl |rfl
    ·exact Ψ rfl (hn _ dU)
    ·exact dU
  |false=>
   by_cases hc:(j == jA && env.scope.kind == .function && env.kindOf n == ψ .cell)=ζ
   ·rw[Ω hc,sT,hx] at h;exact bH _ (sC h hk n8)
   ·rw[υ hc,sT,hx] at h;exact bH _ (sC h hk n8)
section
variable{X:Cx}{Γ:ω (Addr×Obj)}{σ:St}{H:Hp}{s:aH}{scope:Scope}{N:ω Str}{cl:ω (Str×Addr)}{C:Addr}{fp:ω Addr}
def To(I:Inv X Γ σ H s)(Sc:l7 X scope)(mo:∀x c,cl.lookup x=ψ c->X.env.cells.lookup x=ψ c)(df:∀y∈scope.names,y.2 = .free->∃c,cl.lookup y.1=ψ c)
  (hC:s.z<=C) (hf:∀b∈fp,UH X Γ H b) (e_:∀b∈fp,b<s.z):(pP X scope N cl C s H fp).Ok:=by
 refine⟨I.ok.mod,Sc.kind,I.ok.glob,I.ok.blt,hC,λx y c h1 h2=>I.ok.inj x y c (mo x c h1) (mo y c h2),λx hx=>?_,λx c hx=>Ψ (show χ=ζ from hx) cQ,I.ok.hd,I.ok.frames,.inl rfl,λb hb=>?_,I.bs,fR I.ok.bsz I.sz,λb o e hb=>?_,λb hb hfs=>?_,I.stack,I.stkFree⟩
 ·have hx:(scope.names.map λ(n,k)=>if(k == jA && X.env.scope.kind == .function && X.env.kindOf n == ψ .cell) then(n,tL) else(n,k)).lookup x=ψ .cell\/(scope.names.map λ(n,k)=>if(k == jA && X.env.scope.kind == .function && X.env.kindOf n == ψ .cell) then(n,tL) else(n,k)).lookup x=ψ .free:=hx;have:(x,jA)∈scope.names:=by
   rcases hx with hx |hx
   ·exact sC hx (.inl rfl) Sc.nocell
   ·exact sC hx (.inr rfl) Sc.nocell
  exact df _ this rfl
 ·obtain⟨f0,f1,f2,f3,f4,f5⟩:=hf b hb;exact⟨cE (cF (e_ b hb) hC),λx c e=>f4 x c (mo x c e)⟩
 ·obtain⟨f0,f1,f2,f3,f4,f5⟩:=hf b hb;rcases f3 with z |z
  ·exact I.ok.noex b o e z
  ·have h1:=(bC e);have h2:=I.ok.bsz;exact Ψ (cF h1 (fR h2 z)) (jB _)
 ·obtain⟨f0,f1,f2,f3,f4,f5⟩:=hf b hb;rcases aO.mp (I.stkSub b hfs) with e |e
  ·exact f1 e
  ·exact f2 e
def YD(σ:St)(k:Nat)(ix:ω Nat):St:=fL k ξ++ix.map λi=>(σ[i]?).join
theorem Of(I:Inv X Γ σ H s)(Sc:l7 X scope)(mo:∀x c,cl.lookup x=ψ c->X.env.cells.lookup x=ψ c)(df:∀y∈scope.names,y.2 = .free->∃c,cl.lookup y.1=ψ c)
  {s4:aH} {m:Str->Option aF} {k:Nat} {ix:ω Nat} {ys:ω Str} (hC:s.z<=C) (hf:∀b∈fp,UH X Γ H b) (e_:∀b∈fp,b<s.z)
  (hk4:∀b o,s.heap.get? b=ψ o->s4.heap.get? b=ψ o) (xc:s4.os=s.os) (hb:AllBare s4.gens) (hns:s4.heap.Ns C m)
  (hN:N.length=k+ys.length) (r9:N.drop k=ys) (hix:ix.length=ys.length) (hiy:∀(j:Nat)(y:Str)(i:Nat),ys[j]?=ψ y->ix[j]?=ψ i->X.N[i]?=ψ y/\(y,jA)∈scope.names)
  (hkind:∀y∈ys,(relabel scope X.env).names.lookup y=ψ .cell\/(relabel scope X.env).names.lookup y=ψ .free):
  Inv (pP X scope N cl C s H fp) [] (YD σ k ix) H s4:=by
 have hfr:H C=ξ:=I.hok.fresh hC;refine⟨To I Sc mo df hC hf e_,xc,hb,Un.kept hk4,⟨m,hns,λi x v e1 e2 e3=>?_⟩,λx c e=>?_,hfr,λx c e=>I.freeC x c (mo x c e),λp hp=>Ψ (show p∈([]:ω (Addr×Obj)) from hp) δ,I.hok.kept hk4,?_⟩
 ·unfold YD at e2;by_cases oq:i<k
  ·rw[dN (by simpa using oq),jK,Ω oq] at e2;cases e2
  ·rw[dR (by simpa using oq),mD,cG] at e2;cases eo:ix[i-k]? with
   |none=>rw[eo] at e2;cases e2
   |some o=>
    rw[eo] at e2;have e2:ψ ((σ[o]?).join)=ψ (ψ v):=e2;have qt:σ[o]?=ψ (ψ v):=by
     cases q:σ[o]? with
     |none=>rw[q] at e2;cases e2
     |some z=>rw[q] at e2;cases e2;rfl
    have ey:ys[i-k]?=ψ x:=by
     rw[<-r9,GS];rw[show k+(i-k)=i by lia];exact e1
    obtain⟨h1,h2⟩:=hiy _ _ _ ey eo;have hv:qq X.env.scope x:=by
     rcases Sc.frees _ h2 rfl with q |q
     ·exact .inr (.inl q)
     ·exact .inr (.inr q)
    obtain⟨m0,hn0,hl0⟩:=I.loc;obtain⟨u,ru,lu⟩:=hl0 o x v h1 qt hv;refine⟨u,ru,.inr ⟨hkind x (eY ey),?_⟩⟩;obtain⟨c,hc⟩:=df _ h2 rfl;refine⟨c,hc,?_⟩;rcases lu with⟨q,_⟩ | ⟨_,c',nI,j_⟩
    ·rcases Sc.frees _ h2 rfl with z |z
     ·rw[z] at q;cases q
     ·rw[z] at q;cases q
    ·have:=mo x c hc;rw[this] at nI;cases nI;obtain⟨oc,ho,hd⟩:=j_;exact⟨oc,hk4 _ _ ho,hd⟩
 ·obtain⟨v,oc,ho,hd⟩:=I.cell x c (mo x c e);exact⟨v,oc,hk4 _ _ ho,hd⟩
 ·unfold YD;show _=N.length;rw[bR,mD,aY,hix,hN]
end
abbrev Xl(ifs:ω Expr)(env:Env):Sem Bool:=forIn ifs ζ λc r=>if r=ζ then do let ok <-isTrue c env (eval c env);pure (NV ok) else pure (NV r)
theorem Kt{s:aH}(I:Nat->aH->Prop)
  (turn:∀n s,I n s->∀E:aF->aH->Prop,Δ prog w A (pyNext it) (λr s₁=>match r with
   |none=>R (.ok .next) s₁
   |some v=>Δ prog w A (letOwnedTupleGo target it v) (λ_ s₁=>Δ prog w A (assign target env v) (λ_ s₂=>Δ prog w A (Xl ifs env) (λok s₂=>if ok=ζ then Δ prog w A (eval elt env) (λx s₃=>
     Δ prog w A (call (.builtin "list.append") [acc,x]) (λ_ s₄=>∃m,m<n/\I m s₄) E s₃) E s₂ else ∃m,m<n/\I m s₂) E s₂) E s₁) E s₁) E s)
  (n:Nat) (h:I n s):codeAny (model prog w) A (.compLoop (.ListComp elt [⟨target,iter,ifs,0⟩] scope pos) 0 it acc env) R s:=by
 refine codeAny_loop rfl I (λn s hI=>?_) n h;show wpAny _ _ ((compTurn (.ListComp elt [⟨target,iter,ifs,0⟩] scope pos) 0 it acc env).onRaise (λx=>do noteFrame x env;theTreesLotGoes x)) _ _ s;refine wpAny_noted ?_;rw[compTurn_list];refine aA (GL (aA (iW (turn n s hI _) (λr s₁ h₁=>?_) λ_ _ h'=>h')));cases r with
 |none=>exact aN h₁
 |some v=>
  refine aA (iW h₁ (λ_ s₁' h₁'=>aA (iW h₁' (λ_ s₂ h₂=>aA (iW h₂ (λok s₃ h₃=>?_) λ_ _ h'=>h')) λ_ _ h'=>h')) λ_ _ h'=>h');cases ok with
  |false=>exact aN ⟨rfl,h₃⟩
  |true=>exact aA (aA (iW h₃ (λx s₄ h₄=>aA (iW h₄ (λ_ s₅ h₅=>aN (aN ⟨rfl,h₅⟩)) λ_ _ h'=>h')) λ_ _ h'=>h'))
def Tc(X:Cx)(ifs:ω Expr)(t:RT):Prop:=∀(Γ:ω (Addr×Obj))(s:aH)(Z:St)(H:Hp)(Q:Bool->Hp->Prop),Inv X Γ Z H s->liftT X t Z H Q->Θ X (Xl ifs X.env) (TP X Γ Z Q) X.xe s
def Rz:RT:=λ_ Q=>Q ζ
def Bc:Tc X [] Rz:=λΓ s Z H Q I ⟨a,P,st,q,k⟩=>wpAny_tests_nil ⟨H,I,k ζ H q (ag.refl H)⟩
def Ib(X:Cx)(J:It)(xs:ω D)(H0:Hp):Prop:=∀i H,ag H0 H->(∀d,xs[i]?=ψ d->J.go i H/\∀x H',J.yld i H x H'->ag H H'/\dk X.K H' d x)/\(xs.length<=i->J.stop i H)
def Zs(X:Cx)(t:RA):TI:=λZ H R=>∃a P,bi X a Z H/\t a P/\∀xs J H',P xs->ag H H'->Ib X J xs H'->R J H'
def DIS(X:Cx)(tg iter:Expr)(t:RA):Prop:=PI X tg iter (Zs X t)
def q_.s(h:q_ X J xs H):Ib X J xs H:=λi H' s=>h i H' (.of s)
def DI.s(h:DI X tg e t):DIS X tg e t:=PI.mono h λ_ _ _ ⟨a,P,st,q,k⟩=>⟨a,P,st,q,λxs J H p s ok=>k xs J H p s ok.s⟩
def yF(g:RG)(te:RE):ω D->En->ω D->(ω D->Prop)->Prop
 | [],_,acc,Q=>Q acc
 |x::xs,a,acc,Q=>g x a λa'=>te a' λd=>yF g te xs a' (acc++[d]) Q
def pO(g:RG)(tt:RT)(te:RE):ω D->En->ω D->(ω D->Prop)->Prop
 | [],_,acc,Q=>Q acc
 |x::xs,a,acc,Q=>g x a λa'=>tt a' λb=>if b=ζ then te a' λd=>pO g tt te xs a' (acc++[d]) Q else pO g tt te xs a' acc Q
theorem VZ:∀{xs:ω D}{a:En}{acc:ω D}{Q:ω D->Prop},pO g Rz te xs a acc Q=yF g te xs a acc Q
 | [],_,_,_=>rfl
 |x::xs,a,acc,Q=>by
  show(g x a λa'=>if ζ=ζ then te a' λd=>pO g Rz te xs a' (acc++[d]) Q else pO g Rz te xs a' acc Q)=g x a λa'=>te a' λd=>yF g te xs a' (acc++[d]) Q;congr 1;funext a';rw[Ω rfl];congr 1;funext d;exact VZ
def QT(a:En)(i:Nat):Option S:=match a[i]? with
 |some (ψ (.d d))=>ψ (.d d)
 |_=>ξ
def zQ(a:En)(k:Nat)(ix:ω Nat):En:=fL k ξ++ix.map (QT a)
def Yn(so:bi X b Z H)(hK:X'.K=X.K)(hH:X'.H₀=H):bi X' (zQ b k ix) (YD Z k ix) H:=by
 have own:∀(i:Nat)(x:S),(zQ b k ix)[i]?=ψ (ψ x)->∃d,x = .d d:=λi x e=>by
  unfold zQ at e;by_cases oq:i<k
  ·rw[dN (by simpa using oq),jK,Ω oq] at e;cases e
  ·rw[dR (by simpa using oq),cG] at e;cases eo:ix[i-(fL k (ξ:Option S)).length]? with
   |none=>rw[eo] at e;cases e
   |some o=>
    rw[eo] at e;have e:ψ (QT b o)=ψ (ψ x):=e;have e:=eK e;unfold QT at e;split at e <;> cases e;exact⟨_,rfl⟩
 refine⟨by simp[zQ,YD],by rw[hH];exact ag.refl H,λi x e=>?_,λi j x y v u a e1 _ _ _ o _=>by
  obtain⟨d,rfl⟩:=own i x e1;exact o.elim,by rw[hK,hH];exact so.tabs⟩
 unfold zQ at e;by_cases oq:i<k
 ·rw[dN (by simpa using oq),jK,Ω oq] at e;cases e
 ·rw[dR (by simpa using oq),cG,mD] at e;cases eo:ix[i-k]? with
  |none=>rw[eo] at e;cases e
  |some o=>
   rw[eo] at e;have e:ψ (QT b o)=ψ (ψ x):=e;have e:=eK e;unfold QT at e;split at e
   ·rename_i d ed;cases e;obtain⟨v,h1,h2⟩:=so.rel o _ ed;refine⟨v,?_,by rw[hK];exact h2⟩;unfold YD;rw[dR (by simpa using oq),cG,mD,eo,qX,h1];rfl
   ·cases e
section
variable{σ:St}
theorem _root_.L2.Inv.track{s s':aH}{a:Addr}(I:Inv X Γ σ H s)(I':Inv X Γ σ H' s')(ha:s.z<=a)(hn:H' a=ξ)
  (e:s'.heap.get? a=ψ {cls:=.type "list",data:=.seq its.toArray n}) (rv:au vs its) (hz:vs.length<=sizeLine):Inv X Γ σ (ck H' a (.lst vs)) s':=by
 have hL:X.env.locals≠a:=cE (cF I.lt ha);have j_:∀x c,X.env.cells.lookup x=ψ c->c≠a:=λx c q z=>by
  obtain⟨v,hv⟩:=I.cell x c q;exact Ψ (cF hv.lt (by rw[z];exact ha)) (jB _)
 have hs0:∀{b:Addr}{o:Obj},X.s₀.heap.get? b=ψ o->b≠a:=λ{b o} q=>cE (cF (bC q) (fR I.sz ha));refine⟨I'.ok,I'.os,I'.bare,⟨I'.base.keep,I'.base.slot,λb o q n hx=>?_,I'.base.there,λb ys q=>?_,λb o u q=>?_,λb ps q=>?_⟩,I'.loc,I'.cell,?_,λx c q=>?_,λp hp=>?_,λb u q=>?_,I'.len⟩
 ·rw[dX (hs0 q)];exact I'.base.free b o q n hx
 ·rw[dX (fD (I'.base.tups b ys q) hn)];exact I'.base.tups b ys q
 ·rw[dX (fD (I'.base.frzs b o u q) hn)];exact I'.base.frzs b o u q
 ·obtain⟨m,q2⟩:=I'.base.tbls b ps q;exact⟨m,by rw[dX (fD q2 hn)];exact q2⟩
 ·rw[dX hL];exact I'.free
 ·rw[dX (j_ x c q)];exact I'.freeC x c q
 ·obtain⟨q1,q2,q3,q4,q5⟩:=I'.pin p hp;have m5:p.1≠a:=cE (cF (bC (I.pin p hp).1) ha);exact⟨q1,by rw[dX m5];exact q2,q3,q4,q5⟩
 ·by_cases hb:b=a
  ·subst hb;rw[gN] at q;cases q;exact⟨hz,its,n,rv,e⟩
  ·rw[dX hb] at q;exact(I'.hok b u q).stay (λc v _ w=>w) (λc w=>by rw[dX (fD w hn)];exact w) λc ys w=>by rw[dX (fD w hn)];exact w
theorem WA(hc:X.calm=ζ)(Sc:l7 X scope)(mo:∀x c,cl.lookup x=ψ c->X.env.cells.lookup x=ψ c)(df:∀y∈scope.names,y.2 = .free->∃c,cl.lookup y.1=ψ c)
  (hN:N.length=k+ys.length) (r9:N.drop k=ys) (hix:ix.length=ys.length) (hiy:∀(j:Nat)(y:Str)(i:Nat),ys[j]?=ψ y->ix[j]?=ψ i->X.N[i]?=ψ y/\(y,jA)∈scope.names)
  (hkind:∀y∈ys,(relabel scope X.env).names.lookup y=ψ .cell\/(relabel scope X.env).names.lookup y=ψ .free)
  (hg:∀C s H fp,DG (pP X scope N cl C s H fp) target g) (zp:∀C s H fp,Tc (pP X scope N cl C s H fp) ifs tt) (he:∀C s H fp,DE (pP X scope N cl C s H fp) elt te)
  (I2:Inv X Γ σ H s2) (so:bi X B σ H) (T:rl X.prog X.w X.K target J fp it tn) (st:tn 0 s2.heap) (hf:∀b∈fp,UH X Γ H b) (ok:Ib X J xs H) (hz:xs.length<=sizeLine)
  (hP:pO g tt te xs (zQ B k ix) [] P) {RR:aF->Addr->Result->aH->Prop} {E:aF->aH->Prop}
  (post:∀(ds:ω D)(vs:ω V)(its:ω aF)(n:Nat)(C:Addr)(s':aH)(H':Hp),P ds->ag H H'->H' s2.z=ξ->ak X.K H' ds vs->au vs its->vs.length<=sizeLine ->
   s'.heap.get? s2.z=ψ {cls:=.type "list",data:=.seq its.toArray n}->Inv X Γ σ H' s'->(∃m,s'.heap.Ns C m)->s2.z<C->H' C=ξ->RR (.ref s2.z) C (.ok .next) s'):
  Θ X (newList []) (λacc s₃=>Θ X (newFunctionEnv scope X.env.globals cl [] X.env.qual ξ .none (ψ X.env)) (λyw s₄=>
   codeAny (model X.prog X.w) X.A (.compStart (.ListComp elt [⟨target,iter,ifs,0⟩] scope pos) 0 (.ref it) acc {yw with scope:=relabel scope X.env}) (RR acc yw.locals) s₄) E s₃) E s2:=by
 refine gB (wpAny_newFunctionEnv Sc.nocell (by intro y hy;simp at hy) (λh₁ hns₁ hsb₁=>?_) Sc.kind);dsimp only at hns₁ hsb₁⊢;generalize hH2:s2.heap.push {cls:=.type "list",dict:=ξ,data:=.seq ([]:ω aF).toArray} = xw at hns₁ hsb₁⊢;have hCs:xw.objs.size=s2.z+1:=by rw[<-hH2,gU]
 have jk:s2.z<xw.objs.size:=by rw[hCs];exact qB _
 have e_:∀b∈fp,b<s2.z:=λb hb=>by
  obtain⟨o,ho,_⟩:=T.obj 0 _ st b hb;exact bC ho
 have old:∀b o,s2.heap.get? b=ψ o->h₁.get? b=ψ o:=λb o e=>
  hsb₁.extBut b o (cE (qC (bC e) jk)) (aU _ (hH2▸aU _ e))
 have hacc:h₁.get? s2.z=ψ {cls:=.type "list",data:=.seq ([]:ω aF).toArray 0}:=
  hsb₁.extBut _ _ (cE jk) (aU _ (hH2▸cD _ rfl))
 have hfr:H s2.z=ξ:=I2.hok.fresh (bU _);let X':=pP X scope N cl xw.objs.size s2 H fp;have J0:Inv X' [] (YD σ k ix) H {s2 with heap:=h₁,toks:=s2.toks+([]:ω (Str×aF)).length}:=
  Of I2 Sc mo df (oE jk) hf e_ old rfl I2.bare hns₁ hN r9 hix hiy hkind
 have S0:bi X' (zQ B k ix) (YD σ k ix) H:=Yn so rfl rfl;have zc:s2.z∉X'.fs:=λhb=>by
  have hb:s2.z∈qu X.stack:=hb;rcases aO.mp (I2.stkSub _ hb) with e |e
  ·exact Ψ (show X.env.locals<X.env.locals from Nat.lt_of_lt_of_eq I2.lt e) (jB _)
  ·exact I2.nofs (bU _) e
 have wv:∀{H':Hp}{o:Obj},(∀b∈fp,H' b=ξ)->∀b∈fp,UH X' [(s2.z,o)] H' b:=λ{H' o} hn b hb=>by
  obtain⟨f0,f1,f2,f3,f4,f5⟩:=hf b hb;refine⟨hn b hb,cE (qC (e_ b hb) jk),λhfs=>?_,.inl hb,λx c e=>f4 x c (mo x c e),λp hp=>?_⟩
  ·rcases aO.mp (I2.stkSub b hfs) with e |e
   ·exact f1 e
   ·exact f2 e
  ·have:p=(s2.z,o):=(by simpa [X',pP] using hp);subst this;exact fC (e_ b hb)
 have pinD:∀{σ':St}{H':Hp}{s':aH}{its:ω aF}{n:Nat},Inv X' [] σ' H' s'->H' s2.z=ξ->s'.heap.get? s2.z=ψ {cls:=.type "list",data:=.seq its.toArray n}->Inv X' [(s2.z,{cls:=.type "list",data:=.seq its.toArray n})] σ' H' s':=λI' hn e=>
  I'.pins_of λp hp=>by
   have:=cJ.mp hp;subst this;exact⟨e,hn,cE jk,zc,λv z=>by cases z⟩
 have loop:∀s₃:aH,s₃ = {s2 with heap:=h₁,toks:=s2.toks+([]:ω (Str×aF)).length} ->
   codeAny (model X.prog X.w) X.A (.compLoop (.ListComp elt [⟨target,iter,ifs,0⟩] scope pos) 0 (.ref it) (.ref s2.z) (compEnvC scope cl xw.objs.size X.env)) (RR (.ref s2.z) xw.objs.size) s₃:=by
  rintro s₃ rfl;refine Kt (λm s'=>∃(i:Nat)(B':En)(σ':St)(H':Hp)(ds:ω D)(vs:ω V)(its:ω aF)(n:Nat),m=xs.length-i/\i<=xs.length/\Inv X' [] σ' H' s'/\bi X' B' σ' H'/\tn i s'.heap/\(∀b∈fp,H' b=ξ) /\
   H' s2.z=ξ/\s'.heap.get? s2.z=ψ {cls:=.type "list",data:=.seq its.toArray n}/\ak X.K H' ds vs/\au vs its/\vs.length<=i/\pO g tt te (xs.drop i) B' ds P) ?_ xs.length
   ⟨0,zQ B k ix,YD σ k ix,H,[],[],[],0,rfl,gH _,J0,S0,T.keep _ _ _ st (λb hb o e=>old b o e),λb hb=>(hf b hb).1,hfr,hacc,.nil,.nil,bU _,by simpa using hP⟩
  rintro m s' ⟨i,B',σ',H',ds,vs,its,n,rfl,hi,I',S',gz,fr',n8,e',rr,rv,hl,hD⟩ E';obtain⟨o1,o2⟩:=ok i H' S'.same;have I1:=pinD I' n8 e';by_cases uo:i<xs.length
  ·have e:xs.drop i=xs[i]::xs.drop (i+1):=gR uo;rw[e] at hD;obtain⟨go,yl⟩:=o1 xs[i] (aG uo);refine dh (T.item X' rfl rfl rfl hc i _ s' σ' H' E' I1 (wv fr') gz go) λr s4 ⟨u,hr,h4⟩=>?_;subst hr;refine dh h4 λ_ s5 ⟨x,H5,I5,r5,y5,uw,fr5⟩=>?_;obtain⟨s45,rx5⟩:=yl x H5 y5;have I5':=I5.pinned (wv fr5) (T.obj _ _ uw);refine iW (hg _ _ _ _ _ s5 σ' H5 x u (λσ6 H6=>∃B6,tt B6 (λb=>if b=ζ then te B6 (λd=>pO g tt te (xs.drop (i+1)) B6 (ds++[d]) P) else pO g tt te (xs.drop (i+1)) B6 ds P)/\ao H5 H6/\bi X' B6 σ6 H6) I5' r5 ⟨xs[i],B',_,rx5,S'.ext s45,hD,λB6 σ6 H6 q6 k6 s6=>⟨B6,q6,k6,s6⟩⟩) (λ_ s6' ⟨σ6,H6',I6',B6,q6',k6',S6'⟩=>?_) λ_ _ z=>z.elim;refine iW (zp _ _ _ _ _ s6' σ6 H6' (λb H6=>(if b=ζ then te B6 (λd=>pO g tt te (xs.drop (i+1)) B6 (ds++[d]) P) else pO g tt te (xs.drop (i+1)) B6 ds P)/\ag H6' H6) I6' ⟨B6,_,S6',q6',λb H6 hb s6=>⟨hb,s6⟩⟩) (λokb s6 ⟨H6,I6,q6,s66⟩=>?_) λ_ _ z=>z.elim;have k6:ao H5 H6:=k6'.trans (.of s66);have S6:bi X' B6 σ6 H6:=S6'.ext s66;cases okb with
   |false=>
    have q6:pO g tt te (xs.drop (i+1)) B6 ds P:=q6;show ∃m,m<xs.length-i/\_;obtain⟨e7,n7,_,_,_⟩:=I6.pin (s2.z,_) (bD _ (dC _ dU));refine⟨_,qz4 uo,i+1,B6,σ6,H6,ds,vs,its,n,rfl,uo,I6.pins_of λp hp=>Ψ hp δ,S6,?_,λb hb=>?_,n7,e7,rr.keep ((ao.of s45).trans k6),rv,rY hl,q6⟩
    ·exact T.keep _ _ _ uw λb hb o q=>(I6.pin (b,o) (bD _ (bD _ (tF hb q)))).1
    ·obtain⟨o,q,_⟩:=T.obj _ _ uw b hb;exact(I6.pin (b,o) (bD _ (bD _ (tF hb q)))).2.1
   |true=>
   have q6:te B6 (λd=>pO g tt te (xs.drop (i+1)) B6 (ds++[d]) P):=q6;show wpAny _ _ (eval elt _) _ _ s6;refine iW (he _ _ _ _ _ s6 σ6 H6 (λv H7=>∃d,pO g tt te (xs.drop (i+1)) B6 (ds++[d]) P/\ag H6 H7/\dk X.K H7 d v) I6 ⟨B6,_,S6,q6,λd v H7 q7 s7 r7=>⟨d,q7,s7,r7⟩⟩) (λu7 s7 ⟨v7,H7,I7,rv7,d,q7,s67,r7⟩=>?_) λ_ _ z=>z.elim;obtain⟨e7,n7,_,_,_⟩:=I7.pin (s2.z,_) (bD _ (dC _ dU));have m9:its.toArray.size+1<=sizeLine:=by
    rw[bI,<-rv.length];lia
   refine zP F.slot_list_append ⟨_,e7,rfl⟩ F.entry_list_append (F.args_list_append_2 _ _) (IT s2.z its.toArray n u7 ν) ⟨e7,?_⟩;have e8:=LI e7 (λa=>a.push u7);have I8:Inv X' [] σ6 H7 s7:=I7.pins_of λp hp=>Ψ hp δ;have Pi:∀b o,b≠s2.z->s7.heap.get? b=ψ o->(s7.heap.update s2.z (eG λa=>a.push u7)).get? b=ψ o:=λb o hb q=>(dE s7.heap _ (Ne.symm hb)).trans q;have I9:Inv X' [] σ6 H7 {s7 with heap:=s7.heap.update s2.z (eG λa=>a.push u7)}:=
    I8.turned (t':=s7.toks) Pi n7 (cE jk) (.inr (bU _)) (λx c q z=>by
     obtain⟨v,hv⟩:=I2.cell x c (mo x c q);exact Ψ hv.lt (by rw[z];exact jB _)) (λp hp=>Ψ (show p∈([]:ω (Addr×Obj)) from hp) δ)
   have k57:ao H5 H7:=k6.trans (.of s67);have k':ao H' H7:=(ao.of s45).trans k57;refine⟨_,qz4 uo,i+1,B6,σ6,H7,ds++[d],vs++[v7],its++[u7],_,rfl,uo,I9,S6.ext s67,?_,λb hb=>?_,n7,by simpa using e8,(rr.keep k').append (.cons r7 .nil),rv.append (.cons rv7 .nil),by rw[bR];exact LF hl,q7⟩
   ·refine T.keep _ _ _ uw λb hb o q=>?_;have q7':=(I7.pin (b,o) (bD _ (bD _ (tF hb q)))).1;exact Pi b o (cE (e_ b hb)) q7'
   ·obtain⟨o,q,_⟩:=T.obj _ _ uw b hb;exact(I7.pin (b,o) (bD _ (bD _ (tF hb q)))).2.1
  ·have hie:i=xs.length:=ν;subst hie;rw[KY] at hD;refine dh (T.done X' rfl rfl rfl hc _ _ s' σ' H' E' I1 (wv fr') gz (o2 (bU _))) λr s4 ⟨hr,I4⟩=>?_;subst hr;obtain⟨e4,n4,_,_,_⟩:=I4.pin (s2.z,_) (bD _ dU);obtain⟨m4,hn4,_⟩:=I4.loc;have I5:Inv X Γ σ H' s4:=I2.call' (ch:=fp) I4.os I4.base I4.hok I4.bare λb hb=>by
    obtain⟨f0,f1,f2,f3,f4,f5⟩:=hf b hb;exact⟨f3,f1,f4,f5⟩
   exact post ds vs its n xw.objs.size s4 H' hD S'.same n4 rr rv (fR hl hz) e4 I5 ⟨m4,hn4⟩ jk I4.free
 exact codeAny_compStart_list (loop _ rfl) (T.self X.A 0 _ _ _ (T.keep _ _ _ st λb hb o e=>old b o e) (loop _ rfl))
end
def VY(X:Cx)(scope:Scope)(N:ω Str)(k:Nat)(ix:ω Nat):Bool:=
 scope.kind == .function && scope.names.all (λy=>y.2 != .cell) && scope.names.all (λy=>y.2 != .local ||scope.names.lookup y.1 == ψ .local) &&
 scope.names.all (λy=>y.2 != .free ||X.env.kindOf y.1 == ψ .cell ||X.env.kindOf y.1 == ψ .free) &&
 N.length == k+ix.length && ((N.drop k).zip ix).all (λp=>X.N[p.2]? == ψ p.1 && scope.names.contains (p.1,.free)) &&
 (N.drop k).all (λy=>(relabel scope X.env).names.lookup y == ψ .cell || (relabel scope X.env).names.lookup y == ψ .free)
structure yk(X:Cx)(scope:Scope)(N:List Str)(k:Nat)(ix:List Nat):Prop where
 sc:l7 X scope
 hN:N.length=k+(N.drop k).length
 hix:ix.length=(N.drop k).length
 hiy:∀(j:Nat)(y:Str)(i:Nat),(N.drop k)[j]?=ψ y->ix[j]?=ψ i->X.N[i]?=ψ y/\(y,jA)∈scope.names
 hkind:∀y∈N.drop k,(relabel scope X.env).names.lookup y=ψ .cell\/(relabel scope X.env).names.lookup y=ψ .free
def Aq(h:VY X scope N k ix=ζ):yk X scope N k ix:=by
 unfold VY at h;simp only[jI,pY,bne_iff_ne,ne_eq,NU,beq_iff_eq] at h;obtain⟨⟨⟨⟨⟨⟨h1,h2⟩,h3⟩,h4⟩,h5⟩,h6⟩,h7⟩:=h;have hl:(N.drop k).length=ix.length:=by rw[nN];lia
 refine⟨⟨h1,h2,λy hy e=>?_,λy hy e=>?_⟩,ν,hl.symm,λj y i e1 e2=>?_,h7⟩
 ·rcases h3 y hy with q |q
  ·exact Ψ e q
  ·exact q
 ·rcases h4 y hy with(q |q) |q
  ·exact Ψ e q
  ·exact .inl q
  ·exact .inr q
 ·have hm:(y,i)∈(N.drop k).zip ix:=by
   refine eY (i:=j) ?_;rw[qJ];exact⟨e1,e2⟩
  obtain⟨q1,q2⟩:=h6 _ hm;exact⟨q1,List.contains_iff_mem.mp q2⟩
def qL(ti:RA)(k:Nat)(ix:ω Nat)(g:RG)(te:RE):RA:=λa Q=>ti a λxs=>Sz xs.length/\yF g te xs (zQ a k ix) [] Q
def ZR(ti:RA)(k:Nat)(ix:ω Nat)(g:RG)(tt:RT)(te:RE):RA:=λa Q=>ti a λxs=>Sz xs.length/\pO g tt te xs (zQ a k ix) [] Q
def WW:ZR ti k ix g Rz te=qL ti k ix g te:=by
 funext a Q;unfold ZR qL;congr 1;funext xs;rw[VZ]
section
variable{X:Cx}{scope:Scope}{elt target iter:Expr}{ifs:ω Expr}{pos:Pos}{g:RG}{tt:RT}{te:RE}{ti:RA}
def NF{Z:St}{s s':aH}{C:Addr}(I2:Inv X Γ Z H s){Z':St}(I':Inv X Γ Z' H' s')(hC:s.z<=C)(hn:H' C=ξ)(hs:mO C s'.heap h'):
  Inv X Γ Z' H' {s' with heap:=h',toks:=t'}:=
 I'.turned (λb o hb e=>(hs.2 b hb).trans e) hn (fC (cF I2.lt hC)) (.inr (fR I2.sz hC)) (λx c e z=>by
  obtain⟨v,hv⟩:=I2.cell x c e;exact Ψ (cF hv.lt (by rw[z];exact hC)) (jB _)) λp hp z=>Ψ (cF (bC (I2.pin p hp).1) (by rw[z];exact hC)) (jB _)
def Pe(N:ω Str)(k:Nat)(ix:ω Nat)(hi:DI X target iter ti)(hg:∀cl C s H fp,DG (pP X scope N cl C s H fp) target g)(zp:∀cl C s H fp,Tc (pP X scope N cl C s H fp) ifs tt)(he:∀cl C s H fp,DE (pP X scope N cl C s H fp) elt te)
  (hc:X.calm=ζ:=by rfl) (hB:VY X scope N k ix=ζ:=by rfl) (hs:∀x,foldedSetIterable iter X.env x=pure x:=by intro _;rfl):DO X (.ListComp elt [⟨target,iter,ifs,0⟩] scope pos) (ZR ti k ix g tt te):=by
 intro Γ s Z H Q I bj;obtain⟨a,P,so,q,kk⟩:=bj;have F:=Aq hB;obtain⟨cl,r8,mo,df⟩:=QU (scope:=scope) (env:=X.env) λy hy hf=>I.ok.has _ (F.sc.frees y hy hf);rw[eval_ListComp];refine xY (use:=ξ) rfl hs r8 F.sc.kind F.sc.locs (dh (hi Γ s Z H (λJ H'=>∃xs,ag H H'/\q_ X J xs H'/\xs.length<=sizeLine/\pO g tt te xs (zQ a k ix) [] P) I ⟨a,_,so,q,λxs J H' hx s1 ok=>⟨xs,s1,ok,hx.1.ok,hx.2⟩⟩) λv s1 h1=>dh h1 λitv s2 h2=>?_);obtain⟨it,fp,tn,J,H',rfl,I2,T,st,hf,xs,o0,ok,hz,hD⟩:=h2;refine WA (RR:=λacc C=>compPost (model X.prog X.w) X.A X.xe ξ (EP X Γ Z Q) acc C) hc F.sc mo df F.hN rfl F.hix F.hiy F.hkind (hg cl) (zp cl) (he cl) I2 (so.ext o0) T st hf ok.s hz hD ?_;intro ds vs its n C s' H2 hP s12 hn rr rv hl e I' ⟨m,hns⟩ jk hnC;refine⟨m,hns,λh' ot=>?_⟩;have I3:Inv X Γ Z H2 {s' with heap:=h'}:=NF (t':=s'.toks) I2 I' (oE jk) hnC ot;have e3:h'.get? s2.z=ψ {cls:=.type "list",data:=.seq its.toArray n}:=(ot.2 _ (cE jk)).trans e;exact⟨.ref s2.z,_,I2.track I3 (bU _) hn e3 rv hl,rfl,kk ds _ vs H2 hP (o0.trans s12) hn rr⟩
def Pk{i:Nat}{y:Str}{pos' j7:Pos}(N:ω Str)(k:Nat)(ix:ω Nat)(hN:X.N.Nodup)(hi:DIS X target iter ti)(hg:∀cl C s H fp,DG (pP X scope N cl C s H fp) target g)(zp:∀cl C s H fp,Tc (pP X scope N cl C s H fp) ifs tt)(he:∀cl C s H fp,DE (pP X scope N cl C s H fp) elt te)
  (hy:X.N[i]?=ψ y:=by rfl) (hx:X.env.scope.names.lookup y=ψ .local:=by rfl) (hc:X.calm=ζ:=by rfl) (hB:VY X scope N k ix=ζ:=by rfl) (hs:∀x,foldedSetIterable iter X.env x=pure x:=by intro _;rfl)
  (se:swapsWith (.ListComp elt [⟨target,iter,ifs,0⟩] scope pos) (ψ (.Name y pos')) j7.line X.env=pure ζ:=by rfl):
  DS X (.Assign [.Name y pos'] (.ListComp elt [⟨target,iter,ifs,0⟩] scope pos) j7) (qM i (ZR ti k ix g tt te)):=by
 intro Γ s Z H De I bj;obtain⟨c,E,so,q,nn,rt,bk,ct⟩:=bj;have F:=Aq hB;obtain⟨cl,r8,mo,df⟩:=QU (scope:=scope) (env:=X.env) λy hy hf=>I.ok.has _ (F.sc.frees y hy hf);rw[exec_Assign_Name_used _ _ _ _ se];refine aA (GL (aA ?_));show wpAny _ X.A (do let _ <-comprehension (.ListComp elt [⟨target,iter,ifs,0⟩] scope pos) scope X.env _ (newList []) χ (eval iter X.env) (ψ (assign (.Name y pos') X.env))) _ _ s;refine aA (iW (xY (use:=ψ (assign (.Name y pos') X.env)) (Q:=λ_ s'=>SP X Γ De .next s') rfl hs r8 F.sc.kind F.sc.locs
  (dh (hi Γ s Z H (λJ H'=>∃xs,ag H H'/\Ib X J xs H'/\xs.length<=sizeLine/\pO g tt te xs (zQ c k ix) [] (λds=>E.nx (c.set i (ψ (.own ds))))) I ⟨c,_,so,q,λxs J H' hx s1 ok=>⟨xs,s1,ok,hx.1.ok,hx.2⟩⟩) λv s1 h1=>dh h1 λitv s2 h2=>?_)) (λ_ s' hq=>aN (aN hq)) λ_ _ e=>e)
 obtain⟨it,fp,tn,J,H',rfl,I2,T,st,hf,xs,o0,ok,hz,hD⟩:=h2;refine WA (RR:=λacc C=>compPost (model X.prog X.w) X.A X.xe (ψ (assign (.Name y pos') X.env)) (λ_ s'=>SP X Γ De .next s') acc C) hc F.sc mo df F.hN rfl F.hix F.hiy F.hkind (hg cl) (zp cl) (he cl) I2 (so.ext o0) T st hf ok hz hD ?_;intro ds vs its n C s' H2 hP s12 hn rr rv hl e I' ⟨m,hns⟩ jk hnC;have I3:=I2.track I' (bU _) hn e rv hl;have hneC:s2.z≠C:=cE jk;have so3:bi X (c.set i (ψ (.own ds))) (Z.set i (ψ (.ref s2.z))) (ck H2 s2.z (.lst vs)):=(so.ext (o0.trans s12)).set_own hn rr;have k3:ao H (ck H2 s2.z (.lst vs)):=(ao.of (o0.trans s12)).trans (.ofF λb o h=>by rw[dX (fD h hn)];exact h);show Θ X (assign (.Name y pos') X.env (.ref s2.z)) _ _ s';refine KQ (XH I3 hN hy (.inl hx) (v:=.ref s2.z) rfl (λs4 I4 ⟨a,sb,ha⟩=>?_) (.inr hx));have hCa:C≠a:=by
  rcases ha with rfl |ha
  ·exact fC (qC I2.lt jk)
  ·obtain⟨v,hv⟩:=I2.cell _ a ha;exact fC (qC hv.lt jk)
 refine⟨m,hns.sameBut sb hCa,λh' ot=>⟨_,_,NF (t':=s4.toks) I2 I4 (oE jk) (by rw[dX (Ne.symm hneC)];exact hnC) ot,nn _ _ _ hP k3 so3⟩⟩
def EM(N:ω Str)(k:Nat)(ix:ω Nat)(hi:DI X target iter ti)(hg:∀cl C s H fp,DG (pP X scope N cl C s H fp) target g)(he:∀cl C s H fp,DE (pP X scope N cl C s H fp) elt te)
  (hc:X.calm=ζ:=by rfl) (hB:VY X scope N k ix=ζ:=by rfl) (hs:∀x,foldedSetIterable iter X.env x=pure x:=by intro _;rfl):DO X (.ListComp elt [⟨target,iter,[],0⟩] scope pos) (qL ti k ix g te):=by
 rw[<-WW];exact Pe N k ix hi hg (λ_ _ _ _ _=>Bc) he hc hB hs
def OY{i:Nat}{y:Str}{pos' j7:Pos}(N:ω Str)(k:Nat)(ix:ω Nat)(hN:X.N.Nodup)(hi:DI X target iter ti)(hg:∀cl C s H fp,DG (pP X scope N cl C s H fp) target g)(he:∀cl C s H fp,DE (pP X scope N cl C s H fp) elt te)
  (hy:X.N[i]?=ψ y:=by rfl) (hx:X.env.scope.names.lookup y=ψ .local:=by rfl) (hc:X.calm=ζ:=by rfl) (hB:VY X scope N k ix=ζ:=by rfl) (hs:∀x,foldedSetIterable iter X.env x=pure x:=by intro _;rfl)
  (se:swapsWith (.ListComp elt [⟨target,iter,[],0⟩] scope pos) (ψ (.Name y pos')) j7.line X.env=pure ζ:=by rfl):
  DS X (.Assign [.Name y pos'] (.ListComp elt [⟨target,iter,[],0⟩] scope pos) j7) (qM i (qL ti k ix g te)):=by
 rw[<-WW];exact Pk N k ix hN hi.s hg (λ_ _ _ _ _=>Bc) he hy hx hc hB hs se
def riO(i:Nat):RA:=λa Q=>match a[i]? with
 |some (ψ (.own ds))=>Q ds
 |_=>False
end
section
variable{X:Cx}{e a b:Expr}{pos apos cpos fk:Pos}{te:RE}{x:Str}
def wY(i:Nat)(te:RE):RS:=λE c=>match c[i]? with
 |some (ψ (.own xs))=>te c λd=>Sz (xs.length+1)/\E.nx (c.set i (ψ (.own (xs++[d]))))
 |_=>False
theorem rO(i:Nat)(he:DE X e te)(hN:X.N[i]?=ψ x:=by rfl)(hv:qq X.env.scope x:=by walk_at "vis")(hd:(x == ("__debug__":Str))=χ:=by decide)(j9:(x == ("__classdict__":Str))=χ:=by decide)
  (gq:attributeBase (.Name x fk) "append" X.env (eval (.Name x fk) X.env)=eval (.Name x fk) X.env:=by rfl)
  (mr:((backTo cpos (starEach [e] X.env)).all (λx=>!x.1) && (backToKw cpos (keywordEach [] X.env)).all (λx=>x.1.isSome) && decide (([e]:ω Expr).length+([]:ω qW).length+(if([]:ω qW).isEmpty then 0 else 1)<30))=ζ:=by rfl)
  (gt:(apos.endLine == cpos.line)=ζ:=by rfl) (hs:starEach [e] X.env=[(χ,eval e X.env)]:=by rfl) (hn:starEach [] X.env=[]:=by rfl) (se:swapsWith (.Call (.Attribute (.Name x fk) "append" apos) [e] [] cpos) ξ pos.line X.env=pure χ:=by rfl):
  DS X (.Expr (.Call (.Attribute (.Name x fk) "append" apos) [e] [] cpos) pos) (wY i te):=by
 refine PS.mono (PJ (Cr kQ xL xM WP (pv i hN hv hd j9) (sG he hs hn) gq mr gt (by rw[hs,hn]) (by rw[hn];rfl)) se) λDe Z H hh=>rH hh λc E so q n r bk ct=>?_;unfold wY at q;split at q
 ·rename_i xs ex;obtain⟨v,h1,p,vs,ev,hp,h0,rr⟩:=so.rel i _ ex;subst ev;refine⟨.ref p,h1,.inl ⟨rfl,vs,iu.of hp⟩,c,_,so,q,λd v H1 hd s1 rd=>?_⟩;have m5:=s1.get _ _ hp trivial;obtain⟨jv,k2⟩:=(so.ext s1).upd_own ex h1 m5 h0 ((rr.keep (.of s1)).append (.cons rd .nil));have m9:xs.length+1<=sizeLine:=hd.1.ok;exact⟨p,vs,v,rfl,rfl,m5,by rw[<-rr.length];lia,n _ _ _ hd.2 ((ao.of s1).trans k2) jv⟩
 ·exact q.elim
def Ju(i:Nat):RS:=λE c=>match c[i]? with
 |some (ψ (.own xs))=>xs≠[]/\E.nx (c.set i (ψ (.own xs.dropLast)))
 |_=>False
theorem Yu(i:Nat)(hN:X.N[i]?=ψ x:=by rfl)(hv:qq X.env.scope x:=by walk_at "vis")(hd:(x == ("__debug__":Str))=χ:=by decide)(j9:(x == ("__classdict__":Str))=χ:=by decide)
  (gq:attributeBase (.Name x fk) "pop" X.env (eval (.Name x fk) X.env)=eval (.Name x fk) X.env:=by rfl)
  (gt:(apos.endLine == cpos.line)=ζ:=by rfl) (se:swapsWith (.Call (.Attribute (.Name x fk) "pop" apos) [] [] cpos) ξ pos.line X.env=pure χ:=by rfl):
  DS X (.Expr (.Call (.Attribute (.Name x fk) "pop" apos) [] [] cpos) pos) (Ju i):=by
 refine PS.mono (PJ (A6 kQ PySem.F.slot_list_pop PySem.F.type_list_pop Zu (pv i hN hv hd j9) gq gt) se) λDe Z H hh=>rH hh λc E so q n r bk ct=>?_;unfold Ju at q;split at q
 ·rename_i xs ex;obtain⟨v,h1,p,vs,ev,hp,h0,rr⟩:=so.rel i _ ex;subst ev;have hl:=rr.length;have gy:0<xs.length:=jT.mpr q.1;have hg:vs[vs.length-1]?=ψ (vs[vs.length-1]'ν):=aG _;obtain⟨jv,k2⟩:=so.upd_own ex h1 hp h0 rr.dropLast;exact⟨.ref p,h1,.inl ⟨rfl,vs,iu.of hp⟩,p,vs,_,rfl,rfl,hp,hg,n _ _ _ q.2 k2 jv⟩
 ·exact q.elim
def D7(i:Nat)(te tk:RE):RS:=λE c=>match c[i]? with
 |some (ψ (.own xs))=>te c λd=>tk c λkd=>match kd with
  | .int k=>match n9 xs.length k with
   |some j=>E.nx (c.set i (ψ (.own (xs.set j d))))
   |none=>False
  |_=>False
 |_=>False
end
section
variable{X:Cx}{e a b:Expr}{pos p:Pos}
theorem Vb:ke X (binaryOp .Add) (λx y H Q=>∃l b xs zs,x = .ref l/\y = .ref b/\iu X.K H l xs/\iu X.K H b zs/\xs.length+zs.length<=sizeLine/\∀p,H p=ξ->Q (.ref p) (ck H p (.lst (xs++zs)))):=by
 intro Γ s Z H x y v u Q I rx ry h;obtain⟨l,b,xs,zs,rfl,rfl,hH,hB,hz,q⟩:=h;cases rx;cases ry;obtain⟨its,r,⟨o,n,e,hc,hd,hs⟩,hl⟩:=I.list hH;obtain⟨f7,r2,⟨o2,n2,e2,vm,hd2,p8⟩,hl2⟩:=I.list hB;obtain⟨c,d,dt,sl⟩:=o;obtain⟨c2,d2,dt2,v6⟩:=o2;dsimp only at hc hs hd vm p8 hd2;subst hc hs hd vm p8 hd2;have hl1:=r.length;have hl2:=r2.length;refine JA (T:="list") (id:="list.__add__") ⟨_,e,rfl⟩ ⟨_,e2,rfl⟩ (by kernel_rfl) (by kernel_rfl) PySem.F.slot_list_add PySem.F.entry_list_add (PySem.F.args_list_add_2 _ _)
  (list_addW l b its.toArray f7.toArray n n2 ξ ξ sl v6 (by rw[bI,bI];lia)) ⟨e,e2,?_⟩
 have ea:its.toArray++f7.toArray=(its++f7).toArray:=δ
 rw[ea];exact⟨.ref _,_,I.lnew (t':=s.toks) (r.append r2) (by rw[bR];lia),rfl,q _ I.fresh⟩
def FzQ(X:Cx)(Q:VK):VK:=λv H'=>Q v H'\/∃p vs H1,v = .ref p/\H'=ck H1 p (.lst vs)/\H1 p=ξ/\∀H2,ag H1 H2->qz X.K H2 p vs->Q v H2
def Xg{s:aH}(h:EP X Γ Z (FzQ X Q) u s):EP X Γ Z Q u s:=by
 obtain⟨v,H',I,rv,q | ⟨p,vs,H1,rfl,rfl,hn,q⟩⟩:=h
 ·exact⟨v,H',I,rv,q⟩
 ·obtain⟨o,I2⟩:=Inv.freeze I (a:=p) (xs:=vs) gN;exact⟨.ref p,_,I2,rv,q _ (.fn λb u e=>by rw[dX (fD e hn),dX (fD e hn)];exact e) (.inl ⟨o,gN⟩)⟩
theorem PE.frz(h:PE X e t):PE X e (λZ H Q=>t Z H (FzQ X Q)):=λΓ s Z H Q I q=>dh (h Γ s Z H _ I q) λ_ _=>Xg
theorem ke.frz(h:ke X f r):ke X f (λx y H Q=>r x y H (FzQ X Q)):=λΓ s Z H x y v u Q I rx ry q=>dh (h Γ s Z H x y v u _ I rx ry q) λ_ _=>Xg
def AN:R22:=λx y Q=>match x,y with
 | .int i,.int j=>Q (.int (i+j))
 | .lst xs,.lst ys=>Sz (xs.length+ys.length)/\Q (.lst (xs++ys))
 | .tup xs,.tup ys=>xs≠[]/\Sz (xs.length+ys.length)/\Q (.tup (xs++ys))
 |_,_=>False
def upd_new{p:Addr}(hp:H p=ξ):ag H (ck H p o):=ag.fn λb u e=>by rw[dX (fD e hp)];exact e
def JW:j3 X (binaryOp .Add) AN:=by
 intro Γ s Z H x y v u Q I rx ry bj;obtain⟨d,e,P,r1,r2,q,k⟩:=bj;unfold AN at q;split at q
 ·exact gZ Γ s Z H x y v u Q I rx ry ⟨_,_,P,r1,r2,q,k⟩
 ·rename_i xs ys;obtain⟨a,vs,rfl,ha,ra⟩:=r1.lst;obtain⟨b,ws,rfl,hb,rb⟩:=r2.lst;have m9:xs.length+ys.length<=sizeLine:=q.1.ok;refine ke.frz Vb Γ s Z H _ _ v u Q I rx ry ⟨a,b,vs,ws,rfl,rfl,ha,hb,by rw[<-ra.length,<-rb.length];exact m9,λp hp=>.inr ⟨p,_,H,rfl,rfl,hp,λH2 s2 fz=>k _ _ H2 q.2 s2 (.lst fz ((ra.append rb).keep (.of s2)))⟩⟩
 ·rename_i xs ys;obtain⟨a,vs,rfl,ha,ra⟩:=r1.tup;obtain⟨b,ws,rfl,hb,rb⟩:=r2.tup;have m9:xs.length+ys.length<=sizeLine:=q.2.1.ok;have hl:=ra.length;refine Vc Γ s Z H _ _ v u Q I rx ry ⟨a,b,vs,ws,rfl,rfl,f8.of ha,f8.of hb,λz=>q.1 (nO.mp (by rw[hl,z];rfl)),by rw[<-ra.length,<-rb.length];exact m9,λz=>?_,λz p hp=>?_⟩
  ·subst z;cases rb;have:=k _ (.ref a) H q.2.2 (ag.refl H);rw[eH] at this;exact this (.tup ha ra)
  ·exact k _ _ _ q.2.2 (upd_new hp) (.tup gN ((ra.append rb).keep (.of (upd_new hp))))
 ·exact q.elim
def ZS(te:RE)(tl th:RO):RE:=λc Q=>te c λx=>tl c λl=>th c λu=>match x with
 | .lst ds=>Q (.lst (cutD ds l u))
 | .tup ds=>¬(HT.sIx ds.length 0 l=0/\HT.sIx ds.length ds.length u=ds.length)/\Q (.tup (cutD ds l u))
 |_=>False
def As{K:aI}{H:Hp}{ds:ω D}{vs:ω V}(l u:Option Int)(rr:ak K H ds vs):ak K H (cutD ds l u) (US vs l u):=by
 unfold cutD US;rw[<-rr.length];exact(rr.drop _).take _
def CO{lo hi:Option Expr}(he:DB X e te)(hl:DP X lo tl)(hu:DP X hi th):DE X (.Subscript e (.Slice lo hi ξ p2) pos) (ZS te tl th):=by
 refine PE.mono (PE.frz (Cs (Ke.or E4) he hl hu)) λZ H Q hh=>jY hh λc P st q k=>?_;refine⟨c,_,st,q,λd v H1 hd s1 r1=>⟨c,_,st.ext s1,hd,λl H2 h2 s2=>⟨c,_,(st.ext s1).ext s2,h2,λu H3 h3 s3=>?_⟩⟩⟩;have s03:=(s1.trans s2).trans s3;cases d with
 |lst ds=>
  obtain⟨p,vs,rfl,hq,rr⟩:=(r1.same (s2.trans s3)).lst;exact .inl ⟨p,vs,rfl,hq,λp' ly=>.inr ⟨p',_,H3,rfl,rfl,ly,λH4 s4 fz=>k _ _ H4 h3 (s03.trans s4) (.lst fz ((As l u rr).keep (.of s4)))⟩⟩
 |tup ds=>
  obtain⟨p,vs,rfl,hq,rr⟩:=(r1.same (s2.trans s3)).tup;refine .inr ⟨p,vs,rfl,f8.of hq,by rw[<-rr.length];exact h3.1,λp' ly=>.inl ?_⟩;exact k _ _ _ h3.2 (s03.trans (upd_new ly)) (.tup gN ((As l u rr).keep (.of (upd_new ly))))
 |_=>exact h3.elim
def zW:D->(D->Prop)->Prop:=λd Q=>match d with
 | .lst ds=>Q (.lst ds)
 | .tup ds=>Q (.lst ds)
 |_=>False
theorem boot_list:bootBuiltins "list" = ψ (.type "list"):=ι
theorem boot_tuple:bootBuiltins "tuple" = ψ (.type "tuple"):=ι
theorem WE(hm:X.mg "list" = ξ)(h:DB X e te)(hg:Gl X "list":=by rfl)(hs:starEach [e] X.env=[(χ,eval e X.env)]:=by rfl)(hn:starEach [] X.env=[]:=by rfl):DE X (.Call (.Name "list" p) [e] [] pos) (r1 zW te):=by
 refine PE.mono (PE.frz (MO YC hg hm boot_list (sG h hs hn) η η (by rw[hs,hn]) (by rw[hn];rfl))) λZ H Q hh=>jY hh λc P st q k=>⟨c,_,st,q,λd v H1 hd s1 r=>?_⟩;unfold zW at hd;split at hd
 ·obtain⟨p,vs,rfl,hq,rr⟩:=r.lst;exact⟨p,vs,rfl,.inl hq,λp' ly=>.inr ⟨p',_,H1,rfl,rfl,ly,λH4 s4 fz=>k _ _ H4 hd (s1.trans s4) (.lst fz (rr.keep (.of s4)))⟩⟩
 ·obtain⟨p,vs,rfl,hq,rr⟩:=r.tup;exact⟨p,vs,rfl,.inr (f8.of hq),λp' ly=>.inr ⟨p',_,H1,rfl,rfl,ly,λH4 s4 fz=>k _ _ H4 hd (s1.trans s4) (.lst fz (rr.keep (.of s4)))⟩⟩
 ·exact hd.elim
def QZ:D->(D->Prop)->Prop:=λd Q=>match d with
 | .lst ds=>Q (.tup ds)
 | .tup ds=>Q (.tup ds)
 |_=>False
theorem Az(hm:X.mg "tuple" = ξ)(h:DB X e te)(hg:Gl X "tuple":=by rfl)(hs:starEach [e] X.env=[(χ,eval e X.env)]:=by rfl)(hn:starEach [] X.env=[]:=by rfl):DE X (.Call (.Name "tuple" p) [e] [] pos) (r1 QZ te):=by
 refine PE.mono (MO UQ hg hm boot_tuple (sG h hs hn) η η (by rw[hs,hn]) (by rw[hn];rfl)) λZ H Q hh=>jY hh λc P st q k=>⟨c,_,st,q,λd v H1 hd s1 r=>?_⟩;unfold QZ at hd;split at hd
 ·obtain⟨p,vs,rfl,hq,rr⟩:=r.lst;exact⟨p,vs,rfl,.inl ⟨hq,λp' ly=>k _ _ _ hd (s1.trans (upd_new ly)) (.tup gN (rr.keep (.of (upd_new ly))))⟩⟩
 ·obtain⟨p,vs,rfl,hq,rr⟩:=r.tup;exact⟨p,vs,rfl,.inr ⟨f8.of hq,k _ _ H1 hd s1 (.tup hq rr)⟩⟩
 ·exact hd.elim
def NG:∀{its:ω aF},au (ns.map V.int) its->∃xs:ω (Int×Tok),its.toArray=intItems xs.toArray/\xs.map Ad=ns:=by
 induction ns with
 |nil=>intro its h;cases h;exact⟨[],by simp[intItems],rfl⟩
 |cons n ns ih=>
  intro its h;cases h with
  |cons a r=>
  obtain⟨t,rfl⟩:=a;obtain⟨xs,h1,h2⟩:=ih r;refine⟨(n,t)::xs,?_,by simp[h2]⟩;have h3:=Φ HX h1;simp[intItems] at h3⊢;exact h3
def ES{ys:ω (Int×Tok)}{ns:ω Int}(h:ys.map Ad=ns){i:Nat}(hi:i<ns.length):numAt ys.toArray i=ns[i]:=by
 subst h;have jx:i<ys.length:=by simpa using hi
 simp[numAt,jx]
theorem Kn(hc:X.calm=ζ):yA X (.builtin "max") (λxs H Q=>∃(p:Addr)(ns:ω Int),xs=[.ref p]/\iu X.K H p (ns.map V.int)/\ns≠[]/\∀M,M∈ns->(∀a∈ns,a<=M)->Q (.int M) H):=by
 intro Γ s Z H xs us Q I r h;obtain⟨p,ns,rfl,hq,gy,q⟩:=h;obtain⟨u,rfl,rx⟩:=vals1 r;cases rx;obtain⟨its,r',pl,hz⟩:=I.list hq;obtain⟨ys,h1,h2⟩:=NG r';rw[h1] at pl;have hl:ys.length=ns.length:=by rw[<-h2];simp
 have hp:0<ns.length:=jT.mpr gy;refine max_intList (I.ok.hd hc) pl.isList (by simpa [hl] using hp) λv h' tk hv hk=>?_;obtain⟨t,rfl⟩:=intItems_at hv;obtain⟨g1,g2⟩:=argBest_gt (numAt ys.toArray) (ys.toArray.size-1);have g3:argBest (λi j=>decide (numAt ys.toArray i > numAt ys.toArray j)) (ys.toArray.size-1)<ns.length:=by rw[<-hl];simp at g1⊢;lia
 refine⟨.int _,H,I.kept hk,⟨t,rfl⟩,q _ ?_ λa ha=>?_⟩
 ·rw[ES h2 g3];exact pZ g3
 ·obtain⟨j,hj,rfl⟩:=eB ha;rw[<-ES h2 hj];exact g2 j (by simp[hl];lia)
theorem Kq(hc:X.calm=ζ):yA X (.builtin "min") (λxs H Q=>∃(p:Addr)(ns:ω Int),xs=[.ref p]/\iu X.K H p (ns.map V.int)/\ns≠[]/\∀M,M∈ns->(∀a∈ns,M<=a)->Q (.int M) H):=by
 intro Γ s Z H xs us Q I r h;obtain⟨p,ns,rfl,hq,gy,q⟩:=h;obtain⟨u,rfl,rx⟩:=vals1 r;cases rx;obtain⟨its,r',pl,hz⟩:=I.list hq;obtain⟨ys,h1,h2⟩:=NG r';rw[h1] at pl;have hl:ys.length=ns.length:=by rw[<-h2];simp
 have hp:0<ns.length:=jT.mpr gy;refine min_intList (I.ok.hd hc) pl.isList (by simpa [hl] using hp) λv h' tk hv hk=>?_;obtain⟨t,rfl⟩:=intItems_at hv;obtain⟨g1,g2⟩:=argBest_lt (numAt ys.toArray) (ys.toArray.size-1);have g3:argBest (λi j=>decide (numAt ys.toArray i<numAt ys.toArray j)) (ys.toArray.size-1)<ns.length:=by rw[<-hl];simp at g1⊢;lia
 refine⟨.int _,H,I.kept hk,⟨t,rfl⟩,q _ ?_ λa ha=>?_⟩
 ·rw[ES h2 g3];exact pZ g3
 ·obtain⟨j,hj,rfl⟩:=eB ha;rw[<-ES h2 hj];exact g2 j (by simp[hl];lia)
def R8:D->(D->Prop)->Prop:=λd Q=>match d with
 | .lst ds=>∃ns:List Int,ds=ns.map D.int/\Q (.int ns.sum)
 |_=>False
def Ov:D->(D->Prop)->Prop:=λd Q=>match d with
 | .lst ds=>∃ns:List Int,ds=ns.map D.int/\ns≠[]/\∀M,M∈ns->(∀a∈ns,a<=M)->Q (.int M)
 |_=>False
def Ir:D->(D->Prop)->Prop:=λd Q=>match d with
 | .lst ds=>∃ns:List Int,ds=ns.map D.int/\ns≠[]/\∀M,M∈ns->(∀a∈ns,M<=a)->Q (.int M)
 |_=>False
theorem boot_max:bootBuiltins "max" = ψ (.builtin "max"):=ι
theorem boot_min:bootBuiltins "min" = ψ (.builtin "min"):=ι
theorem Ty(hm:X.mg "max" = ξ)(hc:X.calm=ζ)(h:DB X e te)(hg:Gl X "max":=by rfl)(hs:starEach [e] X.env=[(χ,eval e X.env)]:=by rfl)(hn:starEach [] X.env=[]:=by rfl):DE X (.Call (.Name "max" p) [e] [] pos) (r1 Ov te):=by
 refine PE.mono (yN (Kn hc) hg hm boot_max (sG h hs hn) η η (by rw[hs,hn]) (by rw[hn];rfl)) λZ H Q hh=>jY hh λc P st q k=>⟨c,_,st,q,λd v H1 hd s1 r=>?_⟩;unfold Ov at hd;split at hd
 ·obtain⟨ns,rfl,gy,hd⟩:=hd;obtain⟨p,vs,rfl,hq,rr⟩:=r.lst;rw[rr.ints_inv] at hq;exact⟨p,ns,rfl,hq,gy,λM m1 m2=>k _ _ H1 (hd M m1 m2) s1 (.int _)⟩
 ·exact hd.elim
theorem Iv(hm:X.mg "min" = ξ)(hc:X.calm=ζ)(h:DB X e te)(hg:Gl X "min":=by rfl)(hs:starEach [e] X.env=[(χ,eval e X.env)]:=by rfl)(hn:starEach [] X.env=[]:=by rfl):DE X (.Call (.Name "min" p) [e] [] pos) (r1 Ir te):=by
 refine PE.mono (yN (Kq hc) hg hm boot_min (sG h hs hn) η η (by rw[hs,hn]) (by rw[hn];rfl)) λZ H Q hh=>jY hh λc P st q k=>⟨c,_,st,q,λd v H1 hd s1 r=>?_⟩;unfold Ir at hd;split at hd
 ·obtain⟨ns,rfl,gy,hd⟩:=hd;obtain⟨p,vs,rfl,hq,rr⟩:=r.lst;rw[rr.ints_inv] at hq;exact⟨p,ns,rfl,hq,gy,λM m1 m2=>k _ _ H1 (hd M m1 m2) s1 (.int _)⟩
 ·exact hd.elim
end
section
variable{te:RE}
def O4(te:RE):RA:=λa Q=>te a λd=>match d with
 | .lst ds=>Q ds.reverse
 |_=>False
theorem boot_reversed:bootBuiltins "reversed" = ψ (.type "reversed"):=ι
end
structure Sub(prog:cC)(w:cZ)(I a:Addr)(vs:List aF)(T:Nat->Heap->Prop):Prop where
 stay:∀{k:Nat}{h h':Heap},T k h->(∀o,h.get? I=ψ o->h'.get? I=ψ o)->(∀o,h.get? a=ψ o->h'.get? a=ψ o)->T k h'
 lt:∀{k:Nat}{h:Heap},T k h->I<h.objs.size/\a<h.objs.size
 item:∀{A:dJ}{E:aF->aH->Prop}{s:aH}{k:Nat}{x:aF}{Q:aF->aH->Prop},T k s.heap->vs[k]?=ψ x->(∀h',T (k+1) h'->mO I s.heap h'->Q x {s with heap:=h'}) ->
  Δ prog w A (dM (.ref I)) Q E s
 done:∀{A:dJ}{E:aF->aH->Prop}{s:aH}{k:Nat}{Q:aF->aH->Prop},A.handled=ξ->T k s.heap->vs[k]?=ξ ->
  (∀h' e,MY I s.heap h'->(∃o,h'.get? e=ψ o/\o.cls = .type "StopIteration")->E (.ref e) {s with heap:=h'})->Δ prog w A (dM (.ref I)) Q E s
def Sm(ne:a≠I):Sub prog w I a vs (λk h=>h.IsListIter I a k/\h.IsList a vs.toArray) where
 stay:=λt e1 e2=>⟨t.1.at e1,t.2.at e2⟩
 lt:=λt=>by
  obtain⟨⟨o,e,_⟩,o2,e2,_⟩:=t;exact⟨bC e,bC e2⟩
 item:=λt e q=>wpAny_nextOf_list_item t.1 t.2 (by simpa using e) λh' t' sb=>q h' ⟨t',t.2.extBut sb.extBut ne⟩ sb
 done:=λhh t e q=>wpAny_nextOf_list_end hh t.1 t.2 (by simpa using e) q
section
variable{prog:cC}{w:cZ}{A:dJ}{E:aF->aH->Prop}{s:aH}
theorem Gj{I a:Addr}{k:Nat}{vs:ω aF}{x:aF}{Q:aF->aH->Prop}(hi:s.heap.IsTupleIter I a k)(ht:s.heap.IsTuple a vs.toArray)(hx:vs[k]?=ψ x)
  (q:∀h',h'.IsTupleIter I a (k+1)->mO I s.heap h'->Q x {s with heap:=h'}):Δ prog w A (dM (.ref I)) Q E s:=by
 obtain⟨o,eo,co,dO⟩:=id hi;obtain⟨t,et,_,nt,dT⟩:=ht;unfold dM;apply aA;apply iJ (name:=mU "__next__") hi.typeIs F.slot_tuple_iterator_next;apply iR F.slot_tuple_iterator_next hi.typeIs F.entry_tuple_iterator_next ?_ (F.args_tuple_iterator_next_1 _);show wpAny _ _ (field (.ref I) 0 >>= _) _ _ s;apply aA;apply gE eo dO (x:=.ref a) rfl;show wpAny _ _ (if(gD a == gK)=ζ then _ else _) _ _ s;rw[υ (by exact cQ)];show wpAny _ _ (field (.ref I) 1 >>= _) _ _ s;apply aA;apply gE eo dO (x:=.int k 0) rfl;show wpAny _ _ (seqItems? (.ref a) >>= _) _ _ s;have ou:vs.toArray[k]?=ψ x:=by simpa using hx
 apply aA;apply fX et dT;simp only[pD,ou];apply aA;apply EI eo dO δ;apply aN;refine⟨x,rfl,aN (q _ ⟨_,fE _ eo (Obj.isFreed_of_fields (GZ dO _)),(Obj.cls_mapFields ..).trans co,?_⟩ (iB ..))⟩;rw[GZ dO];simp[rawInt]
theorem SJ{I a:Addr}{k:Nat}{vs:ω aF}{Q:aF->aH->Prop}(hh:A.handled=ξ)(hi:s.heap.IsTupleIter I a k)(ht:s.heap.IsTuple a vs.toArray)(hx:vs[k]?=ξ)
  (q:∀h' e,MY I s.heap h'->(∃o,h'.get? e=ψ o/\o.cls = .type "StopIteration")->E (.ref e) {s with heap:=h'}):Δ prog w A (dM (.ref I)) Q E s:=by
 obtain⟨o,eo,co,dO⟩:=id hi;obtain⟨t,et,_,nt,dT⟩:=ht;unfold dM;apply aA;apply iJ (name:=mU "__next__") hi.typeIs F.slot_tuple_iterator_next;apply iR F.slot_tuple_iterator_next hi.typeIs F.entry_tuple_iterator_next ?_ (F.args_tuple_iterator_next_1 _);show wpAny _ _ (field (.ref I) 0 >>= _) _ _ s;apply aA;apply gE eo dO (x:=.ref a) rfl;show wpAny _ _ (if(gD a == gK)=ζ then _ else _) _ _ s;rw[υ (by exact cQ)];show wpAny _ _ (field (.ref I) 1 >>= _) _ _ s;apply aA;apply gE eo dO (x:=.int k 0) rfl;show wpAny _ _ (seqItems? (.ref a) >>= _) _ _ s;have ou:vs.toArray[k]?=ξ:=by simpa using hx
 apply aA;apply fX et dT;simp only[pD,ou];apply aA;apply wF;apply aA;apply EI eo dO δ;show wpAny _ _ (newExc (.type "StopIteration") [] >>= _) _ _ _;apply aA;simp only[newExc,newTuple];apply aA;refine gB ?_ (by size_fits);refine aA (m:=firstArgMember _ _) ?_;refine rQ (a:=gK) (by first |rfl | (simp only[firstArgMember];rfl)) ?_;refine gB ?_ (by size_fits);simp only[raiseNew];apply aA;apply VL
 first |rw[show A.in1.handled=ξ from hh] |rw[hh]
 apply wpAny_throw;exact q _ _ (((iB ..).extBut.push _).push _) ⟨_,cD _ rfl,rfl⟩
end
def Wg(ne:a≠I):Sub prog w I a vs (λk h=>h.IsTupleIter I a k/\h.IsTuple a vs.toArray) where
 stay:=λt e1 e2=>⟨t.1.at e1,t.2.at e2⟩
 lt:=λt=>by
  obtain⟨⟨o,e,_⟩,o2,e2,_⟩:=t;exact⟨bC e,bC e2⟩
 item:=λt e q=>Gj t.1 t.2 e λh' t' sb=>q h' ⟨t',t.2.at λo x=>sb.extBut _ o ne x⟩ sb
 done:=λhh t e q=>SJ hh t.1 t.2 e q
abbrev qP(h:Heap)(z TI TO:Addr)(f0 f1:aF):Prop:=h.get? z=ψ {cls:=.type "zip",dict:=ξ,data:=.fields #[f0,f1,.bool χ,.ref TI,.ref TO],slots:=#[]}
def Yh(h:Heap)(z TI TO i1 i2:Addr):Prop:=qP h z TI TO .none (.bool χ)\/∃(T:Addr)(b:Bool)(o:Obj),qP h z TI TO (rawInt T) (.bool b)/\(h.get? T=ψ o/\o.cls = .type "tuple")/\T≠z/\T≠i1/\T≠i2
structure kf(z TI TO i1 i2 a1 a2:Addr):Prop where
 TIz:TI≠z
 TOz:TO≠z
 i1z:i1≠z
 i2z:i2≠z
 a1z:a1≠z
 a2z:a2≠z
 IO:TI≠TO
 I1:TI≠i1
 I2:TI≠i2
 O1:TO≠i1
 O2:TO≠i2
 i12:i1≠i2
 a1O:a1≠TO
 a2O:a2≠TO
 a1i1:a1≠i1
 a1i2:a1≠i2
 a2i1:a2≠i1
 a2i2:a2≠i2
section
variable{prog:cC}{w:cZ}{A:dJ}{E:aF->aH->Prop}{s:aH}{z TI TO i1 i2 a1 a2:Addr}{vs us:ω aF}{T1 T2:Nat->Heap->Prop}
structure i_(z TI TO i1 i2:Addr)(T1 T2:Nat->Heap->Prop)(k:Nat)(h:Heap):Prop where
 out:Yh h z TI TO i1 i2
 its:IsPair h TI (.ref i1) (.ref i2)
 own:∃a b,IsPair h TO a b
 one:T1 k h
 two:T2 k h
theorem UE(D:kf z TI TO i1 i2 a1 a2)(S1:Sub prog w i1 a1 vs T1)(S2:Sub prog w i2 a2 us T2){k:Nat}{x y a b:aF}{Q:aF->aH->Prop}(hz:qP s.heap z TI TO .none (.bool χ))(hI:IsPair s.heap TI (.ref i1) (.ref i2))(hO:IsPair s.heap TO a b)
  (t1:T1 k s.heap) (t2:T2 k s.heap) (ex:vs[k]?=ψ x) (ey:us[k]?=ψ y)
  (q:∀h',i_ z TI TO i1 i2 T1 T2 (k+1) h'->IsPair h' s.z x y->h'.objs.size=s.z+1->(∀c o,c≠z->c≠TO->c≠i1->c≠i2->s.heap.get? c=ψ o->h'.get? c=ψ o)->Q (.ref s.z) {s with heap:=h'}):
  Δ prog w A (Builtin.«zip.__next__» ⟨[.ref z],[]⟩) (λfin s'=>∃v,fin = .done (.ret v)/\Q v s') E s:=by
 show wpAny _ _ (field (.ref z) 2 >>= _) _ _ _;apply aA;apply gE hz rfl (x:=.bool χ) rfl;show wpAny _ _ (field (.ref z) 3 >>= _) _ _ _;apply aA;apply gE hz rfl (x:=.ref TI) rfl;apply aA;apply fX hI rfl;show wpAny _ _ (eQ (.ref z) >>= _) _ _ _;apply aA;unfold eQ;apply aA;apply gE hz rfl (x:=.none) rfl;apply aN;simp only[if_true];apply aA;apply wF;apply aA;apply gE hz rfl (x:=.ref TO) rfl;apply aA;refine kA hz δ λh₁ p_ ki=>?_;replace p_:qP h₁ z TI TO .ellipsis (.bool χ):=p_;apply aA;simp only[LC,NZ,oK,vQ];apply aA;apply aA;apply xZ;show wpAny _ _ (dM (.ref i1) >>= _) _ _ _;apply aA;refine S1.item (S1.stay t1 (λo e=>ki.extBut _ o D.i1z e) λo e=>ki.extBut _ o D.a1z e) ex λh₂ O_ qb=>aN ?_;have zd:IsPair h₂ TO a b:=qb.extBut _ _ D.O1 (ki.extBut _ _ D.TOz hO);apply aA;apply fX zd rfl;apply aA;refine tX zd λh₃ hO3 oh=>?_;replace hO3:IsPair h₃ TO x b:=hO3;apply aA;apply nY;apply aN;apply aA;apply aA;apply xZ;show wpAny _ _ (dM (.ref i2) >>= _) _ _ _;have g_:∀c o,c≠z->c≠i1->c≠TO->s.heap.get? c=ψ o->h₃.get? c=ψ o:=λc o c1 c2 c3 e=>oh.extBut _ _ c3 (qb.extBut _ _ c2 (ki.extBut _ _ c1 e));apply aA;refine S2.item (S2.stay t2 (λo e=>g_ _ o D.i2z D.i12.symm D.O2.symm e) λo e=>g_ _ o D.a2z D.a2i1 D.a2O e) ey λh₄ t24 yi=>aN ?_;have hO4:IsPair h₄ TO x b:=yi.extBut _ _ D.O2 hO3;apply aA;apply fX hO4 rfl;apply aA;refine tX hO4 λh₅ hO5 t8=>?_;replace hO5:IsPair h₅ TO x y:=hO5;apply aA;apply nY;apply aN;apply aN;apply aA;apply fX hO5 rfl;apply aA;refine EH ?_;have z5:h₅.objs.size=s.z:=by rw[t8.1,yi.1,oh.1,qb.1,ki.1]
 have hz5:qP h₅ z TI TO .ellipsis (.bool χ):=t8.extBut _ _ D.TOz.symm (yi.extBut _ _ D.i2z.symm (oh.extBut _ _ D.TOz.symm (qb.extBut _ _ D.i1z.symm p_)));have vv:∀c o,c≠z->c≠TO->c≠i1->c≠i2->s.heap.get? c=ψ o->h₅.get? c=ψ o:=λc o c1 c2 c3 c4 e=>t8.extBut _ _ c2 (yi.extBut _ _ c4 (g_ c o c1 c3 c2 e));have t15:T1 (k+1) h₅:=S1.stay O_ (λo e=>t8.extBut _ _ D.O1.symm (yi.extBut _ _ D.i12 (oh.extBut _ _ D.O1.symm e))) λo e=>t8.extBut _ _ D.a1O (yi.extBut _ _ D.a1i2 (oh.extBut _ _ D.a1O e));have t25:T2 (k+1) h₅:=S2.stay t24 (λo e=>t8.extBut _ _ D.O2.symm e) λo e=>t8.extBut _ _ D.a2O e;have zl:z<h₅.objs.size:=bC hz5;show wpAny _ _ (qN (.ref z) (.ref h₅.objs.size) >>= _) _ _ _;apply aA;unfold qN;have hz6:qP (h₅.push {cls:=.type "tuple",data:=.seq #[x,y]}) z TI TO .ellipsis (.bool χ):=aU _ hz5;apply aA;refine kA hz6 δ λh₇ hz7 sb7=>?_;replace hz7:qP h₇ z TI TO (rawInt h₅.objs.size) (.bool χ):=hz7;refine kA hz7 δ λh₈ hz8 sb8=>?_;replace hz8:qP h₈ z TI TO (rawInt h₅.objs.size) (.bool χ):=hz8;have up:∀c o,c≠z->h₅.get? c=ψ o->h₈.get? c=ψ o:=λc o c1 e=>sb8.extBut _ _ c1 (sb7.extBut _ _ c1 (aU _ e));have hT8:IsPair h₈ h₅.objs.size x y:=sb8.extBut _ _ (fC zl) (sb7.extBut _ _ (fC zl) (cD _ rfl));have s8:h₈.objs.size=h₅.objs.size+1:=by rw[sb8.1,sb7.1,gU]
 apply aN;refine⟨_,rfl,?_⟩;show Q (.ref h₅.objs.size) _;rw[z5] at hT8 s8 hz8⊢;exact q h₈ ⟨.inr ⟨_,_,_,hz8,⟨hT8,rfl⟩,fC (bC hz),fC (S1.lt t1).1,fC (S2.lt t2).1⟩,up _ _ D.TIz (vv _ _ D.TIz D.IO D.I1 D.I2 hI),⟨_,_,up _ _ D.TOz hO5⟩,S1.stay t15 (λo e=>up _ o D.i1z e) (λo e=>up _ o D.a1z e),S2.stay t25 (λo e=>up _ o D.i2z e) λo e=>up _ o D.a2z e⟩ hT8 s8 λc o c1 c2 c3 c4 e=>up c o c1 (vv c o c1 c2 c3 c4 e)
def Yi(e:s.heap.get? a=ψ o)(q:Q (ψ o) s):Δ prog w A (loadIfAlive a) Q E s:=by
 have q':Q (s.heap.get? a) s:=e▸q;exact λ_ _ _=>q'
theorem XL{T:Addr}{b:Bool}{o:Obj}{Q:Bool->aH->Prop}(hz:qP s.heap z TI TO (rawInt T) (.bool b))(hT:s.heap.get? T=ψ o)
  (q:∀h',qP h' z TI TO (rawInt T) (.bool ζ)->mO z s.heap h'->Q χ {s with heap:=h'}):Δ prog w A (eQ (.ref z)) Q E s:=by
 unfold eQ;apply aA;apply gE hz rfl (x:=rawInt T) rfl;show wpAny _ _ (loadIfAlive ((T:Int).toNat) >>= _) _ _ _;apply aA;refine Yi (a:=((T:Int).toNat)) (o:=o) (by simpa using hT) ?_;show wpAny _ _ (field (.ref z) 1 >>= _) _ _ _;apply aA;apply gE hz rfl (x:=.bool b) rfl;cases b with
 |false=>
  show wpAny _ _ (setField (.ref z) 1 (.bool ζ) >>= _) _ _ _;apply aA;refine kA hz δ λh₁ p_ ki=>aN (q h₁ p_ ki)
 |true=>
  show wpAny _ _ (pure χ) _ _ _;exact aN (q s.heap hz ⟨rfl,λ_ _=>rfl⟩)
def UF(D:kf z TI TO i1 i2 a1 a2)(S1:Sub prog w i1 a1 vs T1)(S2:Sub prog w i2 a2 us T2){k:Nat}{T:Addr}{f:Bool}{o:Obj}{x y a b:aF}{Q:aF->aH->Prop}(hz:qP s.heap z TI TO (rawInt T) (.bool f))(hT:s.heap.get? T=ψ o/\o.cls = .type "tuple")
  (hTz:T≠z) (hT1:T≠i1) (hT2:T≠i2) (hI:IsPair s.heap TI (.ref i1) (.ref i2)) (hO:IsPair s.heap TO a b) (t1:T1 k s.heap) (t2:T2 k s.heap) (ex:vs[k]?=ψ x) (ey:us[k]?=ψ y)
  (q:∀h',i_ z TI TO i1 i2 T1 T2 (k+1) h'->IsPair h' s.z x y->h'.objs.size=s.z+1->(∀c o,c≠z->c≠TO->c≠i1->c≠i2->s.heap.get? c=ψ o->h'.get? c=ψ o)->Q (.ref s.z) {s with heap:=h'}):
  Δ prog w A (Builtin.«zip.__next__» ⟨[.ref z],[]⟩) (λfin s'=>∃v,fin = .done (.ret v)/\Q v s') E s:=by
 show wpAny _ _ (field (.ref z) 2 >>= _) _ _ _;apply aA;apply gE hz rfl (x:=.bool χ) rfl;show wpAny _ _ (field (.ref z) 3 >>= _) _ _ _;apply aA;apply gE hz rfl (x:=.ref TI) rfl;apply aA;apply fX hI rfl;show wpAny _ _ (eQ (.ref z) >>= _) _ _ _;apply aA;refine XL hz hT.1 λh₁ p_ ki=>?_;simp only[aS,if_false];rw[<-rB];apply aA;simp only[oK,vQ];apply aA;apply aA;apply gM;show wpAny _ _ (dM (.ref i1) >>= _) _ _ _;apply aA;refine S1.item (S1.stay t1 (λo e=>ki.extBut _ o D.i1z e) λo e=>ki.extBut _ o D.a1z e) ex λh₂ O_ qb=>aN ?_;apply aN;apply aA;apply aA;apply gM;show wpAny _ _ (dM (.ref i2) >>= _) _ _ _;have kg:∀c o,c≠z->c≠i1->s.heap.get? c=ψ o->h₂.get? c=ψ o:=λc o c1 c2 e=>qb.extBut _ _ c2 (ki.extBut _ _ c1 e);apply aA;refine S2.item (S2.stay t2 (λo e=>kg _ o D.i2z D.i12.symm e) λo e=>kg _ o D.a2z D.a2i1 e) ey λh₃ t23 oh=>aN ?_;apply aN;apply aN;have g_:∀c o,c≠z->c≠i1->c≠i2->s.heap.get? c=ψ o->h₃.get? c=ψ o:=λc o c1 c2 c3 e=>oh.extBut _ _ c3 (kg c o c1 c2 e);have z3:h₃.objs.size=s.z:=by rw[oh.1,qb.1,ki.1]
 have hz3:qP h₃ z TI TO (rawInt T) (.bool ζ):=oh.extBut _ _ D.i2z.symm (qb.extBut _ _ D.i1z.symm p_);show wpAny _ _ (newTuple [x,y] >>= _) _ _ _;apply aA;refine EH ?_;apply aN;refine⟨_,rfl,?_⟩;show Q (.ref h₃.objs.size) _;have up:∀c o,h₃.get? c=ψ o->(h₃.push {cls:=.type "tuple",data:=.seq #[x,y]}).get? c=ψ o:=λc o e=>aU _ e;have hp:IsPair (h₃.push {cls:=.type "tuple",data:=.seq #[x,y]}) h₃.objs.size x y:=cD _ rfl;have sz:(h₃.push {cls:=.type "tuple",data:=.seq #[x,y]}).objs.size=h₃.objs.size+1:=gU ..;have zs:i_ z TI TO i1 i2 T1 T2 (k+1) (h₃.push {cls:=.type "tuple",data:=.seq #[x,y]}):=⟨.inr ⟨T,ζ,o,up _ _ hz3,⟨up _ _ (g_ _ _ hTz hT1 hT2 hT.1),hT.2⟩,hTz,hT1,hT2⟩,up _ _ (g_ _ _ D.TIz D.I1 D.I2 hI),⟨_,_,up _ _ (g_ _ _ D.TOz D.O1 D.O2 hO)⟩,
  S1.stay O_ (λo e=>up _ o (oh.extBut _ _ D.i12 e)) (λo e=>up _ o (oh.extBut _ _ D.a1i2 e)),S2.stay t23 (λo e=>up _ o e) λo e=>up _ o e⟩
 rw[z3] at hp sz⊢;exact q _ zs hp sz λc o c1 c2 c3 c4 e=>up c o (g_ c o c1 c3 c4 e)
def Sy(D:kf z TI TO i1 i2 a1 a2)(S1:Sub prog w i1 a1 vs T1)(S2:Sub prog w i2 a2 us T2)(st:i_ z TI TO i1 i2 T1 T2 k s.heap)(ex:vs[k]?=ψ x)(ey:us[k]?=ψ y)
  (q:∀h',i_ z TI TO i1 i2 T1 T2 (k+1) h'->IsPair h' s.z x y->h'.objs.size=s.z+1->(∀c o,c≠z->c≠TO->c≠i1->c≠i2->s.heap.get? c=ψ o->h'.get? c=ψ o)->Q (ψ (.ref s.z)) {s with heap:=h'}):
  Δ prog w A (pyNext (.ref z)) Q E s:=by
 obtain⟨a,b,hO⟩:=st.own;have ty:s.TypeIs (.ref z) "zip":=by rcases st.out with hz | ⟨T,f,o,hz,_⟩ <;> exact⟨_,hz,rfl⟩
 unfold pyNext;apply aA;apply xX;apply iJ (name:=mU "__next__") ty F.slot_zip_next;refine iR F.slot_zip_next ty F.entry_zip_next ?_ (F.args_zip_next_1 _);rcases st.out with hz | ⟨T,f,o,hz,hT,n1,n2,n3⟩
 ·exact UE D S1 S2 hz st.its hO st.one st.two ex ey λh' b1 b2 b3 b4=>aN (q h' b1 b2 b3 b4)
 ·exact UF D S1 S2 hz hT n1 n2 n3 st.its hO st.one st.two ex ey λh' b1 b2 b3 b4=>aN (q h' b1 b2 b3 b4)
theorem Ta(hh:A.handled=ξ)(D:kf z TI TO i1 i2 a1 a2)(S1:Sub prog w i1 a1 vs T1)(S2:Sub prog w i2 a2 us T2)(st:i_ z TI TO i1 i2 T1 T2 k s.heap)(ee:vs[k]?=ξ\/us[k]?=ξ)
  (q:∀h' e,(∀c o,c≠z->c≠TO->c≠i1->c≠i2->s.heap.get? c=ψ o->h'.get? c=ψ o)->(∃o,h'.get? e=ψ o/\o.cls = .type "StopIteration")->E (.ref e) {s with heap:=h'}):
  Δ prog w A (Builtin.«zip.__next__» ⟨[.ref z],[]⟩) Q E s:=by
 obtain⟨a,b,hO⟩:=st.own;have t1:=st.one;have t2:=st.two;have hI:=st.its;rcases st.out with hz | ⟨T,f,o,hz,hT,n1,n2,n3⟩
 ·show wpAny _ _ (field (.ref z) 2 >>= _) _ _ _;apply aA;apply gE hz rfl (x:=.bool χ) rfl;show wpAny _ _ (field (.ref z) 3 >>= _) _ _ _;apply aA;apply gE hz rfl (x:=.ref TI) rfl;apply aA;apply fX hI rfl;show wpAny _ _ (eQ (.ref z) >>= _) _ _ _;apply aA;unfold eQ;apply aA;apply gE hz rfl (x:=.none) rfl;apply aN;simp only[if_true];apply aA;apply wF;apply aA;apply gE hz rfl (x:=.ref TO) rfl;apply aA;refine kA hz δ λh₁ p_ ki=>?_;replace p_:qP h₁ z TI TO .ellipsis (.bool χ):=p_;apply aA;simp only[LC,NZ,oK,vQ];apply aA;apply aA;apply xZ;show wpAny _ _ (dM (.ref i1) >>= _) _ _ _;have OK:=S1.stay t1 (λo e=>ki.extBut _ o D.i1z e) λo e=>ki.extBut _ o D.a1z e;cases ex:vs[k]? with
  |none=>
   apply aA;refine S1.done (s:={s with heap:=h₁}) hh OK ex λh₂ e xb he=>?_;obtain⟨oe,h2,ce⟩:=he;have hz2:qP h₂ z TI TO .ellipsis (.bool χ):=xb _ _ D.i1z.symm p_;have nez:e≠z:=λy=>(by subst y;rw[hz2] at h2;cases h2;simp at ce);refine kA hz2 δ λh₃ _ oh=>q h₃ e (λc o c1 _ c3 _ y=>oh.extBut _ _ c1 (xb _ _ c3 (ki.extBut _ _ c1 y))) ⟨oe,oh.extBut _ _ nez h2,ce⟩
  |some x=>
   have ey:us[k]?=ξ:=(by rcases ee with h |h;rw[ex] at h;cases h;exact h);apply aA;refine S1.item OK ex λh₂ O_ qb=>aN ?_;have zd:IsPair h₂ TO a b:=qb.extBut _ _ D.O1 (ki.extBut _ _ D.TOz hO);apply aA;apply fX zd rfl;apply aA;refine tX zd λh₃ hO3 oh=>?_;apply aA;apply nY;apply aN;apply aA;apply aA;apply xZ;show wpAny _ _ (dM (.ref i2) >>= _) _ _ _;have g_:∀c o,c≠z->c≠i1->c≠TO->s.heap.get? c=ψ o->h₃.get? c=ψ o:=λc o c1 c2 c3 e=>oh.extBut _ _ c3 (qb.extBut _ _ c2 (ki.extBut _ _ c1 e));apply aA;refine S2.done (s:={s with heap:=h₃}) hh (S2.stay t2 (λo e=>g_ _ o D.i2z D.i12.symm D.O2.symm e) λo e=>g_ _ o D.a2z D.a2i1 D.a2O e) ey λh₄ e xb he=>?_;obtain⟨oe,h2,ce⟩:=he;have hz4:qP h₄ z TI TO .ellipsis (.bool χ):=xb _ _ D.i2z.symm (oh.extBut _ _ D.TOz.symm (qb.extBut _ _ D.i1z.symm p_));have nez:e≠z:=λy=>(by subst y;rw[hz4] at h2;cases h2;simp at ce);refine kA hz4 δ λh₅ _ t8=>q h₅ e (λc o c1 c2 c3 c4 y=>t8.extBut _ _ c1 (xb _ _ c4 (g_ c o c1 c3 c2 y))) ⟨oe,t8.extBut _ _ nez h2,ce⟩
 ·show wpAny _ _ (field (.ref z) 2 >>= _) _ _ _;apply aA;apply gE hz rfl (x:=.bool χ) rfl;show wpAny _ _ (field (.ref z) 3 >>= _) _ _ _;apply aA;apply gE hz rfl (x:=.ref TI) rfl;apply aA;apply fX hI rfl;show wpAny _ _ (eQ (.ref z) >>= _) _ _ _;apply aA;refine XL hz hT.1 λh₁ p_ ki=>?_;simp only[aS,if_false];rw[<-rB];apply aA;simp only[oK,vQ];apply aA;apply aA;apply gM;show wpAny _ _ (dM (.ref i1) >>= _) _ _ _;have OK:=S1.stay t1 (λo e=>ki.extBut _ o D.i1z e) λo e=>ki.extBut _ o D.a1z e;cases ex:vs[k]? with
  |none=>
   apply aA;exact S1.done (s:={s with heap:=h₁}) hh OK ex λh₂ e xb he=>q h₂ e (λc o c1 _ c3 _ y=>xb _ _ c3 (ki.extBut _ _ c1 y)) he
  |some x=>
   have ey:us[k]?=ξ:=(by rcases ee with h |h;rw[ex] at h;cases h;exact h);apply aA;refine S1.item OK ex λh₂ O_ qb=>aN ?_;apply aN;apply aA;apply aA;apply gM;show wpAny _ _ (dM (.ref i2) >>= _) _ _ _;have kg:∀c o,c≠z->c≠i1->s.heap.get? c=ψ o->h₂.get? c=ψ o:=λc o c1 c2 e=>qb.extBut _ _ c2 (ki.extBut _ _ c1 e);apply aA;exact S2.done (s:={s with heap:=h₂}) hh (S2.stay t2 (λo e=>kg _ o D.i2z D.i12.symm e) λo e=>kg _ o D.a2z D.a2i1 e) ey λh₃ e xb he=>q h₃ e (λc o c1 c2 c3 c4 y=>xb _ _ c4 (kg c o c1 c3 y)) he
def Wv(hh:A.handled=ξ)(D:kf z TI TO i1 i2 a1 a2)(S1:Sub prog w i1 a1 vs T1)(S2:Sub prog w i2 a2 us T2)(st:i_ z TI TO i1 i2 T1 T2 k s.heap)(ee:vs[k]?=ξ\/us[k]?=ξ)
  (q:∀h',(∀c o,c≠z->c≠TO->c≠i1->c≠i2->s.heap.get? c=ψ o->h'.get? c=ψ o)->Q ξ {s with heap:=h'}):Δ prog w A (pyNext (.ref z)) Q E s:=by
 have ty:s.TypeIs (.ref z) "zip":=by rcases st.out with hz | ⟨T,f,o,hz,_⟩ <;> exact⟨_,hz,rfl⟩
 unfold pyNext;apply aA;apply xX;apply iJ (name:=mU "__next__") ty F.slot_zip_next;refine iR F.slot_zip_next ty F.entry_zip_next ?_ (F.args_zip_next_1 _);refine Ta (A:=A.in1) hh D S1 S2 st ee λh' e kp he=>?_;obtain⟨o,ho,hc⟩:=he;apply aA;refine tK (T:="StopIteration") (b:=ζ) ⟨o,ho,hc⟩ RY ?_;exact aN (q h' kp)
end
abbrev yK(c:String)(l:Addr):Obj:={cls:=.type c,data:=.fields #[.ref l,.int 0 0]}
abbrev zH1(c:String)(h:Heap)(l:Addr):Heap:=h.push (yK c l)
abbrev zH2(c d:String)(h:Heap)(l m:Addr):Heap:=(zH1 c h l).push (yK d m)
abbrev zH3(c d:String)(h:Heap)(l m:Addr):Heap:=(zH2 c d h l m).push {cls:=.type "tuple",data:=.seq #[.ref h.objs.size,.ref (zH1 c h l).objs.size]}
abbrev zH4(c d:String)(h:Heap)(l m:Addr):Heap:=(zH3 c d h l m).push {cls:=.type "tuple",data:=.seq #[.none,.none]}
abbrev xv(c d:String)(h:Heap)(l m:Addr):Heap:=(zH4 c d h l m).push {cls:=.type "zip",data:=.fields #[.none,.bool χ,.bool χ,.ref (zH2 c d h l m).objs.size,.ref (zH3 c d h l m).objs.size]}
abbrev Kk(c d:String)(l m:Addr)(P:Heap->Prop):Prop:=Meets (Builtin.«zip.__new__» ⟨[.type "zip",.ref l,.ref m],[]⟩) (λ_ R s=>P s.heap/\R (.ok (.ret (.ref (zH4 c d s.heap l m).objs.size))) {s with heap:=xv c d s.heap l m})
def Ww(l m:Addr)(xs ys:Array aF):Kk "list_iterator" "list_iterator" l m (λh=>h.IsList l xs/\h.IsList m ys):=
 .of_wp λprog w A R s h=>by
  obtain⟨hp,g,d,tk,os⟩:=s;obtain⟨⟨e1,e2⟩,h⟩:=h;have sz:=ZX;have f1:BU (mT ⟨hp,g,d,tk,os⟩) l xs:=e1;have f2:BU (mT ⟨hp.push (yK "list_iterator" l),g,d,tk,os⟩) m ys:=e2.at λo e=>aU _ e
  wp_walk using kR f1,kR f2
  exact⟨_,rfl,h⟩
def Wz(l m:Addr)(xs ys:Array aF):Kk "tuple_iterator" "tuple_iterator" l m (λh=>h.IsTuple l xs/\h.IsTuple m ys):=
 .of_wp λprog w A R s h=>by
  obtain⟨hp,g,d,tk,os⟩:=s;obtain⟨⟨e1,e2⟩,h⟩:=h;have sz:=ZX;have f1:zD (mT ⟨hp,g,d,tk,os⟩) l xs:=e1;have f2:zD (mT ⟨hp.push (yK "tuple_iterator" l),g,d,tk,os⟩) m ys:=e2.at λo e=>aU _ e
  wp_walk using lZ f1,lZ f2
  exact⟨_,rfl,h⟩
def Wy(l m:Addr)(xs ys:Array aF):Kk "tuple_iterator" "list_iterator" l m (λh=>h.IsTuple l xs/\h.IsList m ys):=
 .of_wp λprog w A R s h=>by
  obtain⟨hp,g,d,tk,os⟩:=s;obtain⟨⟨e1,e2⟩,h⟩:=h;have sz:=ZX;have f1:zD (mT ⟨hp,g,d,tk,os⟩) l xs:=e1;have f2:BU (mT ⟨hp.push (yK "tuple_iterator" l),g,d,tk,os⟩) m ys:=e2.at λo e=>aU _ e
  wp_walk using lZ f1,kR f2
  exact⟨_,rfl,h⟩
def Wx(l m:Addr)(xs ys:Array aF):Kk "list_iterator" "tuple_iterator" l m (λh=>h.IsList l xs/\h.IsTuple m ys):=
 .of_wp λprog w A R s h=>by
  obtain⟨hp,g,d,tk,os⟩:=s;obtain⟨⟨e1,e2⟩,h⟩:=h;have sz:=ZX;have f1:BU (mT ⟨hp,g,d,tk,os⟩) l xs:=e1;have f2:zD (mT ⟨hp.push (yK "list_iterator" l),g,d,tk,os⟩) m ys:=e2.at λo e=>aU _ e
  wp_walk using kR f1,lZ f2
  exact⟨_,rfl,h⟩
def Ni(h1:l<n)(h2:m<n):kf (n+4) (n+2) (n+3) n (n+1) l m:=by
 constructor <;> (intro e;first |lia | (simp only[Addr] at *;lia))
section
variable{prog:cC}{w:cZ}{A:dJ}{E:aF->aH->Prop}{s:aH}
theorem Kr{c d:String}(Z:Kk c d l m P)(hP:P s.heap)
  (q:∀h',qP h' (s.z+4) (s.z+2) (s.z+3) .none (.bool χ)->IsPair h' (s.z+2) (.ref s.z) (.ref (s.z+1))->IsPair h' (s.z+3) .none .none ->
   h'.get? s.z=ψ (yK c l)->h'.get? (s.z+1)=ψ (yK d m)->h'.objs.size=s.z+5->(∀b o,s.heap.get? b=ψ o->h'.get? b=ψ o)->Q (.ref (s.z+4)) {s with heap:=h'}):
  Δ prog w A (call (.type "zip") [.ref l,.ref m]) Q E s:=by
 refine callType_new F.called_zip η (F.typeCall_zip_2 _ _) (F.newCall_zip_2 _ _) (λobj=>F.args_object_init_3 obj _ _) F.entry_zip_new Z ⟨hP,?_⟩;have z1:(zH1 c s.heap l).objs.size=s.z+1:=gU ..;have z2:(zH2 c d s.heap l m).objs.size=s.z+2:=by rw[gU,z1]
 have z3:(zH3 c d s.heap l m).objs.size=s.z+3:=by rw[gU,z2]
 have z4:(zH4 c d s.heap l m).objs.size=s.z+4:=by rw[gU,z3]
 have z5:(xv c d s.heap l m).objs.size=s.z+5:=by rw[gU,z4]
 have up:∀{h:Heap}{o:Obj}{b:Addr}{u:Obj},h.get? b=ψ u->(h.push o).get? b=ψ u:=λe=>aU _ e;have g5:(xv c d s.heap l m).get? (zH4 c d s.heap l m).objs.size=ψ _:=cD _ rfl;have g4:(xv c d s.heap l m).get? (zH3 c d s.heap l m).objs.size=ψ _:=up (cD _ rfl);have g3:(xv c d s.heap l m).get? (zH2 c d s.heap l m).objs.size=ψ _:=up (up (cD _ rfl));have g2:(xv c d s.heap l m).get? (zH1 c s.heap l).objs.size=ψ _:=up (up (up (cD _ rfl)));have g1:(xv c d s.heap l m).get? s.z=ψ _:=up (up (up (up (cD _ rfl))));show _/\_;rw[z2,z3,z4] at g5;rw[z1,z2] at g3;rw[z3] at g4;rw[z1] at g2;rw[z4];exact⟨⟨_,g5,rfl⟩,q _ g5 g3 g4 g1 g2 z5 λb o x=>up (up (up (up (up x))))⟩
theorem RK{R:Result->aH->Prop}{S I:Addr}{n:Nat}{J F:ω aF->Heap->Prop}{s0:aH}(res:aF)(hn:n<=sizeLine)
  (stay:∀acc h h',J acc h->(∃o,h.get? S=ψ o/\o.cls = .type "list")->h'.objs.size=h.objs.size->(∀b o,b≠S->h.get? b=ψ o->h'.get? b=ψ o)->J acc h')
  (item:∀acc (s:aH) (o:Obj) (Q:Option aF->aH->Prop) (E:aF->aH->Prop),acc.length<n->J acc s.heap->s.heap.get? S=ψ o->(∀v h',J (acc++[v]) h'->h'.get? S=ψ o->Q (ψ v) {s with heap:=h'})->Δ prog w A.in1 (pyNext (.ref I)) Q E s)
  (done:∀acc (s:aH) (o:Obj) (Q:Option aF->aH->Prop) (E:aF->aH->Prop),acc.length=n->J acc s.heap->s.heap.get? S=ψ o->(∀h',F acc h'->h'.get? S=ψ o->Q ξ {s with heap:=h'})->Δ prog w A.in1 (pyNext (.ref I)) Q E s)
  (hR:∀h' acc c,acc.size=n->F acc.toList h'->h'.get? S=ψ {cls:=.type "list",dict:=ξ,data:=.seq acc c,slots:=#[]}->R (.ok (.ret res)) {s0 with heap:=h'}):
  ∀(k:Nat)(acc:Array aF)(h:Heap)(c:Nat),k=n-acc.size->acc.size<=n->J acc.toList h->h.get? S=ψ {cls:=.type "list",dict:=ξ,data:=.seq acc c,slots:=#[]} ->
   codeAny (model prog w) A (.builtin "list.extend.loop" ⟨[.ref S,.ref I,res],[]⟩) R {s0 with heap:=h}:=by
 intro k
 induction k with
 |zero=>
  intro acc h c hk hle hJ hS;refine iP wI ?_;rw[gG iS _];show wpAny _ A.in1 (pyNext (.ref I) >>= _) _ _ _;apply aA;refine done acc.toList {s0 with heap:=h} _ _ _ θ hJ hS λh' hF kr=>?_;exact aN (hR h' acc c ν hF kr)
 |succ k ih=>
  intro acc h c hk hle hJ hS;refine iP wI ?_;rw[gG iS _];show wpAny _ A.in1 (pyNext (.ref I) >>= _) _ _ _;apply aA;refine item acc.toList {s0 with heap:=h} _ _ _ θ hJ hS λv h' hJ' kr=>?_;show wpAny _ A.in1 (updateSeq S (·.push v) >>= _) _ _ _;have p8:acc.size<n:=ν
  have e1:(acc.push v).size=acc.size+1:=Array.size_push ..;apply aA;refine iQ kr rfl ?_ ν (by show(acc.push v).size<=sizeLine+1;lia);apply aN;refine⟨jP iS _,?_⟩;refine ih (acc.push v) _ _ ν ν (stay _ _ _ (by simpa using hJ') ⟨_,kr,rfl⟩ (iB ..).1 λb o hb e=>(dE _ _ (Ne.symm hb)).trans e) (fE _ kr rfl)
end
def Hy:typeLookup (.type "zip") "__len__" = pure ξ:=by rw[qZ,mE];kernel_rfl
def Eu:typeLookup (.type "zip") "__length_hint__" = pure ξ:=by rw[qZ,mE];kernel_rfl
section
variable{s:aH}{z TI TO i1 i2 a1 a2:Addr}{vs us:ω aF}{T1 T2:Nat->Heap->Prop}
structure wj(z TI TO i1 i2:Addr)(T1 T2:Nat->Heap->Prop)(vs us:List aF)(N:Nat)(fixed:Heap)(S:Addr)(acc:List aF)(h:Heap):Prop where
 st:i_ z TI TO i1 i2 T1 T2 acc.length h
 size:h.objs.size=N+acc.length
 refs:∀j,j<acc.length->acc[j]?=ψ (.ref (N+j))
 got:∀j,j<acc.length->∀x y,vs[j]?=ψ x->us[j]?=ψ y->IsPair h (N+j) x y
 kept:∀b o,b≠z->b≠TO->b≠i1->b≠i2->b≠S->fixed.get? b=ψ o->h.get? b=ψ o
structure rm(z TO i1 i2:Addr)(vs us:List aF)(N:Nat)(fixed:Heap)(S:Addr)(acc:List aF)(h:Heap):Prop where
 refs:∀j,j<acc.length->acc[j]?=ψ (.ref (N+j))
 got:∀j,j<acc.length->∀x y,vs[j]?=ψ x->us[j]?=ψ y->IsPair h (N+j) x y
 kept:∀b o,b≠z->b≠TO->b≠i1->b≠i2->b≠S->fixed.get? b=ψ o->h.get? b=ψ o
theorem UO(hh:A.handled=ξ)(D:kf z TI TO i1 i2 a1 a2)(S1:∀{prog w},Sub prog w i1 a1 vs T1)(S2:∀{prog w},Sub prog w i2 a2 us T2)(hl:vs.length=us.length)(hn:vs.length<=sizeLine)(st:i_ z TI TO i1 i2 T1 T2 0 s.heap)
  (q:∀h' acc c,acc.size=vs.length->rm z TO i1 i2 vs us (s.z+1) s.heap s.z acc.toList h'->h'.get? s.z=ψ {cls:=.type "list",dict:=ξ,data:=.seq acc c,slots:=#[]}->Q (.ref s.z) {s with heap:=h'}):
  Δ prog w A (call (.type "list") [.ref z]) Q E s:=by
 have zl:z<s.z:=by rcases st.out with hz | ⟨T,f,o,hz,_⟩ <;> exact bC hz
 have TIl:TI<s.z:=bC st.its;have Y_:TO<s.z:=by obtain⟨a,b,h⟩:=st.own;exact bC h
 obtain⟨i1l,a1l⟩:=(S1 (prog:=prog) (w:=w)).lt st.one;obtain⟨i2l,a2l⟩:=(S2 (prog:=prog) (w:=w)).lt st.two;refine QS (Q₁:=λobj s₁=>obj = .ref s.z/\s₁ = {s with heap:=s.heap.push {cls:=.type "list",data:=.seq #[]}}) F.called_list (F.typeCall_list_1 _) F.entry_list_init (UR _ ⟨rfl,rfl⟩) λobj s₁ h₁=>?_;obtain⟨rfl,rfl⟩:=h₁;have hS:(s.heap.push {cls:=.type "list",data:=.seq #[]}).get? s.z=ψ {cls:=.type "list",data:=.seq #[]}:=cD _ rfl;refine⟨⟨_,hS,rfl⟩,F.args_list_init_2 _ _,?_⟩;show wpAny _ _ (do let old <-nZ (.ref s.z);rK (.ref s.z) (λ_=>#[]);letGo old.toList.reverse;fY (.ref s.z) (.ref z) .none) _ _ _;apply aA;unfold nZ;apply aA;apply fX hS rfl;apply aN;show wpAny _ _ (updateSeq s.z (λ_=>#[]) >>= λ_=>letGo (#[]:Array aF).toList.reverse >>= λ_=>fY (.ref s.z) (.ref z) .none) _ _ _;apply aA;refine iQ hS rfl ?_;have x5:=fE (eG (λ_=>(#[]:Array aF))) hS rfl;have km:∀b o,b≠s.z->s.heap.get? b=ψ o->((s.heap.push {cls:=.type "list",data:=.seq #[]}).update s.z (eG (λ_=>(#[]:Array aF)))).get? b=ψ o:=
  λb o hb e=>(dE _ _ (Ne.symm hb)).trans (aU _ e)
 have z2:((s.heap.push {cls:=.type "list",data:=.seq #[]}).update s.z (eG (λ_=>(#[]:Array aF)))).objs.size=s.z+1:=by rw[(iB ..).1,gU]
 generalize (s.heap.push {cls:=.type "list",data:=.seq #[]}).update s.z (eG (λ_=>(#[]:Array aF)))=h2 at x5 km z2;apply aA;apply nY;have move:∀{h3:Heap},(∀b o,b≠s.z->s.heap.get? b=ψ o->h3.get? b=ψ o)->i_ z TI TO i1 i2 T1 T2 0 h3:=λ{h3} up=>by
  have ne:∀{b:Addr},b<s.z->b≠s.z:=λh=>cE h;obtain⟨a,b,hO⟩:=st.own;refine⟨?_,up _ _ (ne TIl) st.its,⟨a,b,up _ _ (ne Y_) hO⟩,(S1 (prog:=prog) (w:=w)).stay st.one (λo e=>up _ o (ne i1l) e) (λo e=>up _ o (ne a1l) e),(S2 (prog:=prog) (w:=w)).stay st.two (λo e=>up _ o (ne i2l) e) λo e=>up _ o (ne a2l) e⟩;rcases st.out with hz | ⟨T,f,o,hz,hT,n1,n2,n3⟩
  ·exact .inl (up _ _ (ne zl) hz)
  ·exact .inr ⟨T,f,o,up _ _ (ne zl) hz,⟨up _ _ (ne (bC hT.1)) hT.1,hT.2⟩,n1,n2,n3⟩
 have ty2:∀{h3:Heap}{g d t os},(∀b o,b≠s.z->s.heap.get? b=ψ o->h3.get? b=ψ o)->FK ⟨h3,g,d,t,os⟩ (.ref z) "zip":=λ{h3 g d t os} up=>by
  rcases (move up).out with hz | ⟨T,f,o,hz,_⟩ <;> exact⟨_,hz,rfl⟩
 unfold fY;apply aA;refine sK (T:="zip") (ty2 km) ?_;have g1:iY (.ref s.z) (.ref z)=χ:=by simp[iY,fC zl]
 have g2:(iU "zip" == iU "list")=χ:=η
 have g3:(iU "zip" == iU "tuple")=χ:=η
 simp only[g1,g2,g3,xG,aS,if_false];have self:∀{s':aH}{Q':aF->aH->Prop}{E':aF->aH->Prop}{A':dJ},s'.TypeIs (.ref z) "zip"->Q' (.ref z) s'->Δ prog w A' (pyIter (.ref z)) Q' E' s':=λ{s' Q' E' A'} ty h=>by
  refine KR ty F.slot_zip_iter (iR F.slot_zip_iter ty F.entry_zip_iter ?_ (F.args_zip_iter_1 _));show wpAny _ _ (ret (.ref z)) _ _ s';exact aN ⟨_,rfl,"zip",_,ty,F.slot_zip_next.lookup,h⟩
 apply aA;refine self (ty2 km) ?_;apply aA;apply gM;unfold jM;apply aA;refine mN (ty2 km) Hy ?_;show wpAny _ _ (specialOf (gD z) (mU "__length_hint__") >>= _) _ _ _;apply aA;refine mN (ty2 km) Eu ?_;apply aN;show wpAny _ _ (rule "list.extend.makes-room" >>= λ_=>Builtin.List.listTouch (.ref s.z) >>= λ_=>again (.builtin "list.extend.loop" ⟨[.ref s.z,.ref z,.none],[]⟩)) _ _ _;apply aA;apply wF;apply aA;show wpAny _ _ (updateSeq s.z (·.push .none) >>= λ_=>updateSeq s.z (·.pop)) _ _ _;apply aA;refine iQ x5 rfl ?_;have hS3:=fE (eG (·.push gK)) x5 rfl;refine iQ (hz:=by seq_fits) hS3 rfl ?_;have hS4:=fE (eG (·.pop)) hS3 rfl;have v8:∀b o,b≠s.z->s.heap.get? b=ψ o->((h2.update s.z (eG (·.push gK))).update s.z (eG (·.pop))).get? b=ψ o:=
  λb o hb e=>(dE _ _ (Ne.symm hb)).trans ((dE _ _ (Ne.symm hb)).trans (km b o hb e))
 have z4:((h2.update s.z (eG (·.push gK))).update s.z (eG (·.pop))).objs.size=s.z+1:=by rw[(iB ..).1,(iB ..).1,z2]
 generalize (h2.update s.z (eG (·.push gK))).update s.z (eG (·.pop))=h4 at hS4 v8 z4;apply aN;refine⟨jP iS _,?_⟩;refine RK (n:=vs.length) (J:=wj z TI TO i1 i2 T1 T2 vs us (s.z+1) s.heap s.z) (F:=rm z TO i1 i2 vs us (s.z+1) s.heap s.z) .none hn ?_ ?_ ?_ (λh' acc c m9 hF kr=>⟨rfl,q h' acc c m9 hF kr⟩) vs.length #[] h4 _ rfl (gH _) ?_ hS4
 ·intro acc h h' J o5 hz up;have ne:∀{b:Addr},b<s.z->b≠s.z:=λh=>cE h;obtain⟨a,b,hO⟩:=J.st.own;refine⟨⟨?_,up _ _ (ne TIl) J.st.its,⟨a,b,up _ _ (ne Y_) hO⟩,(S1 (prog:=prog) (w:=w)).stay J.st.one (λo e=>up _ o (ne i1l) e) (λo e=>up _ o (ne a1l) e),(S2 (prog:=prog) (w:=w)).stay J.st.two (λo e=>up _ o (ne i2l) e) λo e=>up _ o (ne a2l) e⟩,hz.trans J.size,J.refs,λj hj x y e1 e2=>up _ _ (by intro e;simp only[Addr] at *;lia) (J.got j hj x y e1 e2),λb o n1 n2 n3 n4 n5 e=>up b o n5 (J.kept b o n1 n2 n3 n4 n5 e)⟩;rcases J.st.out with hz | ⟨T,f,o,hz,hT,n1,n2,n3⟩
  ·exact .inl (up _ _ (ne zl) hz)
  ·have hTS:T≠s.z:=λe=>by
    obtain⟨u,hu,cu⟩:=o5;rw[<-e,hT.1] at hu;cases hu;rw[hT.2] at cu;simp at cu
   exact .inr ⟨T,f,o,up _ _ (ne zl) hz,⟨up _ _ hTS hT.1,hT.2⟩,n1,n2,n3⟩
 ·intro acc s' o Q' E' e_ J o5 k;have e1:vs[acc.length]?=ψ (vs[acc.length]'e_):=aG _;have e2:us[acc.length]?=ψ (us[acc.length]'ν):=aG _;refine Sy D S1 S2 J.st e1 e2 λh' gz hp hz kp=>?_;have xj:=J.size;refine k _ h' ⟨by simpa using gz,θ,λj hj=>?_,λj hj x y f1 f2=>?_,λb o n1 n2 n3 n4 n5 e=>kp b o n1 n2 n3 n4 (J.kept b o n1 n2 n3 n4 n5 e)⟩ (kp _ _ (fC zl) (fC Y_) (fC i1l) (fC i2l) o5)
  ·simp only[bR,bP,dG] at hj;by_cases h:j<acc.length
   ·rw[dN h];exact J.refs j h
   ·have:j=acc.length:=ν;subst this;unfold Shared.z;rw[dR (bU _),xj];simp
  ·simp only[bR,bP,dG] at hj;by_cases h:j<acc.length
   ·refine kp _ _ ?_ ?_ ?_ ?_ (J.got j h x y f1 f2) <;> (intro e;simp only[Addr,Shared.z] at *;lia)
   ·have:j=acc.length:=ν;subst this;rw[e1] at f1;rw[e2] at f2;cases f1;cases f2;rw[<-xj];exact hp
 ·intro acc s' o Q' E' hlen J o5 k;refine Wv (A:=A.in1.in1) hh D S1 S2 J.st (.inl (iX ν)) λh' kp=>?_;refine k h' ⟨J.refs,λj hj x y f1 f2=>kp _ _ ?_ ?_ ?_ ?_ (J.got j hj x y f1 f2),λb o n1 n2 n3 n4 n5 e=>kp b o n1 n2 n3 n4 (J.kept b o n1 n2 n3 n4 n5 e)⟩ (kp _ _ (fC zl) (fC Y_) (fC i1l) (fC i2l) o5) <;> (intro e;simp only[Addr,Shared.z] at *;lia)
 ·exact⟨move v8,by simpa using z4,δ,δ,λb o n1 n2 n3 n4 n5 e=>v8 b o n5 e⟩
end
section
variable{σ:St}
theorem _root_.L2.Inv.trackO{s s':aH}{a:Addr}(I:Inv X Γ σ H s)(I':Inv X Γ σ H' s')(ha:s.z<=a)(hn:H' a=ξ)(new:ca X.prog X.w (ck H' a w) s'.heap a w):Inv X Γ σ (ck H' a w) s':=by
 have nL:X.env.locals≠a:=cE (cF I.lt ha);have nC:∀x c,X.env.cells.lookup x=ψ c->c≠a:=λx c q z=>by
  obtain⟨v,hv⟩:=I.cell x c q;exact Ψ (cF hv.lt (by rw[z];exact ha)) (jB _)
 have n0:∀{b:Addr}{o:Obj},X.s₀.heap.get? b=ψ o->b≠a:=λ{b o} q=>cE (cF (bC q) (fR I.sz ha));refine⟨I'.ok,I'.os,I'.bare,⟨I'.base.keep,I'.base.slot,λb o q n hx=>by rw[dX (n0 q)];exact I'.base.free b o q n hx,I'.base.there,λb ys q=>by rw[dX (fD (I'.base.tups b ys q) hn)];exact I'.base.tups b ys q,λb o u q=>by rw[dX (fD (I'.base.frzs b o u q) hn)];exact I'.base.frzs b o u q,λb ps q=>?_⟩,I'.loc,I'.cell,by rw[dX nL];exact I'.free,λx c q=>by rw[dX (nC x c q)];exact I'.freeC x c q,λp hp=>?_,λb u q=>?_,I'.len⟩
 ·obtain⟨m,q2⟩:=I'.base.tbls b ps q;exact⟨m,by rw[dX (fD q2 hn)];exact q2⟩
 ·obtain⟨q1,q2,q3,q4,q5⟩:=I'.pin p hp;have m5:p.1≠a:=cE (cF (bC (I.pin p hp).1) ha);exact⟨q1,by rw[dX m5];exact q2,q3,q4,q5⟩
 ·by_cases hb:b=a
  ·subst hb;rw[gN] at q;cases q;exact new
  ·rw[dX hb] at q;exact(I'.hok b u q).stay (λc v _ w=>w) (λc w=>by rw[dX (fD w hn)];exact w) λc ys w=>by rw[dX (fD w hn)];exact w
def NH(H:Hp):Nat->ω (V×V)->Hp
 |_,[]=>H
 |N,p::ps=>NH (ck H N (.tup [p.1,p.2])) (N+1) ps
theorem SE:∀(ps:ω (V×V))(H:Hp)(N:Nat),(∀a,N<=a->H a=ξ)->ag H (NH H N ps)/\(∀a,N+ps.length<=a->NH H N ps a=ξ)/\∀j p,ps[j]?=ψ p->NH H N ps (N+j)=ψ (.tup [p.1,p.2])
 | [],H,N,hn=>⟨ag.refl H,λa ha=>hn a (by simpa using ha),λj p e=>by simp at e⟩
 |p::ps,H,N,hn=>by
  have n8:∀a,N+1<=a->ck H N (.tup [p.1,p.2]) a=ξ:=λa ha=>by rw[dX (fC ha)];exact hn a (IP ha)
  obtain⟨s1,s2,s3⟩:=SE ps (ck H N (.tup [p.1,p.2])) (N+1) n8;refine⟨ag.trans (ag.fn λb o e=>by rw[dX (fD e (hn N (bU _)))];exact e) s1,λa ha=>s2 a (by simp at ha;lia),λj q e=>?_⟩;cases j with
  |zero=>simp at e;subst e;exact s1.get _ _ gN trivial
  |succ j=>
   have:=s3 j q (by simpa using e);rw[show N+(j+1)=N+1+j by lia];exact this
theorem _root_.L2.Inv.lays{s s':aH}(I:Inv X Γ σ H s):∀(ps:ω (V×V))(us:ω (aF×aF))(H':Hp)(N:Nat),Inv X Γ σ H' s'->s.z<=N->(∀a,N<=a->H' a=ξ)->ps.length=us.length ->
  (∀j p u,ps[j]?=ψ p->us[j]?=ψ u->RelV p.1 u.1/\RelV p.2 u.2/\IsPair s'.heap (N+j) u.1 u.2)->Inv X Γ σ (NH H' N ps) s'
 | [],_,H',N,I',_,_,_,_=>I'
 |p::ps,[],H',N,I',_,_,hl,_=>by simp at hl
 |p::ps,u::us,H',N,I',hN,hn,hl,hh=>by
  obtain⟨r1,r2,hp⟩:=hh 0 p u rfl rfl;have I2:Inv X Γ σ (ck H' N (.tup [p.1,p.2])) s':=I.trackO I' hN (hn N (bU _)) ⟨by show 2<=sizeLine;decide,[u.1,u.2],.cons r1 (.cons r2 .nil),⟨_,hp,rfl,_,rfl⟩⟩;refine Inv.lays I ps us _ (N+1) I2 ν (λa ha=>by rw[dX (fC ha)];exact hn a (IP ha)) (by simpa using hl) λj q v e1 e2=>?_;obtain⟨q1,q2,q3⟩:=hh (j+1) q v (by simpa using e1) (by simpa using e2);exact⟨q1,q2,by rw[show N+1+j=N+(j+1) by lia];exact q3⟩
end
def My:D->Option (ω D)
 | .lst xs=>ψ xs
 | .tup xs=>ψ xs
 |_=>ξ
def Hn(ta tb:RE):RA:=λc Q=>ta c λx=>tb c λy=>∃xs ys,My x=ψ xs/\My y=ψ ys/\xs.length=ys.length/\Q (xs.zipWith (λa b=>D.tup [a,b]) ys)
theorem Wt{K:aI}{H:Hp}{N:Nat}:∀{xs ys:ω D}{vs us:ω V}{ps:ω (V×V)}(n:Nat),ps=vs.zip us->ak K H xs vs->ak K H ys us->xs.length=ys.length->(∀j p,ps[j]?=ψ p->H (N+(n+j))=ψ (.tup [p.1,p.2])) ->
  ak K H (xs.zipWith (λa b=>D.tup [a,b]) ys) ((fH ps.length).map λj=>V.ref (N+(n+j))):=by
 intro xs
 induction xs with
 |nil=>
  intro ys vs us ps n e r1 r2 hl _;cases r1;cases r2 with
  |nil=>subst e;exact .nil
  |cons _ _=>simp at hl
 |cons x xs ih=>
  intro ys vs us ps n e r1 r2 hl hh;cases r1 with
  | @cons _ v _ vs r1 t1=>
   cases r2 with
   |nil=>simp at hl
   | @cons y u ys us r2 t2=>
    subst e;have h0:=hh 0 (v,u) rfl;have ih:=ih (n:=n+1) (ps:=vs.zip us) rfl t1 t2 (by simpa using hl) λj p e=>by
     have:=hh (j+1) p (by simpa using e);rw[show n+1+j=n+(j+1) by lia];exact this
    simp only[rE,bP,zH,aR,dF,rW];refine .cons (.tup h0 (.cons r1 (.cons r2 .nil))) ?_;have e2:((λj=>V.ref (N+(n+j))) ∘ Nat.succ)=λj=>V.ref (N+(n+1+j)):=by
     funext j;simp only[FH,Nat.succ_eq_add_one];congr 2;lia
    rw[e2];exact ih
def boot_zip:bootBuiltins "zip" = ψ (.type "zip"):=ι
structure W_(h:Heap)(a:Addr)(its:List aF)(c:String)(P:Heap->Prop)(T:Addr->Nat->Heap->Prop):Prop where
 here:P h
 lt:a<h.objs.size
 stay:∀{h1 h2:Heap},P h1->(∀o,h1.get? a=ψ o->h2.get? a=ψ o)->P h2
 sub:∀{prog:cC}{w:cZ}{I:Addr},a≠I->Sub prog w I a its (T I)
 start:∀{h1:Heap}{I:Addr},h1.get? I=ψ (yK c a)->P h1->T I 0 h1
def src_list(p:h.IsList a its.toArray):W_ h a its "list_iterator" (λh=>h.IsList a its.toArray) (λI k h=>h.IsListIter I a k/\h.IsList a its.toArray):=
 ⟨p,by obtain⟨o,e,_⟩:=p;exact bC e,λq e=>q.at e,λne=>Sm ne,λe q=>⟨⟨_,e,rfl,rfl⟩,q⟩⟩
def PL(p:h.IsTuple a its.toArray):W_ h a its "tuple_iterator" (λh=>h.IsTuple a its.toArray) (λI k h=>h.IsTupleIter I a k/\h.IsTuple a its.toArray):=
 ⟨p,by obtain⟨o,e,_⟩:=p;exact bC e,λq e=>q.at e,λne=>Wg ne,λe q=>⟨⟨_,e,rfl,rfl⟩,q⟩⟩
section
variable{X:Cx}{a b:Expr}{ta tb:RE}{p pz pos iy:Pos}
theorem RD(zv:X.mg "list" = ξ)(zw:X.mg "zip" = ξ)(hc:X.calm=ζ)(ha:DB X a ta)(hb:DB X b tb)(zn:Gl X "list":=by rfl)(zo:Gl X "zip":=by rfl)
  (hs:starEach [.Call (.Name "zip" pz) [a,b] [] iy] X.env=[(χ,eval (.Call (.Name "zip" pz) [a,b] [] iy) X.env)]:=by rfl) (hn:starEach [] X.env=[]:=by rfl) (h2:starEach [a,b] X.env=(χ,eval a X.env)::starEach [b] X.env:=by rfl) (h1:starEach [b] X.env=[(χ,eval b X.env)]:=by rfl):
  DO X (.Call (.Name "list" p) [.Call (.Name "zip" pz) [a,b] [] iy] [] pos) (Hn ta tb):=by
 intro Γ s Y H Q I bj;obtain⟨i,P,st,q,k⟩:=bj;refine gL (tD I zn zv boot_list ?_);refine fO ?_ (by rw[hs,hn]) (by rw[hn];rfl);rw[hs];show wpAny _ _ (spliced ((χ,eval (.Call (.Name "zip" pz) [a,b] [] iy) X.env)::backTo pos [])) _ _ s;refine rD (gL (tD I zo zw boot_zip ?_));refine fO (dh (wW ha (wW hb MN (by rw[h1,hn])) h2 iy Γ s Y H (λvs H1=>∃x y xs ys v u,vs=[v,u]/\ag H H1/\dm X.K H1 x v/\dm X.K H1 y u/\My x=ψ xs/\My y=ψ ys/\xs.length=ys.length/\P (xs.zipWith (λa b=>D.tup [a,b]) ys)) I
  ⟨i,_,st,q,λx v H1 hx s1 r1=>⟨i,_,st.ext s1,hx,λy u H2 hy s2 r2=>?_⟩⟩) λus s1 ⟨vs,H1,I1,r1,q1⟩=>?_) h2 (by rw[h1];rfl)
 ·obtain⟨xs,ys,e1,e2,e3,e4⟩:=hy;exact⟨x,y,xs,ys,v,u,rfl,s1.trans s2,r1.same s2,r2,e1,e2,e3,e4⟩
 obtain⟨x,y,xs,ys,v,u,rfl,o0,rx,ry,ex,ey,hl,hP⟩:=q1;obtain⟨w1,w2,rfl,rv,ru⟩:=vals2 r1;have src:∀{x:D}{xs:ω D}{v:V}{u:aF},dm X.K H1 x v->My x=ψ xs->RelV v u->∃(l:Addr)(vs:ω V)(its:ω aF),u = .ref l/\ak X.K H1 xs vs/\au vs its/\vs.length<=sizeLine/\(s1.heap.IsList l its.toArray\/s1.heap.IsTuple l its.toArray):=λ{x xs v u} r e rv=>by
  cases x with
  |lst ds=>
   cases e;obtain⟨l,vs,rfl,hq,rr⟩:=r.lst;cases rv;obtain⟨its,kc,pl,hz⟩:=I1.list hq;exact⟨l,vs,its,rfl,rr,kc,hz,.inl pl.isList⟩
  |tup ds=>
   cases e;obtain⟨l,vs,rfl,hq,rr⟩:=r.tup;cases rv;obtain⟨its,kc,pl,hz⟩:=I1.tuple (f8.of hq);exact⟨l,vs,its,rfl,rr,kc,hz,.inr pl⟩
  |_=>cases e
 obtain⟨l,vs,its,rfl,rr1,rv1,p_,k1⟩:=src rx ex rv;obtain⟨m,us,vt,rfl,rr2,qa,hz2,k2⟩:=src ry ey ru;have lv:vs.length=us.length:=by rw[<-rr1.length,<-rr2.length,hl]
 have li:=rv1.length;have lj:=qa.length;have fin:∀{c d:String}{P1 P2:Heap->Prop}{T1 T2:Addr->Nat->Heap->Prop},Kk c d l m (λh=>P1 h/\P2 h)->W_ s1.heap l its c P1 T1->W_ s1.heap m vt d P2 T2 ->
   Θ X (call (.type "zip") [.ref l,.ref m]) (λu s₁=>Θ X (spliced (backTo pos [])) (λvs s₂=>Θ X (call (.type "list") (u::vs)) (EP X Γ Y Q) X.xe s₂) X.xe s₁) X.xe s1:=by
  intro c d P1 P2 T1 T2 Z S1 S2;refine Kr Z ⟨S1.here,S2.here⟩ λh' hz hI hO g1 g2 m9 kp=>?_;have lt1:=S1.lt;have lt2:=S2.lt;have D:=Ni lt1 lt2;refine rR ?_;have p1:=S1.stay S1.here λo e=>kp l o e;have p2:=S2.stay S2.here λo e=>kp m o e;refine UO (A:=X.A) (I1.ok.hd hc) D (λ{_ _}=>S1.sub (cE lt1)) (λ{_ _}=>S2.sub (by simp only[Addr] at *;lia)) ν ν ⟨.inl hz,hI,⟨_,_,hO⟩,S1.start g1 p1,S2.start g2 p2⟩ λh2 acc cc ha hd hS=>?_;have hsz':({s1 with heap:=h'}:aH).z=s1.z+5:=m9;rw[hsz'] at hd hS⊢;have kp2:∀b o,s1.heap.get? b=ψ o->h2.get? b=ψ o:=λb o e=>by
   have lb:=bC e;refine hd.kept b o ?_ ?_ ?_ ?_ ?_ (kp b o e) <;> (intro z;simp only[Addr] at *;lia)
  have I2:Inv X Γ Y H1 {s1 with heap:=h2}:=I1.kept (t':=s1.toks) kp2;have free:∀x,s1.z+5+1<=x->H1 x=ξ:=λx hx=>I1.hok.fresh (show s1.z<=x by lia);have I3:=I1.lays (s':={s1 with heap:=h2}) (vs.zip us) (its.zip vt) H1 (s1.z+5+1) I2 ν free θ λj pp uu e1 e2=>by
   have xz:=qJ.mp e1;have qt:=qJ.mp e2;obtain⟨w1,f1,f2⟩:=rv1.get xz.1;obtain⟨w2,f3,f4⟩:=qa.get xz.2;rw[qt.1] at f1;rw[qt.2] at f3;cases f1;cases f3;refine⟨f2,f4,hd.got j ?_ _ _ qt.1 qt.2⟩;have:=(cB.mp qt.1).1;simp;lia
  obtain⟨sm,fr,om⟩:=SE (vs.zip us) H1 (s1.z+5+1) free;generalize hH:NH H1 (s1.z+5+1) (vs.zip us)=H3 at I3 sm fr om;have vi:H3 (s1.z+5)=ξ:=by
   rw[<-hH];have:∀(ps:ω (V×V))(G:Hp)(M:Nat),s1.z+5<M->NH G M ps (s1.z+5)=G (s1.z+5):=λps=>by
    induction ps with
    |nil=>intro G M _;rfl
    |cons p ps ih=>intro G M hM;rw[NH,ih _ _ ν,dX (cE hM)]
   rw[this _ _ _ ν];exact I1.hok.fresh (show s1.z<=_ by lia)
  have accL:acc.toList=(fH (vs.zip us).length).map λj=>gD (s1.z+5+1+(0+j)):=by
   apply wN;intro j;have hla:acc.toList.length=vs.length:=θ;by_cases hj:j<vs.length
   ·rw[hd.refs j ν,cG,uK θ];simp
   ·rw[iX ν,iX θ]
  have RR:=Wt (N:=s1.z+5+1) 0 rfl (rr1.keep (.of sm)) (rr2.keep (.of sm)) hl λj pp e=>by
   have:=om j pp e;rw[uW];exact this
  have VV:au ((fH (vs.zip us).length).map λj=>V.ref (s1.z+5+1+(0+j))) acc.toList:=by
   rw[accL];generalize fH (vs.zip us).length=rs
   induction rs with
   |nil=>exact .nil
   |cons r rs ih=>exact .cons rfl ih
  have I4:=I1.trackO (a:=s1.z+5) (w:=.lst ((fH (vs.zip us).length).map λj=>V.ref (s1.z+5+1+(0+j)))) I3 ν vi ⟨θ,acc.toList,cc,VV,by simpa using hS⟩;exact⟨.ref (s1.z+5),_,I4,rfl,k _ _ _ H3 hP (o0.trans sm) vi RR⟩
 rcases k1 with k1 |k1 <;> rcases k2 with k2 |k2
 ·exact fin (Ww l m its.toArray vt.toArray) (src_list k1) (src_list k2)
 ·exact fin (Wx l m its.toArray vt.toArray) (src_list k1) (PL k2)
 ·exact fin (Wy l m its.toArray vt.toArray) (PL k1) (src_list k2)
 ·exact fin (Wz l m its.toArray vt.toArray) (PL k1) (PL k2)
end
section
variable{a b:Expr}{ta tb:RE}
def O5(ta tb:RE):RA:=λc Q=>ta c λx=>tb c λy=>match x,y with
 | .lst xs,.lst ys=>Q (xs.zipWith (λa b=>D.tup [a,b]) ys)
 |_,_=>False
end
section
variable{prog:cC}{w:cZ}{A:dJ}{E:aF->aH->Prop}{s:aH}
theorem Lr{I S:Addr}{fp:ω Addr}{St:Nat->Heap->Prop}{items:Array aF}{bt:Nat->Nat->Bool}{G:Heap->Prop}{R:Result->aH->Prop}(W:Walks prog w A.in1 I fp [I] items.size (λi v=>items[i]?=ψ v) St)(ze:S≠I)(hSf:S∉fp)
  (cmp:∀(i j:Nat)(u v:aF)(s:aH)(Q:aF->aH->Prop)(E:aF->aH->Prop),items[i]?=ψ u->items[j]?=ψ v->G s.heap->Q (.bool (bt i j)) s->Δ prog w A.in1 (richCompare .Lt u v) Q E s)
  (gs:∀h h',G h->(∀b o,b≠I->b≠S->h.get? b=ψ o->h'.get? b=ψ o)->G h'):
  ∀(k j:Nat)(s:aH)(vb:aF)(c:Nat),items.size-(j+1)=k->j+1<=items.size->St (j+1) s.heap->items[argBest bt j]?=ψ vb->G s.heap ->
   s.heap.get? S=ψ {cls:=.type "list",dict:=ξ,data:=.seq #[vb,vb] c,slots:=#[]} ->
   (∀v h' tk,items[argBest bt (items.size-1)]?=ψ v->(∀b o,b≠I->b≠S->s.heap.get? b=ψ o->h'.get? b=ψ o)->R (.ok (.ret v)) {s with heap:=h',toks:=tk}) ->
   codeAny (model prog w) A (.builtin "min.loop" ⟨[.ref I,.none,.ref S],[]⟩) R s:=by
 have nm:(toString "min" ++ toString ".loop":String) = "min.loop":=η
 have wr:∀{b:Addr},b≠I->b∉[I]:=λh=>by simpa using h
 intro k
 induction k with
 |zero=>
  intro j s vb c hk hj hi hb hG hS q;refine iP F.entry_min_loop ?_;rw[gG F.plain_min_loop _];show wpAny _ A.in1 (seqItems? (.ref S) >>= _) _ _ s;apply aA;apply fX hS rfl;show wpAny _ A.in1 (tryCatch (pyNext (.ref I)) _ >>= _) _ _ s;apply aA;apply wG;refine W.done s _ _ (by rw[qz5 hk hj];exact hi) λh' tk kp=>?_;have kr:=kp S _ (wr ze) hS;show wpAny _ A.in1 (updateSeq S (λ_=>#[]) >>= _) _ _ _;apply aA;refine iQ kr rfl ?_;apply aA;apply nY;apply aN;exact q vb _ tk (by rw[qz5 hk hj];exact hb) λb o b1 b2 e=>(dE _ _ (Ne.symm b2)).trans (kp b o (wr b1) e)
 |succ k ih=>
  intro j s vb c hk hj hi hb hG hS q;refine iP F.entry_min_loop ?_;rw[gG F.plain_min_loop _];show wpAny _ A.in1 (seqItems? (.ref S) >>= _) _ _ s;apply aA;apply fX hS rfl;show wpAny _ A.in1 (tryCatch (pyNext (.ref I)) _ >>= _) _ _ s;apply aA;apply wG;refine W.item (j+1) s _ _ ν hi λv h' tk hv gz kp=>?_;have kr:=kp S _ (wr ze) hS;have hG':G h':=gs _ _ hG λb o b1 _ e=>kp b o (wr b1) e;show wpAny _ A.in1 (tryCatch (holding [v,v] (richCompare .Lt v vb >>= _)) _ >>= _) _ _ _;apply aA;apply wG;apply gM;apply aA;refine cmp (j+1) (argBest bt j) v vb _ _ _ hv hb hG' ?_;apply aA;apply gM;apply pJ;apply aA;apply nY;apply aN;cases hbt:bt (j+1) (argBest bt j) with
  |true=>
   simp only[if_true];apply aA;refine iQ kr rfl ?_;apply aA;apply nY;rw[nm];apply aN;have up:∀b o,b≠S->h'.get? b=ψ o->(h'.update S (eG λ_=>#[v,v])).get? b=ψ o:=λb o b2 e=>(dE _ _ (Ne.symm b2)).trans e;refine⟨jP F.plain_min_loop _,ih (j+1) _ v _ (qz2 hk) ν (W.frame _ _ _ gz λb hb o e=>up b o (by rintro rfl;exact hSf hb) e) (by simp only[argBest,hbt,if_true];exact hv) (gs _ _ hG' λb o _ b2 e=>up b o b2 e) (fE _ kr rfl) λv' y_ su e kk=>?_⟩;exact q v' y_ su e λb o b1 b2 e=>kk b o b1 b2 (up b o b2 (kp b o (wr b1) e))
  |false=>
   simp only[aS,if_false];apply aA;apply nY;rw[nm];apply aN;refine⟨jP F.plain_min_loop _,ih (j+1) _ vb c (qz2 hk) ν gz (by simp only[argBest,hbt,aS,if_false];exact hb) hG' kr λv' y_ su e kk=>?_⟩;exact q v' y_ su e λb o b1 b2 e=>kk b o b1 b2 (kp b o (wr b1) e)
theorem VX{l:Addr}{St:Nat->Heap->Prop}{T:String}{items:Array aF}{bt:Nat->Nat->Bool}{G:Heap->Prop}{Q:aF->aH->Prop}(W:Walks prog w A.in1 s.z [s.z,l] [s.z] items.size (λi v=>items[i]?=ψ v) St)(lt:l<s.z)
  (p7:∀{Q E},Q (.ref s.z) {s with heap:=s.heap.push (yK T l)}->Δ prog w A.in1 (pyIter (.ref l)) Q E s) (o7:St 0 (s.heap.push (yK T l))) (gy:0<items.size)
  (cmp:∀(i j:Nat)(u v:aF)(s:aH)(Q:aF->aH->Prop)(E:aF->aH->Prop),items[i]?=ψ u->items[j]?=ψ v->G s.heap->Q (.bool (bt i j)) s->Δ prog w A.in1 (richCompare .Lt u v) Q E s)
  (gs:∀h',(∀b o,s.heap.get? b=ψ o->h'.get? b=ψ o)->G h') (q:∀v h' tk,items[argBest bt (items.size-1)]?=ψ v->(∀b o,s.heap.get? b=ψ o->h'.get? b=ψ o)->Q v {s with heap:=h',toks:=tk}):
  Δ prog w A (call (.builtin "min") [.ref l]) Q E s:=by
 have nm:(toString "min" ++ toString ".loop":String) = "min.loop":=η
 refine call_function_tree F.kind_min F.plain_min F.entry_min (F.args_min1 _) ?_;show wpAny _ A.in1 (uT "min" ["key","default"] 0 ⟨[],[]⟩ >>= _) _ _ s;apply aA;refine rQ (show uT "min" ["key","default"] 0 ⟨[],[]⟩=pure [ξ,ξ] from rfl) ?_;apply aA;apply aN;apply aA;refine p7 ?_;apply aA;refine gB ?_;rw[nm];apply aN;have sz1:(s.heap.push (yK T l)).objs.size=s.z+1:=gU ..;generalize hp:s.heap.push (yK T l)=h1 at sz1;rw[hp] at o7;have k1:∀b o,s.heap.get? b=ψ o->h1.get? b=ψ o:=λb o e=>by rw[<-hp];exact aU _ e
 refine⟨jP F.plain_min_loop _,?_⟩;show codeAny _ A (.builtin "min.loop" ⟨[.ref s.z,.none,.ref h1.objs.size],[]⟩) _ {s with heap:=h1.push {cls:=.type "list",dict:=ξ,data:=.seq ([]:ω aF).toArray}};rw[sz1];have hS:(h1.push {cls:=.type "list",dict:=ξ,data:=.seq ([]:ω aF).toArray}).get? (s.z+1)=ψ {cls:=.type "list",dict:=ξ,data:=.seq #[] 0,slots:=#[]}:=by rw[<-sz1];exact cD _ rfl
 have k2:∀b o,h1.get? b=ψ o->(h1.push {cls:=.type "list",dict:=ξ,data:=.seq ([]:ω aF).toArray}).get? b=ψ o:=λb o e=>aU _ e;generalize h1.push {cls:=.type "list",dict:=ξ,data:=.seq ([]:ω aF).toArray} = h2 at hS k2;have oz:∀{b:Addr}{o:Obj},s.heap.get? b=ψ o->b≠s.z/\b≠s.z+1:=λe=>⟨cE (bC e),cE (jR (bC e))⟩;refine iP F.entry_min_loop ?_;rw[gG F.plain_min_loop _];show wpAny _ A.in1 (seqItems? (.ref (s.z+1)) >>= _) _ _ _;apply aA;apply fX hS rfl;show wpAny _ A.in1 (tryCatch (pyNext (.ref s.z)) _ >>= _) _ _ _;apply aA;apply wG;refine W.item 0 _ _ _ gy (W.frame _ _ _ o7 λb _ o e=>k2 b o e) λv h' tk hv gz kp=>?_;have wr:∀{b:Addr},b≠s.z->b∉[s.z]:=λh=>by simpa using h
 have kr:=kp (s.z+1) _ (wr (sV _)) hS;show wpAny _ A.in1 (updateSeq (s.z+1) (λ_=>#[v,v]) >>= _) _ _ _;apply aA;refine iQ kr rfl ?_;rw[nm];apply aN;have up:∀b o,b≠s.z+1->h'.get? b=ψ o->(h'.update (s.z+1) (eG λ_=>#[v,v])).get? b=ψ o:=λb o b2 e=>(dE _ _ (Ne.symm b2)).trans e;have old:∀b o,s.heap.get? b=ψ o->(h'.update (s.z+1) (eG λ_=>#[v,v])).get? b=ψ o:=λb o e=>up b o (oz e).2 (kp b o (wr (oz e).1) (k2 b o (k1 b o e)));have hS'':=fE (eG λ_=>#[v,v]) kr rfl;refine⟨jP F.plain_min_loop _,?_⟩;refine Lr (A:=A) (G:=λh=>∀b o,s.heap.get? b=ψ o->h.get? b=ψ o) (bt:=bt) W (sV _) (by simp only[aO,eM,or_false,not_or];exact⟨sV _,fC (jR lt)⟩) (λi j u v s' Q' E' e1 e2 g c=>cmp i j u v s' Q' E' e1 e2 (gs _ g) c)
  (λh3 h4 g kk b o e=>kk b o (oz e).1 (oz e).2 (g b o e)) (items.size-1) 0 _ v _ ν ν (W.frame _ _ _ gz λb hb o e=>up b o (by simp only[aO,eM,or_false] at hb;rcases hb with rfl |rfl;exact cE (qB _);exact cE (jR lt)) e) (by simpa [argBest] using hv) old hS'' λv' y_ su e kk=>?_
 exact q v' y_ su e λb o e=>kk b o (oz e).1 (oz e).2 (old b o e)
def Kp{l:Addr}{items:Array aF}{bt:Nat->Nat->Bool}{G:Heap->Prop}{Q:aF->aH->Prop}(hh:A.handled=ξ)(hL:s.heap.IsList l items)(gy:0<items.size)
  (cmp:∀(i j:Nat)(u v:aF)(s:aH)(Q:aF->aH->Prop)(E:aF->aH->Prop),items[i]?=ψ u->items[j]?=ψ v->G s.heap->Q (.bool (bt i j)) s->Δ prog w A.in1 (richCompare .Lt u v) Q E s)
  (gs:∀h',(∀b o,s.heap.get? b=ψ o->h'.get? b=ψ o)->G h') (q:∀v h' tk,items[argBest bt (items.size-1)]?=ψ v->(∀b o,s.heap.get? b=ψ o->h'.get? b=ψ o)->Q v {s with heap:=h',toks:=tk}):
  Δ prog w A (call (.builtin "min") [.ref l]) Q E s:=by
 have lt:l<s.z:=by obtain⟨_,e,_⟩:=hL;exact bC e
 exact VX (T:="list_iterator") (Walks.list (A:=A.in1) hh _ l (cE lt) items) lt (λq=>kR hL q) ⟨⟨_,cD _ rfl,rfl,rfl⟩,hL.at λo e=>aU _ e⟩ gy cmp gs q
def Fq{l:Addr}{items:Array aF}{bt:Nat->Nat->Bool}{G:Heap->Prop}{Q:aF->aH->Prop}(hh:A.handled=ξ)(hL:s.heap.IsTuple l items)(gy:0<items.size)
  (cmp:∀(i j:Nat)(u v:aF)(s:aH)(Q:aF->aH->Prop)(E:aF->aH->Prop),items[i]?=ψ u->items[j]?=ψ v->G s.heap->Q (.bool (bt i j)) s->Δ prog w A.in1 (richCompare .Lt u v) Q E s)
  (gs:∀h',(∀b o,s.heap.get? b=ψ o->h'.get? b=ψ o)->G h') (q:∀v h' tk,items[argBest bt (items.size-1)]?=ψ v->(∀b o,s.heap.get? b=ψ o->h'.get? b=ψ o)->Q v {s with heap:=h',toks:=tk}):
  Δ prog w A (call (.builtin "min") [.ref l]) Q E s:=by
 have lt:l<s.z:=by obtain⟨_,e,_⟩:=hL;exact bC e
 exact VX (T:="tuple_iterator") (Walks.tuple (A:=A.in1) hh _ l (cE lt) items) lt (λq=>lZ hL q) ⟨⟨_,cD _ rfl,rfl,rfl⟩,hL.at λo e=>aU _ e⟩ gy cmp gs q
end
abbrev pB(ns:ω Int):D:=.tup (ns.map .int)
theorem CZ:∀{a b c:ω Int},HT.lexLt a b=ζ->HT.lexLt b c=ζ->HT.lexLt a c=ζ
 | [],[],_,h,_=>by cases h
 | [],_::_,[],_,h=>by cases h
 | [],_::_,_::_,_,_=>rfl
 |_::_,[],_,h,_=>by cases h
 |_::_,_::_,[],_,h=>by cases h
 |x::xs,y::ys,z::zs,h1,h2=>by
  rw[HT.lexLt_cons] at *;by_cases e1:x=y
  ·subst e1;rw[Ω rfl] at h1;by_cases e2:x=z
   ·rw[Ω e2] at h2⊢;exact CZ h1 h2
   ·rw[υ e2] at h2⊢;exact h2
  ·rw[υ e1] at h1;by_cases e2:y=z
   ·subst e2;rw[υ e1];exact h1
   ·rw[υ e2] at h2;simp only[decide_eq_true_eq] at h1 h2;rw[υ ν];simp only[decide_eq_true_eq];lia
theorem LY:∀(a:ω Int),HT.lexLt a a=χ
 | []=>rfl
 |x::xs=>by rw[HT.lexLt_cons,Ω rfl];exact LY xs
theorem CK(tr:∀i j k,bt i j=ζ->bt j k=ζ->bt i k=ζ)(ir:∀i,bt i i=χ):∀k,argBest bt k<=k/\∀j,j<=k->bt j (argBest bt k)=χ
 | 0=>⟨bU _,λj hj=>by rw[Nat.le_zero.mp hj];exact ir 0⟩
 |k+1=>by
  obtain⟨h1,h2⟩:=CK tr ir k;cases hb:bt (k+1) (argBest bt k) with
  |true=>
   simp only[argBest,hb,if_true];refine⟨bU _,λj hj=>?_⟩;by_cases e:j=k+1
   ·subst e;exact ir _
   ·cases hc:bt j (k+1) with
    |false=>rfl
    |true=>
     have:=tr j (k+1) _ hc hb;rw[h2 j ν] at this;cases this
  |false=>
   simp only[argBest,hb,aS,if_false];refine⟨ν,λj hj=>?_⟩;by_cases e:j=k+1
   ·subst e;exact hb
   ·exact h2 j ν
theorem ak.tupI_inv{K:aI}{H:Hp}{ns:ω Int}{v:V}(r:dk K H (pB ns) v):∃a,v = .ref a/\H a=ψ (.tup (ns.map V.int)):=by
 cases r with
 |tup h rr=>rw[rr.ints_inv] at h;exact⟨_,rfl,h⟩
section
variable{X:Cx}{e a b:Expr}{te ta tb:RE}{p pos:Pos}
def Tv:R22:=λx y Q=>∃ns ms:ω Int,x=pB ns/\y=pB ms/\Q (.bl (HT.lexLt ns ms))
theorem Qz(hr:dc k X.A):j3 X (compareOp .Lt) Tv:=by
 intro Γ s Z H x y v u Q I rx ry bj;obtain⟨d,e,P,r1,r2,q,kk⟩:=bj;obtain⟨ns,ms,e1,e2,q⟩:=q;subst e1 e2;obtain⟨a,vs,rfl,h1,t1⟩:=r1.tup;obtain⟨b,us,rfl,h2,t2⟩:=r2.tup;rw[t1.ints_inv] at h1;rw[t2.ints_inv] at h2;exact A4 (X:=X) (by have:=hr.un;lia) Γ s Z H _ _ v u Q I rx ry ⟨a,b,ns,ms,rfl,rfl,f8.of h1,f8.of h2,kk _ _ H q (ag.refl H) (.bl _)⟩
def Iu:D->(D->Prop)->Prop:=λd Q=>match d with
 | .lst ds=>∃nss:List (List Int),ds=nss.map pB/\nss≠[]/\∀M,M∈nss->(∀x∈nss,HT.lexLt x M=χ)->Q (pB M)
 | .tup ds=>∃nss:List (List Int),ds=nss.map pB/\nss≠[]/\∀M,M∈nss->(∀x∈nss,HT.lexLt x M=χ)->Q (pB M)
 |_=>False
theorem Iw{k:Nat}(hr:dc k X.A)(hm:X.mg "min" = ξ)(hc:X.calm=ζ)(h:DB X e te)(hg:Gl X "min":=by rfl)(hs:starEach [e] X.env=[(χ,eval e X.env)]:=by rfl)(hn:starEach [] X.env=[]:=by rfl):
  DE X (.Call (.Name "min" p) [e] [] pos) (r1 Iu te):=by
 have call:yA X (.builtin "min") (λxs H Q=>∃(d:D)(v:V)(P:D->Prop),xs=[v]/\dm X.K H d v/\Iu d P/\∀z w,P z->dk X.K H z w->Q w H):=by
  intro Γ s Z H xs us Q I rs hq;obtain⟨d,v,P,rfl,rb,hd,kk⟩:=hq;cases d with
  |lst ds=>
   obtain⟨nss,rfl,gy,hd⟩:=hd;obtain⟨l,vs,rfl,hq,rr⟩:=rb.lst;obtain⟨u,rfl,rx⟩:=vals1 rs;cases rx;obtain⟨its,rv,pl,hz⟩:=I.list hq;have l1:=rr.length;have l2:=rv.length;have fj:0<nss.length:=jT.mpr gy;rw[aY] at l1;have each:∀(i:Nat)(u:aF),its[i]?=ψ u->∃ns a ts,nss[i]?=ψ ns/\vs[i]?=ψ (.ref a)/\u = .ref a/\au (ns.map V.int) ts/\IsTup s.heap a ts.toArray:=λi u e=>by
    have hi:i<nss.length:=(by have:=(cB.mp e).1;lia);obtain⟨v,e1,e2⟩:=rr.get (i:=i) (d:=pB nss[i]) (by rw[cG,aG hi];rfl);obtain⟨a,rfl,ha⟩:=ak.tupI_inv e2;obtain⟨u',f1,f2⟩:=rv.get e1;rw[e] at f1;cases f1;cases f2;obtain⟨ts,g1,g2,_⟩:=I.tuple (f8.of (K:=X.K) ha);exact⟨_,a,ts,aG hi,e1,rfl,g1,g2⟩
   refine Kp (bt:=λi j=>HT.lexLt (nss.getD i []) (nss.getD j [])) (G:=λh=>∀b o,s.heap.get? b=ψ o->h.get? b=ψ o) (I.ok.hd hc) pl.isList θ (λi j u v s' Q' E' e1 e2 g c=>?_) (λh' g=>g) λv h' tk ev kp=>?_
   ·obtain⟨ns,a,ts,n1,_,rfl,g1,g2⟩:=each i u (by simpa using e1);obtain⟨ms,b,us,n2,_,rfl,g3,g4⟩:=each j v (by simpa using e2);have q1:nss.getD i []=ns:=(by rw[eD,n1];rfl);have q2:nss.getD j []=ms:=(by rw[eD,n2];rfl);rw[q1,q2] at c;have hu:=hr.un;have kj:∀{a:Addr}{xs:Array aF},IsTup s.heap a xs->IsTup s'.heap a xs:=λ⟨o,e,r⟩=>⟨o,g _ o e,r⟩;refine HT.lt_tupInts (A:=X.A.in1) (kj g2) (kj g4) (intsAre_of g1) (intsAre_of g3) (by show X.A.units+1<cLine;lia) c
   ·obtain⟨b1,b2⟩:=CK (bt:=λi j=>HT.lexLt (nss.getD i []) (nss.getD j [])) (λ_ _ _=>CZ) (λ_=>LY _) (its.toArray.size-1);generalize argBest (λi j=>HT.lexLt (nss.getD i []) (nss.getD j [])) (its.toArray.size-1)=m at b1 b2 ev;obtain⟨ns,a,ts,n1,n2,rfl,g1,g2⟩:=each m v (by simpa using ev);have hm:m<nss.length:=(cB.mp n1).1;refine⟨.ref a,H,I.kept kp,rfl,kk _ _ (hd ns (eY n1) λx hx=>?_) ?_⟩
    ·obtain⟨j,hj,rfl⟩:=eB hx;have:=b2 j θ;have q1:nss.getD j []=nss[j]:=(by rw[eD,aG hj];rfl);have q2:nss.getD m []=ns:=(by rw[eD,n1];rfl);rw[q1,q2] at this;exact this
    ·obtain⟨w,f1,f2⟩:=rr.get (i:=m) (d:=pB ns) (by rw[cG,n1];rfl);rw[n2] at f1;cases f1;exact f2
  |tup ds=>
   obtain⟨nss,rfl,gy,hd⟩:=hd;obtain⟨l,vs,rfl,hq,rr⟩:=rb.tup;obtain⟨u,rfl,rx⟩:=vals1 rs;cases rx;obtain⟨its,rv,pl,hz⟩:=I.tuple (f8.of (K:=X.K) hq);have l1:=rr.length;have l2:=rv.length;have fj:0<nss.length:=jT.mpr gy;rw[aY] at l1;have each:∀(i:Nat)(u:aF),its[i]?=ψ u->∃ns a ts,nss[i]?=ψ ns/\vs[i]?=ψ (.ref a)/\u = .ref a/\au (ns.map V.int) ts/\IsTup s.heap a ts.toArray:=λi u e=>by
    have hi:i<nss.length:=(by have:=(cB.mp e).1;lia);obtain⟨v,e1,e2⟩:=rr.get (i:=i) (d:=pB nss[i]) (by rw[cG,aG hi];rfl);obtain⟨a,rfl,ha⟩:=ak.tupI_inv e2;obtain⟨u',f1,f2⟩:=rv.get e1;rw[e] at f1;cases f1;cases f2;obtain⟨ts,g1,g2,_⟩:=I.tuple (f8.of (K:=X.K) ha);exact⟨_,a,ts,aG hi,e1,rfl,g1,g2⟩
   refine Fq (bt:=λi j=>HT.lexLt (nss.getD i []) (nss.getD j [])) (G:=λh=>∀b o,s.heap.get? b=ψ o->h.get? b=ψ o) (I.ok.hd hc) pl θ (λi j u v s' Q' E' e1 e2 g c=>?_) (λh' g=>g) λv h' tk ev kp=>?_
   ·obtain⟨ns,a,ts,n1,_,rfl,g1,g2⟩:=each i u (by simpa using e1);obtain⟨ms,b,us,n2,_,rfl,g3,g4⟩:=each j v (by simpa using e2);have q1:nss.getD i []=ns:=(by rw[eD,n1];rfl);have q2:nss.getD j []=ms:=(by rw[eD,n2];rfl);rw[q1,q2] at c;have hu:=hr.un;have kj:∀{a:Addr}{xs:Array aF},IsTup s.heap a xs->IsTup s'.heap a xs:=λ⟨o,e,r⟩=>⟨o,g _ o e,r⟩;refine HT.lt_tupInts (A:=X.A.in1) (kj g2) (kj g4) (intsAre_of g1) (intsAre_of g3) (by show X.A.units+1<cLine;lia) c
   ·obtain⟨b1,b2⟩:=CK (bt:=λi j=>HT.lexLt (nss.getD i []) (nss.getD j [])) (λ_ _ _=>CZ) (λ_=>LY _) (its.toArray.size-1);generalize argBest (λi j=>HT.lexLt (nss.getD i []) (nss.getD j [])) (its.toArray.size-1)=m at b1 b2 ev;obtain⟨ns,a,ts,n1,n2,rfl,g1,g2⟩:=each m v (by simpa using ev);have hm:m<nss.length:=(cB.mp n1).1;refine⟨.ref a,H,I.kept kp,rfl,kk _ _ (hd ns (eY n1) λx hx=>?_) ?_⟩
    ·obtain⟨j,hj,rfl⟩:=eB hx;have:=b2 j θ;have q1:nss.getD j []=nss[j]:=(by rw[eD,aG hj];rfl);have q2:nss.getD m []=ns:=(by rw[eD,n1];rfl);rw[q1,q2] at this;exact this
    ·obtain⟨w,f1,f2⟩:=rr.get (i:=m) (d:=pB ns) (by rw[cG,n1];rfl);rw[n2] at f1;cases f1;exact f2
  |_=>exact hd.elim
 refine PE.mono (yN call hg hm boot_min (sG h hs hn) η η (by rw[hs,hn]) (by rw[hn];rfl)) λZ H Q hh=>jY hh λt P st q k=>⟨t,_,st,q,λd v H1 hd s1 r=>⟨d,v,P,rfl,r,hd,λz w hz rz=>k z w H1 hz s1 rz⟩⟩
def dNe:R22:=λx y Q=>match x,y with
 | .int i,.int j=>Q (.bl !(decide (i=j)))
 | .bl i,.bl j=>Q (.bl !(decide (i=j)))
 | .tup xs,.tup ys=>match js (fo 5) xs ys with
  |some b=>Q (.bl !b)
  |none=>False
 | .non,.non=>Q (.bl χ)
 |_,_=>False
theorem Xr(hr:dc k X.A):j3 X (compareOp .NotEq) dNe:=by
 intro Γ s Z H x y v u Q I rx ry bj;obtain⟨d,e,P,r1,r2,q,kk⟩:=bj;have hu:=hr.un;unfold dNe at q;split at q
 ·rename_i i j;rw[r1.int_inv] at rx;rw[r2.int_inv] at ry;obtain⟨t,rfl⟩:=rx;obtain⟨t',rfl⟩:=ry;have e:(!(decide (i=j))) = !(i == j):=by rw[oR]
  rw[e] at q;exact SeqAt.RcNeAt.int_int i t j t' _ _ _ _ ⟨.bl _,H,I,rfl,kk _ _ H q (ag.refl H) (.bl _)⟩
 ·rename_i i j;rw[r1.bl_inv] at rx;rw[r2.bl_inv] at ry;cases rx;cases ry;have e:(!(decide (i=j))) = !(i == j):=by rw[oR]
  rw[e] at q;exact SeqAt.RcNeAt.bool_bool i j _ _ _ _ ⟨.bl _,H,I,rfl,kk _ _ H q (ag.refl H) (.bl _)⟩
 ·rename_i xs ys;split at q
  ·rename_i b h;obtain⟨a,vs,rfl,h1,q1⟩:=r1.tup;obtain⟨c,ws,rfl,h2,q2⟩:=r2.tup;cases rx;cases ry;obtain⟨its,rv,ht,_⟩:=I.tuple (f8.of h1);obtain⟨f7,qa,vp,_⟩:=I.tuple (f8.of h2);have l1:xs.length=its.length:=q1.length.trans rv.length;have l2:ys.length=f7.length:=q2.length.trans qa.length;have rc:SeqAt.RcNeAt X.A s (.ref a) (.ref c) (!b):=by
    have:=SeqAt.RcNeAt.tuples (A:=X.A) (s:=s) (e:=λj=>match xs[j]?,ys[j]? with |some x,ψ y=>(fo 5 x y).getD χ |_,_=>χ) ht vp ν (λj g1 g2=>?_)
    ·simp only[bI,<-l1,<-l2] at this;have al:=EQ h;rw[<-al];exact this
    ·simp only[bI] at g1 g2;have e1:xs[j]?=ψ (xs[j]'ν):=aG _;have e2:ys[j]?=ψ (ys[j]'ν):=aG _;obtain⟨k,hk⟩:=JL h j _ _ e1 e2;rw[e1,e2];simp only[hk,lM];obtain⟨v1,f1,f2⟩:=q1.get e1;obtain⟨v2,f3,f4⟩:=q2.get e2;obtain⟨u1,g3,g4⟩:=rv.get f1;obtain⟨u2,g5,g6⟩:=qa.get f3;have a1:its.toArray[j]=u1:=by
      have:=aG g1;rw[this] at g3;simpa using eK g3
     have a2:f7.toArray[j]=u2:=by
      have:=aG g2;rw[this] at g5;simpa using eK g5
     rw[a1,a2];exact(zX I 5 hk f2 f4 g4 g6 (by show X.A.units+1+5<cLine;lia)).2
   exact rc _ _ _ _ ⟨.bl _,H,I,rfl,kk _ _ H q (ag.refl H) (.bl _)⟩
  ·exact q.elim
 ·have non:∀{v:V},dm X.K H .non v->v = .non:=λr=>by
   rcases r with r | ⟨_,_,_,e,_⟩
   ·cases r;rfl
   ·cases e
  rw[non r1] at rx;rw[non r2] at ry;cases rx;cases ry;exact SeqAt.RcNeAt.none_none _ _ _ _ ⟨.bl _,H,I,rfl,kk _ _ H q (ag.refl H) (.bl _)⟩
 ·exact q.elim
def Oj:R22:=λx y Q=>match x with
 | .lst xs=>∃j:Nat,(∃d,xs[j]?=ψ d/\fo 6 d y=ψ ζ)/\(∀(i:Nat) d,i<j->xs[i]?=ψ d->fo 6 d y=ψ χ)/\(∀d∈xs,∃b,fo 6 d y=ψ b)/\Q (.int (j:Int))
 |_=>False
theorem RelV.det(h:RelV v u)(h':RelV v' u):v=v':=RelV.inj h h'
end
section
variable{σ:St}{s:aH}
def zw1{α β γ:Type}{f:α->β->γ}{g:γ->α}(hg:∀a b,g (f a b)=a){ks:ω α}:∀{vs:ω β},ks.length=vs.length->(lF f ks vs).map g=ks:=by
 induction ks with
 |nil=>intro vs h;rfl
 |cons k ks ih=>
  intro vs h;cases vs with
  |nil=>cases h
  |cons v vs=>rw[rW,aR,hg,ih (rZ h)]
def zw2{α β γ:Type}{f:α->β->γ}{g:γ->β}(hg:∀a b,g (f a b)=b){ks:ω α}:∀{vs:ω β},ks.length=vs.length->(lF f ks vs).map g=vs:=by
 induction ks with
 |nil=>intro vs h;rw[kF h.symm];rfl
 |cons k ks ih=>
  intro vs h;cases vs with
  |nil=>cases h
  |cons v vs=>rw[rW,aR,hg,ih (rZ h)]
def Qf(x:f6):Int:=match x with
 | .inl i=>i
 | .inr _=>0
def Lk(h1:ks.length=vs.length)(h2:n_.length=Q_.length)(h:CU ks vs=CU n_ Q_):ks=n_/\vs=Q_:=by
 have a:=Φ (qS λx:f6×V=>Qf x.1) h;have b:=Φ (qS λx:f6×V=>x.2) h;unfold CU at a b;rw[zw1 (λ_ _=>rfl) h1,zw1 (λ_ _=>rfl) h2] at a;rw[zw2 (λ_ _=>rfl) h1,zw2 (λ_ _=>rfl) h2] at b;exact⟨a,b⟩
def Gc(h1:ks.length=vs.length)(h2:n_.length=Q_.length)(h:HM ks vs=HM n_ Q_):ks=n_/\vs=Q_:=by
 have a:=Φ (qS λx:ω f6×V=>x.1.map Qf) h;have b:=Φ (qS λx:ω f6×V=>x.2) h;have e:∀(k:ω Int),(k.map (iG:Int->f6)).map Qf=k:=λk=>by rw[dF];exact mR k
 unfold HM at a b;rw[zw1 (g:=λx:ω f6×V=>x.1.map Qf) (λk _=>e k) h1,zw1 (g:=λx:ω f6×V=>x.1.map Qf) (λk _=>e k) h2] at a;rw[zw2 (λ_ _=>rfl) h1,zw2 (λ_ _=>rfl) h2] at b;exact⟨a,b⟩
def NE(I:Inv X Γ σ H s)(h:H a=ψ (.frz o (.dT kvs)))(h':qz X.K H a vs):False:=by
 obtain⟨its,rv,pl,_⟩:=I.list h'.sq;obtain⟨o',e',c',_⟩:=pl.isList;obtain⟨_,_,_,us,_,ob,es,ep,e,c,_⟩:=I.hok a _ h;rw[e] at e';cases e';rw[c.1] at c';simp at c'
def NC(I:Inv X Γ σ H s)(h:H a=ψ (.frz o (.dK kvs)))(h':qz X.K H a vs):False:=by
 obtain⟨its,rv,pl,_⟩:=I.list h'.sq;obtain⟨o',e',c',_⟩:=pl.isList;obtain⟨_,_,_,us,_,ob,es,ep,e,c,_⟩:=I.hok a _ h;rw[e] at e';cases e';rw[c.1] at c';simp at c'
mutual
theorem dk.det(I:Inv X Γ σ H s):∀{d d':D}{v:V},dk X.K H d v->dk X.K H d' v->d=d'
 |_,_,_,.non,r=>by cases r;rfl
 |_,_,_,.bl b,r=>by cases r;rfl
 |_,_,_,.int i,r=>by cases r;rfl
 |_,_,_,.str x,r=>by cases r;rfl
 |_,_,_,.tup h q,r=>by
  cases r with
  |tup h' q'=>rw[h] at h';cases h';rw[ak.det I q q']
  |lst h' q'=>
   obtain⟨its,rv,pl,_⟩:=I.list h'.sq;obtain⟨vt,rv',⟨o,e,c,_⟩,_⟩:=I.tuple (f8.of (K:=X.K) h);obtain⟨o',e',c',_⟩:=pl.isList;rw[e] at e';cases e';rw[c] at c';simp at c'
  |dct h' _ _=>rw[h] at h';cases h'
  |dtt h' _ _=>rw[h] at h';cases h'
 |_,_,_,.dct h hl q,r=>by
  cases r with
  |tup h' q'=>rw[h] at h';cases h'
  |lst h' q'=>exact(NC I h h').elim
  |dct h' x_ q'=>
   rw[h] at h';obtain⟨rfl,rfl⟩:=Lk hl x_ (by injection h' with e;injection e with _ e;injection e);rw[ak.det I q q']
  |dtt h' _ _=>rw[h] at h';cases h'
 |_,_,_,.dtt h hl q,r=>by
  cases r with
  |tup h' q'=>rw[h] at h';cases h'
  |lst h' q'=>exact(NE I h h').elim
  |dct h' _ _=>rw[h] at h';cases h'
  |dtt h' x_ q'=>
   rw[h] at h';obtain⟨rfl,rfl⟩:=Gc hl x_ (by injection h' with e;injection e with _ e;injection e);rw[ak.det I q q']
 |_,_,_,.lst h q,r=>by
  cases r with
  |tup h' q'=>
   obtain⟨its,rv,pl,_⟩:=I.list h.sq;obtain⟨vt,rv',⟨o,e,c,_⟩,_⟩:=I.tuple (f8.of (K:=X.K) h');obtain⟨o',e',c',_⟩:=pl.isList;rw[e] at e';cases e';rw[c] at c';simp at c'
  |lst h' q'=>rw[I.list_inj h'.sq h.sq] at q';rw[ak.det I q q']
  |dct h' _ _=>exact(NC I h' h).elim
  |dtt h' _ _=>exact(NE I h' h).elim
theorem ak.det(I:Inv X Γ σ H s):∀{d d':ω D}{v:ω V},ak X.K H d v->ak X.K H d' v->d=d'
 |_,_,_,.nil,r=>by cases r;rfl
 |_,_,_,.cons h t,r=>by
  cases r with
  |cons h' t'=>rw[dk.det I h h',ak.det I t t']
end
end
section
variable{X:Cx}{e a b:Expr}{te ta tb:RE}
def Hk(ta tb:RE):RE:=λc Q=>ta c λx=>(∃xs,x = .lst xs)/\tb c λy=>Oj x y Q
theorem Pb{k:Nat}{apos cpos:Pos}(hr:dc k X.A)(ha:DB X a ta)(hb:DE X b tb)(gq:attributeBase a "index" X.env (eval a X.env)=eval a X.env:=by rfl)
  (mr:((backTo cpos (starEach [b] X.env)).all (λx=>!x.1) && (backToKw cpos (keywordEach [] X.env)).all (λx=>x.1.isSome) && decide (([b]:ω Expr).length+([]:ω qW).length+(if([]:ω qW).isEmpty then 0 else 1)<30))=ζ:=by rfl)
  (gt:(apos.endLine == cpos.line)=ζ:=by rfl) (hs:starEach [b] X.env=[(χ,eval b X.env)]:=by rfl) (hn:starEach [] X.env=[]:=by rfl):
  DE X (.Call (.Attribute a "index" apos) [b] [] cpos) (Hk ta tb):=by
 have mt:U' X "list.index" (λx vs H Q=>∃(d e:D)(u:V)(P:D->Prop),vs=[u]/\dm X.K H d x/\dk X.K H e u/\Oj d e P/\∀z w,P z->dk X.K H z w->Q w H):=by
  intro Γ s Z H x vs v us Q I rx rv bj;obtain⟨d,e,u,P,ev,rd,re,q,kk⟩:=bj;subst ev;obtain⟨u',rfl,ru⟩:=rv.one;cases d with
  |lst xs=>
   obtain⟨j,⟨dj,ej,hj⟩,z6,df,q⟩:=q;obtain⟨l,vs,rfl,hq,rr⟩:=rd.lst;cases rx;obtain⟨its,kc,pl,hz⟩:=I.list hq;obtain⟨⟨cls,dd,data,sl⟩,ho,hc,n,hd⟩:=pl.isList;simp only at hc hd;subst hc hd;have l1:=rr.length;have l2:=kc.length;have hu:=hr.un;have hjl:j<xs.length:=(cB.mp ej).1;let ev:aF->Bool:=λy=>(fH xs.length).any λi=>match xs[i]?,its[i]? with
    |some d,ψ z=>z == y && fo 6 d e == ψ ζ
    |_,_=>χ
   have each:∀(i:Nat)(y:aF),its[i]?=ψ y->∃d v,xs[i]?=ψ d/\dk X.K H d v/\RelV v y/\∃b,fo 6 d e=ψ b:=λi y ey=>by
    have hi:i<xs.length:=(by have:=(cB.mp ey).1;lia);obtain⟨v,e1,e2⟩:=rr.get (aG hi);obtain⟨y',f1,f2⟩:=kc.get e1;rw[ey] at f1;cases f1;exact⟨_,v,aG hi,e2,f2,df _ (pZ hi)⟩
   have wq:∀(i:Nat)(y:aF)(d:D)(b:Bool),its[i]?=ψ y->xs[i]?=ψ d->fo 6 d e=ψ b->ev y=b:=λi y d b ey ed hb=>by
    obtain⟨d',v,q1,q2,q3,_⟩:=each i y ey;rw[ed] at q1;cases q1;cases b with
    |true=>
     have hi:i<xs.length:=(cB.mp ed).1;refine List.any_eq_true.mpr ⟨i,kJ.mpr hi,?_⟩;simp only[ed,ey,hb];simp
    |false=>
     refine II.mpr λi' jx=>?_;cases ex:xs[i']? with
     |none=>simp
     |some d'=>
      cases ez:its[i']? with
      |none=>simp
      |some z=>
       simp only[jI,beq_iff_eq,not_and];intro hz w6;subst hz;obtain⟨d2,v2,p1,p2,p3,_⟩:=each i' z ez;rw[ex] at p1;cases p1;have:=RelV.det q3 p3;subst this;rw[dk.det I q2 p2] at hb;rw[hb] at w6;cases w6
   have y8:∀(i:Nat)(h:i<its.toArray.size),its[i]?=ψ its.toArray[i]:=λi h=>by
    have h':i<its.length:=(by simpa using h);rw[aG h'];simp
   refine zP F.slot_list_index ⟨_,ho,rfl⟩ F.entry_list_index (F.args_list_index_2 _ _) (SeqAt.list_indexAt l its.toArray n dd sl u' ev j θ ?_ ?_ λm hm e_=>?_) ⟨ho,λy hy=>?_,?_⟩
   ·have hs:(sizeLine:Int)<2 ^ 63-1:=η;lia
   ·exact wq j _ dj ζ (y8 j _) ej hj
   ·have hm':m<xs.length:=(by simp at hm;lia);exact wq m _ xs[m] χ (y8 m hm) (aG hm') (z6 m _ e_ (aG hm'))
   ·obtain⟨i,hi,rfl⟩:=eB (List.mem_toArray.mp hy);obtain⟨d,v,q1,q2,q3,b,hb⟩:=each i its[i] (aG hi);rw[wq i _ d b (aG hi) q1 hb];exact(zX I 6 hb q2 re q3 ru (by show X.A.units+1+6<cLine;lia)).2
   ·exact⟨.int (j:Int),H,I.tok _,⟨_,rfl⟩,kk _ _ q (.int _)⟩
  |_=>exact q.elim
 refine PE.mono (Cr kQ PySem.F.slot_list_index PySem.F.type_list_index mt ha (sG hb hs hn) gq mr gt (by rw[hs,hn]) (by rw[hn];rfl)) λZ H Q hh=>jY hh λc P st q k=>⟨c,_,st,q,λx v H1 hx s1 r1=>⟨?_,c,_,st.ext s1,hx.2,λy u H2 hy s2 r2=>⟨x,y,u,P,rfl,r1.same s2,r2,hy,λz w hz rz=>k z w H2 hz (s1.trans s2) rz⟩⟩⟩;obtain⟨⟨xs,rfl⟩,_⟩:=hx;obtain⟨l,vs,rfl,hq,_⟩:=r1.lst;exact .inl ⟨rfl,vs,hq⟩
end
end
section
open PySem PySem.SetTable
def yb(N i:Nat):Nat:=(i*5+1) % N
def YT(N:Nat):Nat->Nat->Nat
 | 0,i=>i
 |m+1,i=>YT N m (yb N i)
theorem JN(N:Nat):∀a b i,YT N (a+b) i=YT N b (YT N a i)
 | 0,b,i=>by rw[uW];rfl
 |a+1,b,i=>by rw[Nat.add_right_comm];exact JN N a b (yb N i)
def Kg(N:Nat):Nat->Nat->ω Nat
 | 0,_=>[]
 |m+1,i=>i::Kg N m (yb N i)
theorem MF:∀{m i:Nat},j∈Kg N m i->∃k,k<m/\YT N k i=j
 | 0,_,h=>by cases h
 |m+1,i,h=>by
  rcases aO.mp h with rfl |h
  ·exact⟨0,ν,rfl⟩
  ·obtain⟨k,hk,e⟩:=MF h;exact⟨k+1,ν,e⟩
def ii(N:Nat):Prop:=(∀j,j<N->j∈Kg N N 0)/\YT N N 0=0
def TQ(h:((fH N).all λj=>(Kg N N 0).contains j)=ζ)(k:YT N N 0=0):ii N:=
 ⟨λj hj=>by have:=pY.mp h j (kJ.mpr hj);simpa using this,k⟩
def E1:ii 8:=TQ ι ι
def Vz:ii 32:=TQ ι ι
def Sf:ii 128:=TQ ι ι
def ii.reach(h:ii N)(hi:i<N)(hj:j<N):∃k,k<N/\YT N k i=j:=by
 obtain⟨a,ha,ea⟩:=MF (h.1 i hi);obtain⟨b,hb,eb⟩:=MF (h.1 j hj);by_cases dq:a<=b
 ·refine⟨b-a,ν,?_⟩;rw[<-ea,<-JN,show a+(b-a)=b by lia,eb]
 ·refine⟨b+(N-a),ν,?_⟩;rw[<-ea,<-JN,show a+(b+(N-a))=N+b by lia,JN,h.2,eb]
def Em(P:Nat->Prop)(mask:Nat):Nat->Nat->Nat->Prop
 | 0,i,_=>P i
 |m+1,i,pt=>Em P mask m (leap mask i pt).1 (leap mask i pt).2
theorem Hz{P:Nat->Prop}{mask:Nat}:∀m i,P (YT (mask+1) m i)->Em P mask m i 0
 | 0,_,h=>h
 |m+1,i,h=>by
  unfold Em;have e:leap mask i 0=(yb (mask+1) i,0):=by simp[leap,yb]
  rw[e];exact Hz m (yb (mask+1) i) h
theorem Ew{P:Nat->Prop}{mask:Nat}(R:ii (mask+1)){j:Nat}(hj:j<=mask)(hP:P j):∀(b i pt:Nat),i<=mask->pt<32 ^ b->∃m,m<=mask+b/\Em P mask m i pt
 | 0,i,pt,hi,hp=>by
  have:pt=0:=by simpa using hp
  subst this;obtain⟨k,hk,e⟩:=R.reach (i:=i) (j:=j) ν ν;exact⟨k,ν,Hz k i (by rw[e];exact hP)⟩
 |b+1,i,pt,hi,hp=>by
  have h1:(leap mask i pt).1<=mask:=by unfold leap;exact mS (lU _ ν)
  have h2:(leap mask i pt).2<32 ^ b:=by
   unfold leap;dsimp only;rw[Nat.pow_succ] at hp;lia
  obtain⟨m,hm,e⟩:=Ew R hj hP b _ _ h1 h2;exact⟨m+1,ν,e⟩
def Ik(h:Int):bits h<32 ^ 13:=by
 unfold bits;have:(h % (2 ^ 64:Int))<2 ^ 64:=vN _ η;have h2:0<=h % (2 ^ 64:Int):=AH _ η;have:(h % (2 ^ 64:Int)).toNat<2 ^ 64:=ν
 exact cF this η
theorem xT{α:Type}[DecidableEq α]:∀(l m:ω α),l.Nodup->(∀x∈l,x∈m)->l.length<=m.length
 | [],_,_,_=>gH _
 |x::l,m,hn,hs=>by
  have hx:=hs x δ;have n8:=fS.mp hn;have:=xT l (m.erase x) n8.2 λy hy=>by
   have ne:y≠x:=λe=>n8.1 (e▸hy);exact(BZ ne).mpr (hs y (by simp[hy]))
  rw[xI hx] at this;have:0<m.length:=zG hx;simp;lia
structure fh(t:SetTable)(n:Nat):Prop where
 size:t.place.size=n
 dum:t.dummies = #[]
 room:n<=t.mask
 round:ii (t.mask+1)
 ris:t.place.toList.Pairwise (· < ·)
def slot_of{t:SetTable}(hd:t.dummies = #[])(j:Nat):t.slot j = .empty\/∃i,t.slot j = .live i/\t.place[i]?=ψ j:=by
 unfold slot;dsimp only;by_cases h:(t.place[below t.place j]? == ψ j)=ζ
 ·rw[Ω h];exact cX ⟨_,rfl,by simpa using h⟩
 ·rw[υ h,hd,υ (by simp[has])];exact dA rfl
def Hu(T:fh t n):∃j,j<=t.mask/\t.slot j = .empty:=by
 apply bK;intro hn;have all:∀j∈fH (t.mask+1),j∈t.place.toList:=by
  intro j hj;rcases slot_of T.dum j with h | ⟨i,h,e⟩
  ·exact Ψ ⟨j,by have:=kJ.mp hj;lia,h⟩ hn
  ·rw[kD];exact Array.mem_of_getElem? e
 have:=xT _ _ LB all;rw[IL,dD,T.size] at this;have:=T.room;lia
def VP(t:SetTable)(p:Probe)(m:Nat):Prop:=p.dummy=ξ/\p.more<=9/\Em (λj=>t.slot j = .empty) t.mask m p.i p.perturb/\(m=0->p.j=p.i)
def OM(p:Probe)(m:Nat):Nat:=p.more+10*m
def EW(mask i:Nat):runEnd mask i-i<=9:=by unfold runEnd;split <;> lia
def Af(h:VP t p m)(hn:t.slot p.j≠.empty):∃m',VP t (t.advance p) m'/\OM (t.advance p) m'<OM p m:=by
 obtain⟨hd,hm,he,hj⟩:=h;have m0:m≠0:=by rintro rfl;rw[hj rfl] at hn;exact hn he
 unfold advance;split
 ·refine⟨m,⟨hd,by dsimp only;lia,he,λe=>Ψ e m0⟩,by unfold OM;dsimp only;lia⟩
 ·obtain⟨k,rfl⟩:∃k,m=k+1:=⟨m-1,ν⟩;refine⟨k,⟨hd,EW _ _,he,λ_=>rfl⟩,?_⟩;unfold OM;have:=EW t.mask (leap t.mask p.i p.perturb).1;dsimp only;lia
theorem Da(hd:t.dummies = #[])(hashAt:Nat->Int)(h:Int):∀(fuel:Nat)(p:Probe)(m:Nat),VP t p m->OM p m<fuel ->
  (∃j,Cz t hashAt h fuel p=ψ (.empty j ξ)/\t.slot j = .empty)\/(∃j i next m',Cz t hashAt h fuel p=ψ (.candidate j i next)/\t.slot j = .live i/\t.place[i]?=ψ j/\VP t next m'/\OM next m'<OM p m)
 | 0,_,_,_,h=>Ψ h (oM _)
 |fuel+1,p,m,hi,hf=>by
  unfold Cz;rcases slot_of hd p.j with e | ⟨i,e,ep⟩
  ·rw[e];dsimp only;rw[hi.1];exact dA ⟨_,rfl,e⟩
  ·rw[e];dsimp only;obtain⟨m',jx,hl⟩:=Af hi (by rw[e];exact λx=>nomatch x);split
   ·exact cX ⟨_,_,_,m',rfl,e,ep,jx,hl⟩
   ·rcases Da hd hashAt h fuel (t.advance p) m' jx ν with r | ⟨j,i,nx,m'',r,r2,r3,r4,r5⟩
    ·exact dA r
    ·exact cX ⟨j,i,nx,m'',r,r2,r3,r4,ν⟩
def Na(T:fh t n)(h:Int):∃m,VP t (t.probeStart h) m/\OM (t.probeStart h) m<10*turns t.mask:=by
 obtain⟨j,hj,he⟩:=Hu T;obtain⟨m,hm,e⟩:=Ew (P:=λj=>t.slot j = .empty) T.round hj he 13 (bits h % (t.mask+1)) (bits h) (mS (lU _ ν)) (Ik h);refine⟨m,⟨rfl,EW _ _,e,λ_=>rfl⟩,?_⟩;have:=EW t.mask (bits h % (t.mask+1));unfold OM probeStart turns;dsimp only;lia
theorem Je{mask:Nat}{owner:Array (Option Nat)}:∀(fuel m i pt:Nat),i<=mask->owner.size=mask+1->Em (λj=>owner.getD j (ψ 0)=ξ) mask m i pt->m<fuel->∃j,tQ mask owner fuel i pt=ψ j/\j<=mask/\owner.getD j (ψ 0)=ξ
 | 0,_,_,_,_,_,_,h=>Ψ h (oM _)
 |fuel+1,m,i,pt,hi,hs,he,hf=>by
  unfold tQ;cases hq:(fH (runEnd mask i+1-i)).find? λk=>(owner.getD (i+k) (ψ 0)).isNone with
  |some k=>
   have h1:=List.find?_some hq;have h2:=List.mem_of_find?_eq_some hq;have h3:=kJ.mp h2;refine⟨i+k,rfl,?_,by simpa using h1⟩;have:runEnd mask i<=mask:=(by unfold runEnd;split <;> lia);lia
  |none=>
   dsimp only;have hn:owner.getD i (ψ 0)≠ξ:=by
    have h0:=List.find?_eq_none.mp hq 0 (kJ.mpr (by unfold runEnd;split <;> lia));simpa using h0
   obtain⟨k,rfl⟩:∃k,m=k+1:=by
    cases m with
    |zero=>exact Ψ he hn
    |succ k=>exact⟨k,rfl⟩
   exact Je fuel k _ _ (by unfold leap;exact mS (lU _ ν)) hs he ν
def JZ(owner:Array (Option Nat))(n:Nat):ω Nat:=(fH n).filterMap λj=>owner.getD j ξ
theorem Bj{α:Type}{f g:Nat->Option α}:∀(l:ω Nat),(∀a∈l,f a=g a)->l.filterMap f=l.filterMap g
 | [],_=>rfl
 |a::l,h=>by rw[fI,fI,h a δ,Bj l λb hb=>h b (by simp[hb])]
theorem FN{α:Type}{f g:Nat->Option α}{x:α}:∀(l:ω Nat),l.Nodup->j∈l->(∀i,i≠j->f i=g i)->f j=ξ->g j=ψ x->(l.filterMap g).Perm (x::l.filterMap f)
 | [],_,h,_,_,_=>by cases h
 |i::l,hn,hj,hfg,hf,hg=>by
  have n8:=fS.mp hn;by_cases e:i=j
  ·subst e;rw[fI,fI,hf,hg];dsimp only;have:l.filterMap g=l.filterMap f:=by
    exact Bj l λa ha=>(hfg a (λe=>n8.1 (e▸ha))).symm
   rw[this]
  ·have r_:j∈l:=(by rcases aO.mp hj with h |h;exact Ψ h.symm e;exact h);have ih:=FN l n8.2 r_ hfg hf hg;rw[fI,fI,hfg i e];cases g i with
   |none=>exact ih
   |some y=>exact(ih.cons y).trans (List.Perm.swap x y _)
def Me{N c:Nat}(hp:(JZ owner N).Perm (fH c))(hs:owner.size=N)(hc:c<N):∃j,j<N/\owner.getD j (ψ 0)=ξ:=by
 apply bK;intro hn;have key:∀(l:ω Nat),(∀j∈l,∃k,owner.getD j ξ=ψ k)->(l.filterMap λj=>owner.getD j ξ).length=l.length:=by
  intro l
  induction l with
  |nil=>intro _;rfl
  |cons j l ih=>
   intro h;obtain⟨k,e⟩:=h j δ;rw[fI,e];have:=ih λj hj=>h j (by simp[hj]);rw[bP,bP,this]
 have:=key (fH N) (by
  intro j hj;have r_:=kJ.mp hj;cases h:owner.getD j ξ with
  |some k=>exact⟨k,rfl⟩
  |none=>
   refine Ψ ⟨j,r_,?_⟩ hn;have lt:j<owner.size:=ν;simp[lP,lt] at h⊢;exact h)
 have e:=hp.length_eq;unfold JZ at e;rw[this] at e;simp at e;lia
theorem Bu{mask:Nat}(R:ii (mask+1)):∀(hs:ω Int)(owner:Array (Option Nat))(c:Nat),owner.size=mask+1->(JZ owner (mask+1)).Perm (fH c)->c+hs.length<=mask+1 ->
  ∃o_ ,(hs.foldl (λacc h=>do
    let (owner,k) <-acc;let j <-tQ mask owner (turns mask) (bits h % (mask+1)) (bits h)
    pure (owner.setIfInBounds j (ψ k),k+1)) (ψ (owner,c)))=ψ (o_,c+hs.length)/\o_.size=mask+1/\(JZ o_ (mask+1)).Perm (fH (c+hs.length))
 | [],owner,c,hs,hp,_=>⟨owner,rfl,hs,hp⟩
 |h::hs,owner,c,hz,hp,hl=>by
  simp only[bP] at hl;obtain⟨j0,hj0,e0⟩:=Me hp hz ν;obtain⟨m,hm,em⟩:=Ew (P:=λj=>owner.getD j (ψ 0)=ξ) R (j:=j0) ν e0 13 (bits h % (mask+1)) (bits h) (mS (lU _ ν)) (Ik h);obtain⟨j,ej,hj,ef⟩:=Je (turns mask) m _ _ (mS (lU _ ν)) hz em (by unfold turns;lia);rw[tZ];have step:((do
    let (owner,k) <-ψ (owner,c);let j <-tQ mask owner (turns mask) (bits h % (mask+1)) (bits h)
    pure (owner.setIfInBounds j (ψ k),k+1)):Option (Array (Option Nat)×Nat))=ψ (owner.setIfInBounds j (ψ c),c+1):=by
   show(tQ mask owner (turns mask) (bits h % (mask+1)) (bits h) >>= λj=>_)=_;rw[ej];rfl
  rw[step];have lt:j<owner.size:=ν
  have perm:(JZ (owner.setIfInBounds j (ψ c)) (mask+1)).Perm (fH (c+1)):=by
   unfold JZ;refine(FN (f:=λi=>owner.getD i ξ) (x:=c) (j:=j) _ LB (kJ.mpr ν) ?_ ?_ ?_).trans ?_
   ·intro i hi;simp only[iE];rw[Array.getElem?_setIfInBounds_ne (Ne.symm hi)]
   ·simp only[iE] at ef⊢;have:owner[j]?=ψ owner[j]:=cR lt;rw[this] at ef⊢;exact ef
   ·simp only[iE];rw[Array.getElem?_setIfInBounds_self_of_lt lt];rfl
   ·rw[NY (n:=c)];exact(List.Perm.cons c hp).trans (List.perm_append_comm (l₁:=[c]))
  obtain⟨o',r1,r2,r3⟩:=Bu R hs (owner.setIfInBounds j (ψ c)) (c+1) (by simp[hz]) perm ν;refine⟨o',?_,r2,?_⟩
  ·rw[r1,bP,show c+1+hs.length=c+(hs.length+1) by lia]
  ·rw[bP,show c+(hs.length+1)=c+1+hs.length by lia];exact r3
def Uj{mask:Nat}(R:ii (mask+1))(finger moves:Nat)(led plain:Bool)(hashes:Array Int)(hl:hashes.size<=mask):
  ∃t order,laid mask finger moves led plain hashes=ψ (t,order)/\fh t hashes.size/\t.mask=mask/\t.led=led/\t.plain=plain/\order.toList.Perm (fH hashes.size):=by
 obtain⟨o,e,sz,pm⟩:=Bu R hashes.toList (NS (mask+1) ξ) 0 δ (by
  have:JZ (NS (mask+1) ξ) (mask+1)=[]:=by
   unfold JZ;rw[List.filterMap_eq_nil_iff];intro j hj;have:=kJ.mp hj;simp[iE,this]
  rw[this];exact BX _) (by rw[dD];lia)
 have el:layClean mask hashes=ψ o:=by
  unfold layClean;rw[<-Array.foldl_toList];have e':=e;simp only[uW] at e';rw[e'];rfl
 unfold laid;rw[el];simp only[uW,dD] at pm;have e2:∀l:ω Nat,(l.filterMap λj=>(o.getD j ξ).map (j,·)).map (·.2)=l.filterMap λj=>o.getD j ξ:=by
  intro l
  induction l with
  |nil=>rfl
  |cons j l ih=>
   rw[fI,fI];cases o.getD j ξ with
   |none=>exact ih
   |some k=>exact Φ (k :: ·) ih
 have e3:∀l:ω Nat,((l.filterMap λj=>(o.getD j ξ).map (j,·)).map (·.1)).Sublist l:=by
  intro l
  induction l with
  |nil=>exact IH _
  |cons j l ih=>
   rw[fI];cases o.getD j ξ with
   |none=>exact ih.cons j
   |some k=>exact ih.cons_cons j
 refine⟨_,_,rfl,⟨?_,rfl,hl,R,mB (e3 _) List.pairwise_lt_range⟩,rfl,rfl,rfl,?_⟩
 ·have h1:=Φ eW (e2 (fH (mask+1)));have h2:=pm.length_eq;unfold JZ at h2;simp only[aY,IL] at h1 h2;simp only[bI,aY];lia
 ·dsimp only;rw[e2];exact pm
theorem QQ(hr:xs.toList.Pairwise (· < ·)):∀(fuel lo hi:Nat),lo<=hi->hi<=xs.size->hi-lo<=fuel->(∀i x,i<lo->xs[i]?=ψ x->x<j)->(∀i x,hi<=i->xs[i]?=ψ x->j<=x) ->
  QP xs j fuel lo hi<=xs.size/\(∀i x,i<QP xs j fuel lo hi->xs[i]?=ψ x->x<j)/\(∀i x,QP xs j fuel lo hi<=i->xs[i]?=ψ x->j<=x)
 | 0,lo,hi,h1,h2,h3,a,b=>by
  have:lo=hi:=ν
  subst this;exact⟨h2,a,b⟩
 |fuel+1,lo,hi,h1,h2,h3,a,b=>by
  unfold QP;by_cases hl:lo<hi
  ·rw[Ω hl];dsimp only;generalize hm:(lo+hi) / 2=m;have m1:lo<=m/\m<hi:=ν;clear hm;have hm:m<xs.size:=ν;have em:xs[m]?=ψ xs[m]:=cR hm;have eg:xs.getD m j=xs[m]:=(by simp[lP,hm]);have mono:∀(i k x y:Nat),i<k->xs[i]?=ψ x->xs[k]?=ψ y->x<y:=by
    intro i k x y oq ex ey;have hk:k<xs.size:=(lQ.mp ey).1;have:=mI.mp hr i k θ (by simpa using hk) oq;rw[cR ν] at ex;rw[cR hk] at ey;cases ex;cases ey;simpa using this
   rw[eg];split
   ·rename_i h;refine QQ hr fuel _ _ ν h2 ν (λi x hq ex=>?_) b;by_cases he:i=m
    ·subst he;rw[em] at ex;cases ex;exact h
    ·exact qC (mono i m x _ ν ex em) h
   ·rename_i h;refine QQ hr fuel _ _ ν ν ν a (λi x hq ex=>?_);by_cases he:i=m
    ·subst he;rw[em] at ex;cases ex;lia
    ·have:=mono m i _ x ν em ex;lia
  ·rw[υ hl];have:lo=hi:=ν;subst this;exact⟨h2,a,b⟩
def Aj(j:Nat)(hr:xs.toList.Pairwise (· < ·)):below xs j<=xs.size/\(∀i x,i<below xs j->xs[i]?=ψ x->x<j)/\(∀i x,below xs j<=i->xs[i]?=ψ x->j<=x):=
 QQ hr xs.size 0 xs.size (gH _) (bU _) ν (λi x h=>Ψ h (oM _)) λi x h e=>by
  have:=(lQ.mp e).1;lia
def xS{α:Type}(xs:Array α)(p:Nat)(x:α)(hp:p<=xs.size):(insertAt xs p x).toList=xs.toList.take p++x::xs.toList.drop p:=by
 unfold insertAt;rw[Array.toList_append,HY,BK,BK];simp only[List.extract_eq_drop_take,zL,QI,gA,BE];congr 2;rw[oD δ]
def FO{α:Type}(xs:Array α)(p:Nat)(x:α)(hp:p<=xs.size):(insertAt xs p x).size=xs.size+1:=by
 rw[<-dD,xS xs p x hp];simp;lia
def YV{α:Type}(xs:Array α)(p:Nat)(x:α)(hp:p<=xs.size)(y:α):y∈(insertAt xs p x).toList↔y=x\/y∈xs.toList:=by
 rw[xS xs p x hp,bQ,aO];constructor
 ·rintro (h |h |h)
  ·exact cX (kH h)
  ·exact dA h
  ·exact cX (CB h)
 ·rintro (h |h)
  ·exact cX (dA h)
  ·rw[<-oV p xs.toList] at h;rcases bQ.mp h with h |h
   ·exact dA h
   ·exact cX (cX h)
def C9(T:fh t n)(he:t.slot j = .empty)(hr:n+1<=t.mask):fh (t.put j).1 (n+1)/\(t.put j).2=below t.place j/\below t.place j<=n/\(t.put j).1.mask=t.mask/\(t.put j).1.led=t.led/\(t.put j).1.plain=t.plain/\(t.put j).1.moves=t.moves:=by
 obtain⟨b1,b2,b3⟩:=Aj j T.ris;have hn:t.place[below t.place j]?≠ψ j:=by
  intro h;unfold slot at he;dsimp only at he;rw[Ω (by simpa using h)] at he;cases he
 have hd:(if has t.dummies j=ζ then eraseAt t.dummies (below t.dummies j) else t.dummies) = #[]:=by
  rw[T.dum];simp[has]
 refine⟨⟨?_,hd,hr,T.round,?_⟩,rfl,by rw[<-T.size];exact b1,rfl,rfl,rfl,rfl⟩
 ·show(insertAt t.place _ j).size=_;rw[FO _ _ _ b1,T.size]
 ·show(insertAt t.place _ j).toList.Pairwise _;rw[xS _ _ _ b1];refine kK.mpr ⟨mB (IM _ _) T.ris,cN.mpr ⟨λx hx=>?_,mB (List.drop_sublist _ _) T.ris⟩,λx hx y hy=>?_⟩
  ·obtain⟨i,hi,e⟩:=eB hx;simp only[nN,dD] at hi;rw[IK] at e;have ex:t.place[below t.place j+i]?=ψ x:=(by rw[cR ν,<-e];simp);have:=b3 _ x ν ex;rcases GX this with h |h
   ·exact h
   ·subst h;exfalso;cases i with
    |zero=>exact hn ex
    |succ i=>
     have hp:below t.place j<t.place.size:=ν;have e0:t.place[below t.place j]?=ψ t.place[below t.place j]:=cR hp;have g1:=b3 _ _ (bU _) e0;have g2:=mI.mp T.ris (below t.place j) (below t.place j+(i+1)) (by simpa using hp) θ ν;rw[cR ν] at ex;injection ex with ex;simp at g2;lia
  ·obtain⟨i,hi,e⟩:=eB hx;simp only[nQ,dD] at hi;rw[List.getElem_take] at e;have ex:t.place[i]?=ψ x:=(by rw[cR ν,<-e];simp);have lx:=b2 i x ν ex;rcases aO.mp hy with rfl |hy
   ·exact lx
   ·obtain⟨k,hk,e'⟩:=eB hy;simp only[nN,dD] at hk;rw[IK] at e';have ey:t.place[below t.place j+k]?=ψ y:=(by rw[cR ν,<-e'];simp);have:=b3 _ y ν ey;lia
def vB(t:SetTable)(k:Nat):Nat:=if k=0 then 0 else t.place.getD (k-1) 0+1
def Gk(T:fh t n)(hk:k<=n):below t.place (vB t k)=k:=by
 obtain⟨b1,b2,b3⟩:=Aj (vB t k) T.ris;have mono:∀(i k x y:Nat),i<k->t.place[i]?=ψ x->t.place[k]?=ψ y->x<y:=by
  intro i k x y oq ex ey;have hk:k<t.place.size:=(lQ.mp ey).1;have:=mI.mp T.ris i k θ (by simpa using hk) oq;rw[cR ν] at ex;rw[cR hk] at ey;cases ex;cases ey;simpa using this
 have sz:=T.size;have om:∀i,i<n->t.place[i]?=ψ (t.place.getD i 0):=by
  intro i hi;rw[cR ν];have:i<t.place.size:=ν
  simp[lP,this]
 rcases IQ (below t.place (vB t k)) k with h |h |h
 ·exfalso;have:=b3 (k-1) _ ν (om (k-1) ν);unfold vB at this;rw[υ ν] at this;lia
 ·exact h
 ·exfalso;have ek:=om k ν;have h1:=b2 k _ h ek;unfold vB at h1;by_cases h0:k=0
  ·rw[Ω h0] at h1;lia
  ·rw[υ h0] at h1;have:=mono (k-1) k _ _ ν (om (k-1) ν) ek;lia
section
variable{prog:cC}{w:cZ}{A:dJ}{E:aF->aH->Prop}{s:aH}
theorem Ek(hk:IsTupleKey (intKind prog w) s.heap ks a)(q:Q χ s):Δ prog w A (ofAClassStatement 8 (.ref a)) Q E s:=by
 have hT:=hk.typeIs;obtain⟨o,items,n,ho,_,hd,hi⟩:=hk;unfold ofAClassStatement;refine aA (sK hT ?_);dsimp only;rw[Ω η];refine aA (aN ?_);simp only[fZ,aS,if_false];refine aA (fX ho hd ?_)
 try dsimp only
 refine aA ?_;rw[<-rB];refine tJ _ (λrest r s'=>r.1=ξ/\s'=s/\∀v∈rest,carriedByValue v=ζ) _ ?_ ?_ _ _ ⟨rfl,rfl,hi.byValue⟩
 ·rintro v rest r s' ⟨hr,rfl,df⟩;have hv:=df v dU;have e:ofAClassStatement 7 v=pure χ:=by
   cases v with
   |ref a=>simp[carriedByValue] at hv
   |_=>first |rfl | (unfold ofAClassStatement;rfl)
  rw[e];refine aA (aN ?_);simp only[aS,if_false];exact aN ⟨rfl,rfl,λu xh=>df u (bH _ xh)⟩
 ·rintro⟨r1,r2⟩ s' ⟨hr,rfl,_⟩;simp only at hr;subst hr;exact aN q
def Hv(hk:IsTupleKey (intKind prog w) s.heap ks a)(q:Q ζ s):Δ prog w A (hashByValue 8 (.ref a)) Q E s:=by
 have hT:=hk.typeIs;obtain⟨o,items,n,ho,_,hd,hi⟩:=hk;unfold hashByValue;refine aA (mN hT F.slot_tuple_hash.lookup ?_)
 try dsimp only
 refine aA (fX ho hd ?_)
 try dsimp only
 refine aA ?_;show wpAny _ _ (forIn items _ _) _ _ s;rw[<-rB];refine tJ _ (λrest r s'=>r.1=ξ/\s'=s/\∃n_,ItemsAre (intKind prog w) n_ rest) _ ?_ ?_ _ _ ⟨rfl,rfl,ks,hi⟩
 ·rintro v rest r s' ⟨hr,rfl,n_,df⟩;cases df with
  | @cons k _ ks'' _ h1 h2=>
   have e:hashByValue 7 v=pure ζ:=by
    obtain⟨t,rfl⟩:∃t,v = .int k t:=by
     cases v <;> simp[intKind,CJ] at h1;exact⟨_,by rw[h1]⟩
    rfl
   rw[e];refine aA (aN ?_);simp only[fZ,aS,if_false];exact aN ⟨rfl,rfl,_,h2⟩
 ·rintro⟨r1,r2⟩ s' ⟨hr,rfl,_⟩;simp only at hr;subst hr;exact aN q
def Wd{ks:ω Int}{a:Addr}{stored:ω aF}{Q:Bool->aH->Prop}(hk:IsTupleKey (intKind prog w) s.heap ks a)(hs:∀y∈stored,∃n_ b,y = .ref b/\IsTupleKey (intKind prog w) s.heap n_ b)(q:Q χ s):
  Δ prog w A (searchCouldBeSeen (.ref a) stored) Q E s:=by
 unfold searchCouldBeSeen;refine aA ?_;refine tJ _ (λrest r s'=>r.1=ξ/\s'=s/\∀y∈rest,y∈stored) _ ?_ ?_ _ _ ⟨rfl,rfl,λ_ h=>h⟩
 ·rintro v rest r s' ⟨hr,rfl,df⟩;obtain⟨n_,b,rfl,hb⟩:=hs v (df v dU);have vk:∀y∈rest,y∈stored:=λu xh=>df u (bH _ xh);dsimp only;by_cases hv:((a == b) || (carriedByValue (gD a) && carriedByValue (gD b)))=ζ
  ·rw[Ω hv];exact aN ⟨rfl,rfl,vk⟩
  ·rw[υ hv];refine aA (BJ hk ?_);simp only[fZ,aS,if_false];refine aA (BJ hb ?_);simp only[fZ,aS,if_false];refine aA (Ek hk ?_);simp only[aS,if_false];refine aA (Ek hb ?_);simp only[aS,if_false];exact aN ⟨rfl,rfl,vk⟩
 ·rintro⟨r1,r2⟩ s' ⟨hr,rfl,_⟩;simp only at hr;subst hr;exact aN q
def oF(w:cZ):Bool:=w.params.followText "set-order"
def Yf(prog:cC)(w:cZ)(h:Heap)(es:Array (Int×aF)):Prop:=∀e∈es.toList,∃ks b,e=(tupleKeyHash (intKind prog w) ks,.ref b)/\IsTupleKey (intKind prog w) h ks b
def Nn(mask n:Nat):Prop:=(mask=7/\n<=4)\/(mask=31/\n<=18)\/(mask=127/\n<=76)
def pA(es:Array (Int×aF))(ep:Nat)(t:SetTable):Obj:={cls:=.type "set",dict:=ξ,data:=.set es ep t}
theorem fh.fits(T:fh t n):t.fits n=ζ:=by
 unfold SetTable.fits fill;rw[T.dum,T.size];simp;exact T.room
def Pr{mask n:Nat}(h:Nn mask n):(mask % 2 == 0)=χ:=by
 rcases h with⟨rfl,_⟩ | ⟨rfl,_⟩ | ⟨rfl,_⟩ <;> rfl
theorem XG{S a:Addr}{ep:Nat}(hu:A.units<cLine)(ho:s.heap.get? S=ψ (pA es ep t))(T:fh t es.size)(hf:Nn t.mask es.size)(he:Yf prog w s.heap es)
  (hk:IsTupleKey (intKind prog w) s.heap ks a) (q1:(∃e∈es.toList,∃b,e.2 = .ref b/\IsTupleKey (intKind prog w) s.heap ks b)->Q (.there ξ) s) (q2:∀j,t.slot j = .empty->Q (.free j χ) s):
  ∀(fuel:Nat)(oi:Option Probe)(m:Nat),VP t (oi.getD (t.probeStart (tupleKeyHash (intKind prog w) ks))) m->OM (oi.getD (t.probeStart (tupleKeyHash (intKind prog w) ks))) m<10*turns t.mask->OM (oi.getD (t.probeStart (tupleKeyHash (intKind prog w) ks))) m<fuel ->
   Δ prog w A (setSearchFrom S (.ref a) (tupleKeyHash (intKind prog w) ks) ζ fuel oi) Q E s
 | 0,_,_,_,_,h=>Ψ h (oM _)
 |fuel+1,oi,m,hi,hm,hl=>by
  unfold setSearchFrom;refine aA (jS ho rfl T.fits ?_);dsimp only;rw[υ (by unfold SetTable.gaveWay;rw[Pr hf];exact cQ)];unfold probe;rcases Da T.dum _ (tupleKeyHash (intKind prog w) ks) (10*turns t.mask) _ m hi hm with⟨j,e,ej⟩ | ⟨j,i,next,m',e,ej,y7,jx,hm'⟩
  ·rw[e];dsimp only;exact aN (q2 j ej)
  ·rw[e];dsimp only;have hil:i<es.size:=by
    have:=(lQ.mp y7).1;rw[T.size] at this;exact this
   have ei:es[i]?=ψ es[i]:=cR hil;have mi:es[i]∈es.toList:=δ;obtain⟨n_,b,ee,hb⟩:=he _ mi;have rest:Δ prog w A (match es[i]? with
    |some (fst,y)=>do
     let equal <-holding [y] (eqBool y (gD a));let __x <-setState S
     if(ζ && equal)=ζ then pure (QN ξ)
      else
       match __x.2.snd.sameMemory t.moves t.mask with
       |some same=>
        let N_ <-match if same=ζ then __x.2.snd.slot j else Slot.empty with
        |Slot.live i'=>
         match __x.fst[i']? with
         |some (fst,y')=>do pure (if <-isSame y' y then ψ i' else ξ)
         |none=>pure ξ
        |_=>pure ξ
        match N_ with
        |none=>do
         rule "set.search.anew"
         setSearchFrom S (gD a) (tupleKeyHash (intKind prog w) ks) ζ fuel ξ
        |some i'=>
         if equal=ζ then pure (QN (ψ i'))
         else setSearchFrom S (gD a) (tupleKeyHash (intKind prog w) ks) ζ fuel (ψ next)
       |_=>unsupported "set.changed-during-lookup:is-the-new-block-at-the-old-address"
    |_=>unsupported "internal:set-entry") Q E s:=by
    rw[ei,ee];dsimp only;refine aA (gM (wpAny_eqBool_tuple hu hb hk ?_));refine aA (jS ho rfl T.fits ?_);dsimp only;by_cases hkk:n_=ks
    ·subst hkk;rw[Ω δ];exact aN (q1 ⟨_,mi,b,by rw[ee],hb⟩)
    ·rw[υ (by simp[hkk])];have sm:t.sameMemory t.moves t.mask=ψ ζ:=(by unfold sameMemory;rw[Ω δ]);rw[sm];dsimp only;rw[Ω rfl,ej];dsimp only;rw[ei,ee];dsimp only;refine aA ?_;have same:isSame (.ref b) (.ref b)=pure ζ:=by
      show(if(b == b)=ζ then pure ζ else _)=_;rw[Ω δ]
     rw[same];refine aN (aA (aN ?_));rw[Ω rfl];dsimp only;rw[υ (by simp[hkk])];exact XG hu ho T hf he hk q1 q2 fuel (ψ next) m' jx (qC hm' hm) (by simp only[lM];lia)
   cases um:t.led with
   |true=>
    simp only[fZ,aS,if_false];exact rest
   |false=>
    simp only[nH,if_true];refine aA (Wd hk ?_ ?_)
    ·intro y hy;obtain⟨e0,he0,rfl⟩:=bG.mp hy;have:=(Array.mem_filter.mp (kD.mp he0)).1;obtain⟨ks1,b1,e1,h1⟩:=he e0 (kD.mpr this);exact⟨ks1,b1,by rw[e1],h1⟩
    ·simp only[aS,if_false];exact rest
structure jj(prog:cC)(w:cZ)(h:Heap)(S:Addr)(es:Array (Int×aF)):Prop where
 tab:∃ep t,h.get? S=ψ (pA es ep t)/\fh t es.size/\Nn t.mask es.size/\t.led = !oF w/\t.plain=ζ/\True
 els:Yf prog w h es
 dis:True
def yM{S b:Addr}{ep:Nat}(hS:h.get? S=ψ (pA es ep t))(up:∀b o,b≠S->h.get? b=ψ o->h'.get? b=ψ o)(hk:IsTupleKey (intKind prog w) h ks b):IsTupleKey (intKind prog w) h' ks b:=by
 obtain⟨o,items,n,ho,hc,hd,hi⟩:=hk;refine⟨o,items,n,up b o ?_ ho,hc,hd,hi⟩;rintro rfl;rw[hS] at ho;cases ho;exact nomatch hd
theorem Bm(h:n<100):QO n=n*4:=by
 unfold QO;rw[υ ν]
theorem Ht{S a:Addr}(hu:A.units<cLine)(H:jj prog w s.heap S es)(hk:IsTupleKey (intKind prog w) s.heap ks a)(hn:es.size<76)
  (q:∀b h' tk rq,jj prog w h' S rq->(∀y∈rq.toList,y∈es.toList\/y.2 = .ref a)->(∀y∈es.toList,y∈rq.toList)->(∃y∈rq.toList,∃b,y.2 = .ref b/\IsTupleKey (intKind prog w) h' ks b)->rq.size<=es.size+1 ->
   (∀b o,b≠S->s.heap.get? b=ψ o->h'.get? b=ψ o)->h'.objs.size=s.z->s.toks<=tk->Q b {s with heap:=h',toks:=tk}):
  Δ prog w A (setAdd S (.ref a)) Q E s:=by
 obtain⟨⟨ep,t,ho,T,hf,um,kb,_⟩,w8,_⟩:=H;unfold setAdd;refine gM (aA (wpAny_pyHash_tuple hu hk ?_));unfold setAddHashed;refine gM ?_;unfold setAddHashedIn;refine aA (jS (s:={s with toks:=s.toks+(ks.length+1)}) ho rfl T.fits ?_);dsimp only;have nb:byScan (.ref a) es=χ:=by unfold byScan;simp[Value.scannable]
 rw[nb];simp only[aS,if_false];obtain⟨m,hi,hm⟩:=Na T (tupleKeyHash (intKind prog w) ks);have hm2:OM (t.probeStart (tupleKeyHash (intKind prog w) ks)) m<100000:=by
  refine cF hm ?_;unfold turns;rcases hf with⟨e,_⟩ | ⟨e,_⟩ | ⟨e,_⟩ <;> rw[e] <;> decide
 unfold setSearch;refine aA (XG (s:={s with toks:=s.toks+(ks.length+1)}) hu ho T hf w8 hk ?_ ?_ 100000 ξ m hi hm hm2)
 ·rintro⟨e,he,b,e2,hb⟩;dsimp only;refine aN ?_;exact q χ s.heap _ es ⟨⟨ep,t,ho,T,hf,um,kb,⟨⟩⟩,w8,⟨⟩⟩ (λy hy=>dA hy) (λy hy=>hy) ⟨e,he,b,e2,hb⟩ ν (λb o _ e=>e) rfl (by show s.toks<=s.toks+_;lia)
 ·intro j hj;dsimp only;refine aA (jS (s:={s with toks:=s.toks+(ks.length+1)}) ho rfl T.fits ?_);dsimp only;have room:es.size+1<=t.mask:=by rcases hf with⟨e,h⟩ | ⟨e,h⟩ | ⟨e,h⟩ <;> lia
  obtain⟨T1,p1,p2,p3,p4,p5,p6⟩:=C9 T hj room;rw[p5,kb];simp only[if_true];refine aA (Hv (s:={s with toks:=s.toks+(ks.length+1)}) hk ?_);simp only[if_true];rw[p1];have sz:=FO es (below t.place j) (tupleKeyHash (intKind prog w) ks,gD a) p2;have mem:=YV es (below t.place j) (tupleKeyHash (intKind prog w) ks,gD a) p2;generalize insertAt es (below t.place j) (tupleKeyHash (intKind prog w) ks,gD a)=iw at sz mem;refine aA (KS (s:={s with toks:=s.toks+(ks.length+1)}) ho rfl ?_ (by rw[sz,lK];lia));have up1:∀b o,b≠S->s.heap.get? b=ψ o->(s.heap.update S (pL iw (t.put j).1)).get? b=ψ o:=λb o hb e=>(dE _ _ (Ne.symm hb)).trans e;obtain⟨ep1,g1⟩:∃ep1,(s.heap.update S (pL iw (t.put j).1)).get? S=ψ (pA iw ep1 (t.put j).1):=⟨_,fE _ ho rfl⟩;have z1:(s.heap.update S (pL iw (t.put j).1)).objs.size=s.z:=(iB ..).1;generalize s.heap.update S (pL iw (t.put j).1)=h1 at up1 g1 z1;have y6:Yf prog w h1 iw:=by
   intro e he;rcases (mem e).mp he with rfl |he
   ·exact⟨ks,a,rfl,yM ho up1 hk⟩
   ·obtain⟨n_,b,r1,r2⟩:=w8 e he;exact⟨n_,b,r1,yM ho up1 r2⟩
  have X_:fh (t.put j).1 iw.size:=by rw[sz];exact T1
  have vg:(t.put j).1.fill=iw.size:=by unfold fill;rw[X_.size,X_.dum];simp
  by_cases tf:(t.put j).1.tooFull=ζ
  ·rw[tf];simp only[nH,Bool.and_self,if_true];have tf':=tf;unfold tooFull at tf';rw[vg,p3,sz] at tf';simp only[ge_iff_le,decide_eq_true_eq] at tf';have o4:(t.mask=7/\es.size=4)\/(t.mask=31/\es.size=18):=(by rcases hf with⟨e,h⟩ | ⟨e,h⟩ | ⟨e,h⟩ <;> lia);unfold setRelay;refine aA (aA (jS (s:={s with heap:=h1,toks:=s.toks+(ks.length+1)}) g1 rfl X_.fits ?_));dsimp only;have hw:SetTable.sizeAbove (grown (es.size+1))=(if t.mask=7 then 32 else 128):=by
    rw[Bm ν];rcases o4 with⟨e,h⟩ | ⟨e,h⟩ <;> rw[e,h] <;> decide
   rw[υ (by rw[hw,lK];split <;> decide)];have R:ii ((if t.mask=7 then 31 else 127)+1):=by
    split
    ·exact Vz
    ·exact Sf
   obtain⟨t2,order,l1,T2,l3,l4,l5,l6⟩:=Uj R (t.put j).1.finger ((t.put j).1.movedTo (if t.mask=7 then 31 else 127)) (t.put j).1.led (t.put j).1.plain (iw.map (·.1)) (by rw[PN,sz];rcases o4 with⟨e,h⟩ | ⟨e,h⟩ <;> rw[e,h] <;> decide);have er:(t.put j).1.relaid (iw.map (·.1)) (grown (es.size+1))=ψ (t2,order):=by
    unfold relaid;rw[hw];have:(if t.mask=7 then 32 else 128)-1=(if t.mask=7 then 31 else 127):=(by split <;> rfl);rw[this];exact l1
   rw[er];rw[PN] at T2 l6;have esl:(order.filterMap (iw[·]?)).toList.Perm iw.toList:=by
    rw[Array.toList_filterMap];refine(l6.filterMap _).trans ?_;have:(fH iw.size).filterMap (iw[·]?)=iw.toList:=by
     apply wN;intro i;have key:∀n,n<=iw.size->(fH n).filterMap (iw[·]?)=iw.toList.take n:=by
      intro n
      induction n with
      |zero=>intro _;rfl
      |succ n ih=>
       intro hn;rw[NY,List.filterMap_append,ih ν];have:iw[n]?=ψ iw[n]:=cR ν;simp only[fI,this,List.filterMap_nil];rw[nS];simp[show n<iw.size by lia]
     rw[key _ (bU _),<-dD,sU]
    rw[this]
   have nq:(order.filterMap (iw[·]?)).size=iw.size:=(by rw[<-dD,esl.length_eq,dD]);have gy:((order.filterMap (iw[·]?)).size != iw.size)=χ:=(by rw[nq];simp);refine aA ?_;show wpAny _ _ (if((order.filterMap (iw[·]?)).size != iw.size)=ζ then(unsupported "internal:set-table-lost-an-element" >>= λ_=>pure (order.filterMap (iw[·]?),t2)) else pure (order.filterMap (iw[·]?),t2)) _ _ _;rw[gy];simp only[aS,if_false];refine aN ?_;dsimp only;have sk:∀y,y∈(order.filterMap (iw[·]?)).toList↔y∈iw.toList:=λy=>esl.mem_iff;generalize order.filterMap (iw[·]?)=ui at nq sk;refine KS (s:={s with heap:=h1,toks:=s.toks+(ks.length+1)}) g1 rfl ?_ (by rw[nq,sz,lK];lia);have km:∀b o,b≠S->s.heap.get? b=ψ o->(h1.update S (pL ui t2)).get? b=ψ o:=λb o hb e=>(dE _ _ (Ne.symm hb)).trans (up1 b o hb e);have up12:∀b o,b≠S->h1.get? b=ψ o->(h1.update S (pL ui t2)).get? b=ψ o:=λb o hb e=>(dE _ _ (Ne.symm hb)).trans e;obtain⟨ep2,g2⟩:∃ep2,(h1.update S (pL ui t2)).get? S=ψ (pA ui ep2 t2):=⟨_,fE _ g1 rfl⟩;have z2:(h1.update S (pL ui t2)).objs.size=s.z:=((iB ..).1).trans z1;refine aN (q ζ (h1.update S (pL ui t2)) _ ui ⟨⟨ep2,t2,g2,by rw[nq];exact T2,?_,by rw[l4,p4];exact um,by rw[l5,p5];exact kb,⟨⟩⟩,?_,⟨⟩⟩ (λy hy=>?_) (λy hy=>(sk y).mpr ((mem y).mpr (cX hy))) ⟨_,(sk _).mpr ((mem _).mpr (dA rfl)),a,rfl,yM ho km hk⟩ ν km z2 (by show s.toks<=s.toks+_;lia))
   ·rw[l3,nq,sz];unfold Nn;rcases o4 with⟨e,h⟩ | ⟨e,h⟩ <;> rw[e,h] <;> decide
   ·intro e he;obtain⟨n_,b,r1,r2⟩:=y6 e ((sk e).mp he);exact⟨n_,b,r1,yM g1 up12 r2⟩
   ·rcases (mem y).mp ((sk y).mp hy) with rfl |h
    ·exact cX rfl
    ·exact dA h
  ·have tf0:(t.put j).1.tooFull=χ:=(by simpa using tf);rw[tf0];simp only[BM,aS,if_false];refine aN (q ζ h1 _ iw ⟨⟨ep1,_,g1,X_,?_,by rw[p4];exact um,by rw[p5];exact kb,⟨⟩⟩,y6,⟨⟩⟩ (λy hy=>?_) (λy hy=>(mem y).mpr (cX hy)) ⟨_,(mem _).mpr (dA rfl),a,rfl,yM ho up1 hk⟩ ν up1 z1 (by show s.toks<=s.toks+_;lia))
   ·unfold tooFull at tf0;rw[vg,p3,sz] at tf0;simp only[ge_iff_le,decide_eq_false_iff_not] at tf0;rw[p3,sz];unfold Nn;rcases hf with⟨e,h⟩ | ⟨e,h⟩ | ⟨e,h⟩ <;> lia
   ·rcases (mem y).mp hy with rfl |h
    ·exact cX rfl
    ·exact dA h
end
end
section
open PySem PySem.SetTable PyProof.Rows
section
variable{prog:cC}{w:cZ}{s:aH}
theorem jj.other{S:Addr}(H:jj prog w h S es)(up:∀b o,h.get? b=ψ o->(∃e∈es.toList,e.2 = .ref b)\/b=S->h'.get? b=ψ o):jj prog w h' S es:=by
 obtain⟨⟨ep,t,ho,r⟩,els,_⟩:=H;refine⟨⟨ep,t,up _ _ ho (cX rfl),r⟩,λe he=>?_,⟨⟩⟩;obtain⟨ks,b,e1,o,items,n,h1,h2,h3,h4⟩:=els e he;exact⟨ks,b,e1,o,items,n,up b o h1 (dA ⟨e,he,by rw[e1]⟩),h2,h3,h4⟩
structure iq(prog:cC)(w:cZ)(items:Array aF)(key:Nat->List Int)(S:Addr)(i:Nat)(h:Heap):Prop where
 ex:∃es,jj prog w h S es/\(∀y∈es.toList,∃j,j<i/\items[j]?=ψ y.2)/\(∀j,j<i->∃y∈es.toList,∃b,y.2 = .ref b/\IsTupleKey (intKind prog w) h (key j) b)/\es.size<=i
theorem Si(hh:A.in1.handled=ξ)(gy:l≠I)(hu:A.in1.units<cLine)(S:Addr)(ze:S≠I)(hSl:S≠l)
  (hi:∀i v,items[i]?=ψ v->∃a,v = .ref a/\IsTupleKey (intKind prog w) h0 (key i) a/\a≠S/\a≠I) (hb:items.size<=76):
  ∀(k i:Nat)(s:aH),items.size-i=k->i<=items.size->s.heap.IsListIter I l i/\s.heap.IsList l items->iq prog w items key S i s.heap ->
   (∀b o,b≠S->b≠I->h0.get? b=ψ o->s.heap.get? b=ψ o) ->
   (∀h' tk,iq prog w items key S items.size h'->(∀b o,b≠S->b≠I->h0.get? b=ψ o->h'.get? b=ψ o)->R (.ok (.ret .none)) {s with heap:=h',toks:=tk}) ->
   codeAny (model prog w) A (.builtin "set.update.loop" ⟨[.ref S,.ref I],[]⟩) R s:=by
 have W:=Walks.list (prog:=prog) (w:=w) (A:=A.in1) hh I l gy items;have wr:∀{b:Addr},b≠I->b∉[I]:=λh=>by simpa using h
 have si:∀{h:Heap}{i:Nat}{a:Addr},(∀b o,b≠S->b≠I->h0.get? b=ψ o->h.get? b=ψ o)->IsTupleKey (intKind prog w) h0 (key i) a->a≠S->a≠I->IsTupleKey (intKind prog w) h (key i) a:=by
  intro h i a up hk n1 n2;obtain⟨o,its,n,h1,h2,h3,h4⟩:=hk;exact⟨o,its,n,up a o n1 n2 h1,h2,h3,h4⟩
 have move:∀{h h':Heap}{i:Nat},i<=items.size->iq prog w items key S i h->(∀b o,b≠I->h.get? b=ψ o->h'.get? b=ψ o)->iq prog w items key S i h':=by
  intro h h' i jx ⟨es,D,d1,d2,d3⟩ up;refine⟨es,D.other λb o e hm=>up b o ?_ e,d1,λj hj=>?_,d3⟩
  ·rcases hm with⟨y,hy,ey⟩ |rfl
   ·obtain⟨j,hj,ej⟩:=d1 y hy;obtain⟨a,ea,_,_,na⟩:=hi j y.2 ej;rw[ey] at ea;cases ea;exact na
   ·exact ze
  ·obtain⟨y,hy,b,e1,o,its,n,h1,h2,h3,h4⟩:=d2 j hj;refine⟨y,hy,b,e1,o,its,n,up b o ?_ h1,h2,h3,h4⟩;obtain⟨j',r_,ej⟩:=d1 y hy;obtain⟨a,ea,_,_,na⟩:=hi j' y.2 ej;rw[e1] at ea;cases ea;exact na
 intro k
 induction k with
 |zero=>
  intro i s hk jx st D up hR;have hin:i=items.size:=ν
  subst hin;refine iP F.entry_set_update_loop ?_;rw[gG F.plain_set_update_loop _];show wpAny _ A.in1 (pyNext (.ref I) >>= _) _ _ s;refine aA (W.done s _ _ st λh' tk kp=>?_);show wpAny _ A.in1 (ret gK) _ _ _;exact aN (hR h' tk (move (bU _) D λb o hb e=>kp b o (wr hb) e) λb o n1 n2 e=>kp b o (wr n2) (up b o n1 n2 e))
 |succ k ih=>
  intro i s hk jx st D up hR;have e_:i<items.size:=ν
  refine iP F.entry_set_update_loop ?_;rw[gG F.plain_set_update_loop _];show wpAny _ A.in1 (pyNext (.ref I) >>= _) _ _ s;refine aA (W.item i s _ _ e_ st λv h' tk hv gz kp=>?_);obtain⟨a,rfl,hka,na1,na2⟩:=hi i v hv;obtain⟨es,D1,d1,d2,d3⟩:=move jx D (λb o hb e=>kp b o (wr hb) e);have up':∀b o,b≠S->b≠I->h0.get? b=ψ o->h'.get? b=ψ o:=λb o n1 n2 e=>kp b o (wr n2) (up b o n1 n2 e);show wpAny _ A.in1 (holding [gD a] (setAdd S (.ref a)) >>= _) _ _ _;refine aA (gM ?_);refine Ht (s:={s with heap:=h',toks:=tk}) hu D1 (si up' hka na1 na2) ν λ_ h2 tk2 ui D2 m1 m2 m3 m4 km z2 _=>?_;refine aN ⟨jP F.plain_set_update_loop _,ih (i+1) _ (qz2 hk) e_ ⟨gz.1.at λo e=>km _ o (Ne.symm ze) e,gz.2.at λo e=>km _ o (Ne.symm hSl) e⟩ ?_ (λb o n1 n2 e=>km b o n1 (up' b o n1 n2 e)) λh3 tk3 D3 aq=>hR h3 tk3 D3 aq⟩;refine⟨ui,D2,λy hy=>?_,λj hj=>?_,ν⟩
  ·rcases m1 y hy with h |h
   ·obtain⟨j,hj,ej⟩:=d1 y h;exact⟨j,ν,ej⟩
   ·exact⟨i,ν,by rw[h];exact hv⟩
  ·by_cases hji:j=i
   ·subst hji;exact m3
   ·obtain⟨y,hy,b,e1,o,its,n,h1,h2',h3,h4⟩:=d2 j ν;refine⟨y,m2 y hy,b,e1,o,its,n,km b o ?_ h1,h2',h3,h4⟩;obtain⟨j',r_,ej⟩:=d1 y hy;obtain⟨a',ea,_,na,_⟩:=hi j' y.2 ej;rw[e1] at ea;cases ea;exact na
theorem Ei(a:aF)(h:Q₁ (.ref s.z) {s with heap:=s.heap.push (pA #[] 0 (.fresh 0 0 (!oF w)))}):
  codeAny (model prog w) A (.call (.builtin "set.__new__") ⟨[.type "set",a],[]⟩) (wants Q₁ E) s:=by
 apply OF;show wpAny _ A.in1 (checkBuiltinCall "set.__new__" ⟨[.type "set",a],[]⟩ >>= λ_=>again (.builtin "set.__new__" ⟨[.type "set",a],[]⟩)) _ _ s;apply aA;refine rQ (PySem.F.newCall_set_1 a) (aN ⟨jP BF _,iP PySem.F.entry_set_new ?_⟩);rw[gG BF _];unfold Builtin.«set.__new__» Builtin.Frozenset.newClass;have hsub:=sub_set_self;obtain⟨hp,g,d,tk,os⟩:=s;dsimp only;wp_walk;refine qH (aN ?_);dsimp only;simp only[newObj];apply aA;refine wpAny_alloc (aN ?_);exact aN h
def Nb(b:Bool):fh (.fresh 0 0 b) 0:=⟨rfl,rfl,gH _,E1,pF⟩
def Bz(l:Addr):Obj:={cls:=.type "list_iterator",data:=.fields #[.ref l,.int 0 0]}
theorem UP(hh:A.handled=ξ)(hu:A.units+8<cLine)(hl:s.heap.IsList l items)
  (hi:∀i v,items[i]?=ψ v->∃a,v = .ref a/\IsTupleKey (intKind prog w) s.heap (key i) a) (hb:items.size<=76)
  (q:∀h' tk,iq prog w items key s.z items.size h'->(∀b o,s.heap.get? b=ψ o->h'.get? b=ψ o)->Q (.ref s.z) {s with heap:=h',toks:=tk}):
  Δ prog w A (call (.type "set") [.ref l]) Q E s:=by
 obtain⟨c,tl,hmro⟩:=PySem.F.called_set.mro;have hmade:=PySem.F.called_set.made;have hsub:=PySem.F.called_set.sub;apply wpAny_call;apply OF;show wpAny _ _ (callAny (.type "set") _) _ _ _;refine aN ⟨Code.quiet_builtin _ ι,iP PySem.F.entry_type_call ?_⟩;rw[Around.under_plain (weight_type_call_type "set" [.ref l] []) rfl];have h1:=PySem.F.called_set.notType;have h2:=PySem.F.called_set.canCreate;have hct:=PySem.F.typeCall_set_1 (.ref l)
 repeat (any_goals (first |assumption |wp_step))
 refine uY (Ei (.ref l) (E:=E) (Q₁:=λobj s₁=>obj = .ref s.z/\s₁ = {s with heap:=s.heap.push (pA #[] 0 (.fresh 0 0 (!oF w)))}) ⟨rfl,rfl⟩) λr s₁ hr=>?_
 match r,hr with
 | .error e,hr=>exact hr
 | .ok (.ret obj),hr=>
  obtain⟨rfl,rfl⟩:=hr;have hS:(s.heap.push (pA #[] 0 (.fresh 0 0 (!oF w)))).get? s.z=ψ (pA #[] 0 (.fresh 0 0 (!oF w))):=cD _ rfl;have zS:(s.heap.push (pA #[] 0 (.fresh 0 0 (!oF w)))).objs.size=s.z+1:=gU ..;have kS:∀b o,s.heap.get? b=ψ o->(s.heap.push (pA #[] 0 (.fresh 0 0 (!oF w)))).get? b=ψ o:=λb o e=>aU _ e;have hT:FK {s with heap:=s.heap.push (pA #[] 0 (.fresh 0 0 (!oF w)))} (.ref s.z) "set":=⟨_,hS,rfl⟩;have hli:=PySem.F.called_set.init.lookup;have hbi:=PySem.F.called_set.init.bind (.ref s.z)
  repeat (any_goals (first |assumption |wp_step))
  generalize s.heap.push (pA #[] 0 (.fresh 0 0 (!oF w)))=h2 at hS zS kS hT;refine uY (codeAny_call_builtin (R:=wants (λr s₂=>r = .none/\∃h' tk,s₂ = {s with heap:=h',toks:=tk}/\iq prog w items key s.z items.size h'/\(∀b o,s.heap.get? b=ψ o->h'.get? b=ψ o)) E) PySem.F.called_set.init.plain PySem.F.entry_set_init (check_set_init_1 hT ?_)) λr₂ s₂ hr₂=>?_
  ·obtain⟨ol,hol,mo,nl,hdl⟩:=hl;obtain⟨ocls,odict,odata,oslots⟩:=ol;simp only at mo hdl;subst mo;subst hdl;have hol2:=kS _ _ hol;have hsls:=PySem.F.sub_list_set;have hslf:=PySem.F.sub_list_frozenset;have gy:(iU "list" == iU "dict")=χ:=η;have hl1:h2.IsList l items:=⟨_,hol2,rfl,nl,rfl⟩;have lt:l<s.z:=bC hol;unfold Builtin.«set.__init__» noKeywords Builtin.Frozenset.updateFrom;generalize hPI:pyIter=PI;unfold pA at hS
   wp_walk
   subst hPI;refine kR hl1 ?_;apply aA;apply UD;rw[zS];have zI:(h2.push (Bz l)).get? (s.z+1)=ψ (Bz l):=(by rw[<-zS];exact cD _ rfl);have kI:∀b o,h2.get? b=ψ o->(h2.push (Bz l)).get? b=ψ o:=λb o e=>aU _ e;show codeAny _ _ _ _ {s with heap:=h2.push (Bz l)};generalize h2.push (Bz l)=h3 at zI kI;have ne1:∀{b:Addr}{o:Obj},s.heap.get? b=ψ o->b≠s.z/\b≠s.z+1:=λe=>⟨cE (bC e),cE (jR (bC e))⟩;refine Si (A:=A.in1.in1) (s:={s with heap:=h3}) (key:=key) (h0:=s.heap) (by simp[hh]) (cE (jR lt)) (by show A.units+3<cLine;lia) s.z (cE (qB _)) (fC lt) (λi v e=>?_) hb items.size 0 (zL _) (gH _) ⟨⟨_,zI,rfl,rfl⟩,hl1.at λo e=>kI _ o e⟩ ?_ (λb o _ _ e=>kI b o (kS b o e)) λh' tk D up=>?_
   ·obtain⟨a,rfl,hk⟩:=hi i v e;refine⟨a,rfl,hk,?_⟩;obtain⟨o,_,_,ho,_⟩:=hk;exact ne1 ho
   ·exact⟨#[],⟨⟨0,_,kI _ _ hS,Nb _,dA ⟨rfl,gH _⟩,rfl,rfl,⟨⟩⟩,(λe he=>by simp at he),⟨⟩⟩,λy hy=>by simp at hy,λj hj=>Ψ hj (oM _),gH _⟩
   ·show wpAny _ _ _ _ _ _;apply aN;show wpAny _ _ (ret gK) _ _ _;exact aN ⟨rfl,h',tk,rfl,D,λb o e=>up b o (ne1 e).1 (ne1 e).2 e⟩
  ·match r₂,hr₂ with
   | .error e,hr₂=>exact hr₂
   | .ok (.ret r),hr₂=>
    obtain⟨rfl,h',tk,rfl,D,up⟩:=hr₂
    repeat (any_goals (first |assumption |wp_step))
    exact q _ _ D up
end
theorem Jn{α:Type}(next:Nat->Nat):∀(fuel k:Nat)(left:ω α)(out:Array α),left.length<=fuel->(KB next fuel k left out).toList.Perm (out.toList++left)
 | 0,k,left,out,h=>by
  have:left=[]:=kF ν;subst this;simp[KB]
 |fuel+1,k,left,out,h=>by
  unfold KB;cases e:left[next k % left.length]? with
  |none=>
   dsimp only;have:left=[]:=by
    cases left with
    |nil=>rfl
    |cons x r=>
     have:=List.getElem?_eq_none_iff.mp e;have:=lU (next k) (show 0<(x::r).length by simp);lia
   subst this;simp
  |some x=>
   dsimp only;have hi:next k % left.length<left.length:=(cB.mp e).1;refine(Jn next fuel (k+1) (left.eraseIdx (next k % left.length)) (out.push x) (by rw[List.length_eraseIdx_of_lt hi];lia)).trans ?_;rw[HY,gA];refine BC _ ?_;have ex:left[next k % left.length]=x:=(cB.mp e).2;have el:left=left.take (next k % left.length)++x::left.drop (next k % left.length+1):=by
    rw[<-ex,<-gR hi,oV]
   rw[List.eraseIdx_eq_take_drop_succ]
   conv=>rhs;rw[el]
   rw[BE];exact(List.perm_middle (a:=x)).symm
def Mi{α:Type}(next:Nat->Nat)(xs:Array α):(pickOrder next xs).toList.Perm xs.toList:=by
 have:=Jn next xs.size 0 xs.toList #[] δ;simpa [pickOrder] using this
def Rg:Manifest.owners.lookup (String.ofList ['r','o','t','a','r','e','t','i','_','t','e','s'].reverse)=ψ Manifest.sig_set_iterator:=by kernel_rfl
def sI:Slot "set_iterator" "__next__" "set_iterator.__next__" :=
 .of (owner:="set_iterator") (n:="__next__") (by rw[qZ,mE];kernel_rfl) ι ι ι (by first |exact .inl ι |exact .inr ι) (by rw[RZ];kernel_rfl)
def FL:entryFor table "set_iterator.__next__" = ψ Builtin.«set_iterator.__next__»:=entryFor_of_tree (by kernel_rfl)
def IX(a:aF):argsOk "set_iterator.__next__" ⟨[a],[]⟩:=by
 unfold argsOk;rw[signature?_of (id:="set_iterator.__next__") (n:=['_','_','t','x','e','n','_','_']) (o:=['r','o','t','a','r','e','t','i','_','t','e','s']) (by kernel_rfl) Rg];kernel_rfl
def YN:entryFor table "set.__iter__" = ψ Builtin.«frozenset.__iter__»:=entryFor_alias (id':="frozenset.__iter__") (by kernel_rfl) rfl ι (by kernel_rfl)
section
variable{w:cZ}{s:aH}
def kW(w:cZ)(S:Addr)(ep:Nat)(es:Array (Int×aF)):Array (Int×aF):=if oF w=ζ then pickOrder (w.params.setOrder S ep) es else es
def MW(S:Addr)(ep:Nat)(es:Array (Int×aF)):(kW w S ep es).toList.Perm es.toList:=by
 unfold kW;split
 ·exact Mi _ _
 ·exact BX _
def slotAt(w:cZ)(t:SetTable)(k:Nat):Nat:=if oF w=ζ then 0 else vB t k
def xW(w:cZ)(S:Addr)(n ep:Nat)(t:SetTable)(k:Nat):Obj:={cls:=.type "set_iterator",data:=.fields #[rawInt (slotAt w t k),rawInt k,.ref S,rawInt n,rawInt ep]}
theorem Ej{S:Addr}{ep k:Nat}(ho:s.heap.get? S=ψ (pA es ep t))(T:fh t es.size)(hl:t.led = !oF w)(hp:t.plain=ζ)(hk:k<=es.size)
  (q:Q ((kW w S ep es)[k]?.map λe=>(e.2,slotAt w t (k+1))) s):Δ prog w A (setNext S (slotAt w t k) k ep) Q E s:=by
 unfold setNext;apply aA;refine jS ho rfl T.fits ?_;unfold setsByText;apply aA;apply aA;refine qH (aN ?_);show wpAny _ _ (if oF w=ζ then _ else _) _ _ _;by_cases hb:oF w=ζ
 ·rw[Ω hb,υ δ];apply aA;unfold setWalk;apply aA;refine jS ho rfl T.fits ?_;unfold setsByText;apply aA;apply aA;refine qH (aN ?_);show wpAny _ _ (if oF w=ζ then _ else _) _ _ _;rw[Ω hb];apply aA;refine qH (aN (aN ?_));unfold kW slotAt at q;simp only[Ω hb] at q;unfold slotAt;simp only[Ω hb];exact q
 ·have hb0:oF w=χ:=by simpa using hb
  rw[υ hb];show wpAny _ _ (if(!t.plain && decide (es.size > 1))=ζ then _ else _) _ _ _;rw[hp];simp only[fZ,BN,aS,if_false];show wpAny _ _ ((if(!t.led && !es.isEmpty)=ζ then unsupported "set:maker-not-led" else pure ()) >>= _) _ _ _;rw[hl,hb0];simp only[nH,fZ,BN,aS,if_false];apply aA;apply aN;apply aN;have np:=Gk T hk;unfold kW slotAt at q;simp only[υ hb] at q;unfold slotAt;simp only[υ hb];rw[np];by_cases e_:k<es.size
  ·have e1:es[k]?=ψ es[k]:=cR e_;have e2:t.place[k]?=ψ (t.place.getD k 0):=by
    have:k<t.place.size:=(by rw[T.size];exact e_);rw[cR this];simp[lP,this]
   rw[e1] at q;rw[e1,e2];have e3:vB t (k+1)=t.place.getD k 0+1:=(by unfold vB;rw[υ ν];simp);rw[e3] at q;exact q
  ·have e1:es[k]?=ξ:=yZ ν;rw[e1] at q;rw[e1];exact q
def EG{c:aF}(ho:s.heap.get? I=ψ {cls:=c,dict:=d,data:=.fields vs,slots:=sl})(hi:i<vs.size)
  (q:∀h',h'.get? I=ψ {cls:=c,dict:=d,data:=.fields (vs.setIfInBounds i x),slots:=sl}->mO I s.heap h'->Q () {s with heap:=h'}):Δ prog w A (setField (.ref I) i x) Q E s:=by
 refine EI ho rfl hi (q _ ?_ (iB ..));have:=fE (Obj.mapFields λvs=>vs.setIfInBounds i x) ho rfl;rw[this];rfl
structure lq(w:cZ)(S I:Addr)(es:Array (Int×aF))(ep:Nat)(t:SetTable)(k:Nat)(h:Heap):Prop where
 set:h.get? S=ψ (pA es ep t)
 it:h.get? I=ψ (xW w S es.size ep t k)
theorem Lv{S I:Addr}{ep k:Nat}(D:lq w S I es ep t k s.heap)(ne:S≠I)(T:fh t es.size)(hl:t.led = !oF w)(hp:t.plain=ζ)(hk:k<es.size)(hx:(kW w S ep es)[k]?=ψ x)
  (q:∀h',lq w S I es ep t (k+1) h'->mO I s.heap h'->Q (ψ x.2) {s with heap:=h'}):Δ prog w A (pyNext (.ref I)) Q E s:=by
 have ty:s.TypeIs (.ref I) "set_iterator":=⟨_,D.it,rfl⟩;unfold pyNext;apply aA;apply xX;refine iJ (name:=mU "__next__") ty sI (iR sI ty FL ?_ (IX _));unfold Builtin.«set_iterator.__next__»;apply aA;refine rQ (a:=(gD I,[])) rfl ?_;apply aA;refine UC D.it rfl ?_;dsimp only[rawInt];apply aA;refine uS D.set rfl T.fits ?_;rw[υ δ];apply aA;show wpAny _ _ (setNext S ((slotAt w t k:Nat):Int).toNat ((k:Nat):Int).toNat ((ep:Nat):Int).toNat) _ _ _;simp only[pD];refine Ej D.set T hl hp (oE hk) ?_;rw[hx];dsimp only[Option.map];have yy:=D.it;unfold xW at yy;apply aA;refine EG yy δ λh1 g1 s1=>?_;apply aA;refine EG (s:={s with heap:=h1}) g1 δ λh2 g2 s2=>?_;refine aN ⟨x.2,rfl,aN (q h2 ⟨?_,?_⟩ (s1.trans s2))⟩
 ·rw[s2.2 S ne,s1.2 S ne];exact D.set
 ·rw[g2];rfl
theorem Qr{S I:Addr}{ep:Nat}(hh:A.handled=ξ)(D:lq w S I es ep t es.size s.heap)(ne:S≠I)(T:fh t es.size)(hl:t.led = !oF w)(hp:t.plain=ζ)
  (q:∀h',MY I s.heap h'->Q ξ {s with heap:=h'}):Δ prog w A (pyNext (.ref I)) Q E s:=by
 have ty:s.TypeIs (.ref I) "set_iterator":=⟨_,D.it,rfl⟩;have hx:(kW w S ep es)[es.size]?=ξ:=by
  apply yZ;rw[<-dD,(MW S ep es).length_eq,dD];exact bU _
 unfold pyNext;apply aA;apply xX;refine iJ (name:=mU "__next__") ty sI (iR sI ty FL ?_ (IX _));unfold Builtin.«set_iterator.__next__»;apply aA;refine rQ (a:=(gD I,[])) rfl ?_;apply aA;refine UC D.it rfl ?_;dsimp only[rawInt];apply aA;refine uS D.set rfl T.fits ?_;rw[υ δ];apply aA;show wpAny _ _ (setNext S ((slotAt w t es.size:Nat):Int).toNat ((es.size:Nat):Int).toNat ((ep:Nat):Int).toNat) _ _ _;simp only[pD];refine Ej D.set T hl hp (bU _) ?_;rw[hx];dsimp only[Option.map];have yy:=D.it;unfold xW at yy;apply aA;refine EG yy δ λh1 g1 s1=>?_;show wpAny _ _ (newExc (.type "StopIteration") [] >>= _) _ _ _;apply aA;simp only[newExc,newTuple];apply aA;refine gB ?_ (by size_fits);refine aA (m:=firstArgMember _ _) ?_;refine rQ (a:=gK) (by first |rfl | (simp only[firstArgMember];rfl)) ?_;refine gB ?_ (by size_fits);simp only[raiseNew];apply aA;apply VL
 first |rw[show A.in1.handled=ξ from hh] |rw[hh]
 refine aA (aN (wpAny_throw ?_));apply aA;refine tK (T:="StopIteration") (b:=ζ) ⟨_,cD _ rfl,rfl⟩ RY ?_;exact aN (q _ ((s1.extBut.push _).push _))
theorem Qc{S:Addr}{ep:Nat}(ho:s.heap.get? S=ψ (pA es ep t))(T:fh t es.size)(hp:t.plain=ζ)
  (q:Q (.ref s.z) {s with heap:=s.heap.push (xW w S es.size ep t 0)}):Δ prog w A (pyIter (.ref S)) Q E s:=by
 have ty:s.TypeIs (.ref S) "set":=⟨_,ho,rfl⟩;refine KR ty F.slot_set_iter (iR F.slot_set_iter ty YN ?_ (F.args_set_iter_1 _));unfold Builtin.«frozenset.__iter__» Builtin.Frozenset.slot0 Builtin.Frozenset.sizeOf;apply aA;refine rQ (a:=S) rfl ?_;apply aA;apply aA;refine uS ho rfl T.fits (aN ?_);apply aA;unfold setDrawn;apply aA;refine jS ho rfl T.fits ?_;unfold setsByText;apply aA;apply aA;refine qH (aN (aN ?_));have dr:(!(model prog w).w.params.followText "set-order" && (!t.plain && decide (es.size > 1)))=χ:=by rw[hp];simp
 show wpAny _ _ (if(!(model prog w).w.params.followText "set-order" && (!t.plain && decide (es.size > 1)))=ζ then _ else _) _ _ _;rw[dr];simp only[aS,if_false];apply aA;apply aN;apply aA;refine wpAny_setEpoch_of ho rfl T.fits ?_;apply aA;unfold newFields;refine gB ?_;have e0:slotAt w t 0=0:=by unfold slotAt vB;split <;> rfl
 refine aN ⟨_,rfl,"set_iterator",_,⟨_,cD _ rfl,rfl⟩,sI.lookup,?_⟩;unfold xW at q;rw[e0] at q;exact q
end
section
variable{s:aH}
theorem Sh{S:Addr}(ty:s.TypeIs (.ref S) "set")(q:Q χ s):Δ prog w A (jM (.ref S)) Q E s:=by
 unfold jM;apply aA;refine mN ty F.slot_set_len.lookup ?_;dsimp only;have sp:splitId "set.__len__" = ψ ("set","__len__"):=ι
 rw[sp];dsimp only;apply aA;refine tK (b:=ζ) ty sub_set_self ?_;simp only[fZ,aS,if_false];have key:∀(c:Bool)(X Y:Sem Bool),c=ζ->Δ prog w A X Q E s->Δ prog w A (if c=ζ then X else Y) Q E s:=λc X Y hc h=>by rw[Ω hc];exact h
 refine key _ _ _ ι ?_;apply aA;refine sK ty ?_;exact aN q
def Eh{S I:Addr}{ep k:Nat}(D:lq w S I es ep t k h)(up:∀b o,b=S\/b=I->h.get? b=ψ o->h'.get? b=ψ o):lq w S I es ep t k h':=
 ⟨up _ _ (dA rfl) D.set,up _ _ (cX rfl) D.it⟩
theorem Ap{S:Addr}{ep:Nat}(hh:A.handled=ξ)(ho:s.heap.get? S=ψ (pA es ep t))(T:fh t es.size)(hl:t.led = !oF w)(hp:t.plain=ζ)(hz:es.size<=100)
  (q:∀h',(∀b o,s.heap.get? b=ψ o->h'.get? b=ψ o)->s.z<=h'.objs.size->Q ((kW w S ep es).toList.map (·.2)) {s with heap:=h'}):Δ prog w A (collect (.ref S)) Q E s:=by
 have ltS:S<s.z:=bC ho;have wl:(kW w S ep es).size=es.size:=by rw[<-dD,(MW S ep es).length_eq,dD]
 unfold collect;apply aA;apply UD;refine iP F.entry_proto_collect ?_;rw[gG F.plain_proto_collect _];show wpAny _ A.in1 (newList [] >>= λl=>again (.builtin "list.__iadd__" ⟨[l,.ref S],[]⟩)) _ _ s;apply aA;refine gB ?_;refine aN ⟨jP F.plain_list_iadd _,iP F.entry_list_iadd ?_⟩;rw[gG F.plain_list_iadd _];show wpAny _ A.in1 (fY (.ref s.z) (.ref S) (.ref s.z)) _ _ {s with heap:=s.heap.push {cls:=.type "list",data:=.seq ([]:ω aF).toArray}};have z1:(s.heap.push {cls:=.type "list",data:=.seq ([]:ω aF).toArray}).objs.size=s.z+1:=gU ..;have hL:(s.heap.push {cls:=.type "list",data:=.seq ([]:ω aF).toArray}).get? s.z=ψ {cls:=.type "list",data:=.seq ([]:ω aF).toArray}:=cD _ rfl;have k1:∀b o,s.heap.get? b=ψ o->(s.heap.push {cls:=.type "list",data:=.seq ([]:ω aF).toArray}).get? b=ψ o:=λb o e=>aU _ e;generalize s.heap.push {cls:=.type "list",data:=.seq ([]:ω aF).toArray} = h1 at z1 hL k1;have ty:∀{h:Heap}{g d t os},(∀b o,s.heap.get? b=ψ o->h.get? b=ψ o)->FK ⟨h,g,d,t,os⟩ (.ref S) "set":=λup=>⟨_,up _ _ ho,rfl⟩;unfold fY;apply aA;refine sK (T:="set") (ty k1) ?_;have g1:iY (.ref s.z) (.ref S)=χ:=by simp[iY,fC ltS]
 have g2:(iU "set" == iU "list")=χ:=η
 have g3:(iU "set" == iU "tuple")=χ:=η
 simp only[g1,g2,g3,xG,aS,if_false];apply aA;refine Qc (s:={s with heap:=h1}) (k1 _ _ ho) T hp ?_;show wpAny _ _ _ _ _ {s with heap:=h1.push (xW w S es.size ep t 0)};have hI:(h1.push (xW w S es.size ep t 0)).get? (s.z+1)=ψ (xW w S es.size ep t 0):=by rw[<-z1];exact cD _ rfl
 have k2:∀b o,h1.get? b=ψ o->(h1.push (xW w S es.size ep t 0)).get? b=ψ o:=λb o e=>aU _ e;rw[show({s with heap:=h1}:aH).z=s.z+1 from z1];generalize h1.push (xW w S es.size ep t 0)=h2 at hI k2;apply aA;apply gM;refine Sh (ty λb o e=>k2 b o (k1 b o e)) ?_;have key:∀(c:Bool)(X Y:Sem Fin){Q':Fin->aH->Prop}{E':aF->aH->Prop}{s':aH},c=ζ->Δ prog w A.in1 X Q' E' s'->Δ prog w A.in1 (if c=ζ then X else Y) Q' E' s':=λc X Y _ _ _ hc h=>by rw[Ω hc];exact h
 refine key _ _ _ ι ?_;have hL2:=k2 _ _ hL;apply aA;apply wF;apply aA;show wpAny _ _ (updateSeq s.z (·.push .none) >>= λ_=>updateSeq s.z (·.pop)) _ _ _;apply aA;refine iQ hL2 rfl ?_;have hL3:=fE (eG (·.push gK)) hL2 rfl;refine iQ (hz:=by seq_fits) hL3 rfl ?_;have hL4:=fE (eG (·.pop)) hL3 rfl;have v8:∀b o,b≠s.z->h2.get? b=ψ o->((h2.update s.z (eG (·.push gK))).update s.z (eG (·.pop))).get? b=ψ o:=
  λb o hb e=>(dE _ _ (Ne.symm hb)).trans ((dE _ _ (Ne.symm hb)).trans e)
 generalize (h2.update s.z (eG (·.push gK))).update s.z (eG (·.pop))=h4 at hL4 v8;apply aN;refine⟨jP iS _,?_⟩;have J_:S≠s.z+1:=cE (jR ltS);have neS:S≠s.z:=cE ltS;have oz:s.z+1≠s.z:=sV _;have old:∀{b:Addr}{o:Obj},s.heap.get? b=ψ o->b≠s.z/\b≠s.z+1:=λe=>⟨cE (bC e),cE (jR (bC e))⟩;refine RK (A:=A) (s0:=s) (n:=es.size) (J:=λacc h=>lq w S (s.z+1) es ep t acc.length h/\acc=((kW w S ep es).toList.map (·.2)).take acc.length/\∀b o,s.heap.get? b=ψ o->h.get? b=ψ o)
  (F:=λacc h=>acc=(kW w S ep es).toList.map (·.2)/\∀b o,s.heap.get? b=ψ o->h.get? b=ψ o) (.ref s.z) (by rw[lK];lia) ?_ ?_ ?_ (λh' acc c m9 hF kr=>?_) es.size #[] h4 _ rfl (gH _) ?_ hL4
 ·rintro acc h h' ⟨J1,J2,J3⟩ o5 hz up;refine⟨Eh J1 λb o hb e=>up b o ?_ e,J2,λb o e=>up b o (old e).1 (J3 b o e)⟩;rcases hb with rfl |rfl
  ·exact neS
  ·exact oz
 ·rintro acc s' o Q' E' e_ ⟨J1,J2,J3⟩ o5 k;have hw:acc.length<(kW w S ep es).size:=ν
  refine Lv J1 J_ T hl hp e_ (cR hw) λh' D' sb=>k _ h' ⟨by simpa using D',?_,λb o e=>?_⟩ ?_
  ·rw[bR,sP,nS,<-J2];simp[hw]
  ·rw[sb.2 b (old e).2];exact J3 b o e
  ·rw[sb.2 _ (Ne.symm oz)];exact o5
 ·rintro acc s' o Q' E' hlen ⟨J1,J2,J3⟩ o5 k;rw[hlen] at J1 J2;refine Qr (A:=A.in1) (by simp[hh]) J1 J_ T hl hp λh' eb=>k h' ⟨?_,λb o e=>eb b o (old e).2 (J3 b o e)⟩ (eb _ _ (Ne.symm oz) o5);rw[J2,oD];simp[wl]
 ·show wpAny _ A (load s.z >>= _) _ _ _;apply aA;refine wpAny_load kr ?_;refine aN ?_;rw[hF.1];exact q h' hF.2 (oE (bC kr))
 ·refine⟨⟨v8 _ _ neS (k2 _ _ (k1 _ _ ho)),v8 _ _ oz hI⟩,rfl,λb o e=>v8 b o (old e).1 (k2 b o (k1 b o e))⟩
end
end
section
open PySem PySem.W PyProof.Rows
def jL{α:Type}(lt:Nat->Nat->Bool):KasT α->α
 | .ret a=>a
 | .ask i j k=>jL lt (k (lt i j))
theorem vD{α β:Type}{lt:Nat->Nat->Bool}{f:α->KasT β}:∀t:KasT α,jL lt (t.bind f)=jL lt (f (jL lt t))
 | .ret _=>rfl
 | .ask i j k=>vD (k (lt i j))
def kIn{α:Type}(lt:Nat->Nat->Bool)(n:Nat):KasT α->Prop
 | .ret _=>True
 | .ask i j k=>i<n/\j<n/\kIn lt n (k (lt i j))
theorem pR{α β:Type}{lt:Nat->Nat->Bool}{f:α->KasT β}:∀t:KasT α,kIn lt n t->kIn lt n (f (jL lt t))->kIn lt n (t.bind f)
 | .ret _,_,h=>h
 | .ask i j k,⟨h1,h2,h3⟩,h=>⟨h1,h2,pR (k (lt i j)) h3 h⟩
theorem SA{α:Type}{cmp:Nat->Nat->(Bool->aH->Prop)->aH->Prop}{lt:Nat->Nat->Bool}{n:Nat}{s:aH}{Q:α->aH->Prop}(hc:∀i j (C:Bool->aH->Prop),i<n->j<n->C (lt i j) s->cmp i j C s):
  ∀t:KasT α,kIn lt n t->Q (jL lt t) s->t.kasWp cmp Q s
 | .ret _,_,h=>h
 | .ask i j k,⟨h1,h2,h3⟩,h=>hc i j _ h1 h2 (SA hc (k (lt i j)) h3 h)
section
variable{O:KeyOrd}{key:Nat->O.α}{N:Nat}
def en(O:KeyOrd)(key:Nat->O.α)(i j:Nat):Bool:=O.blt (key i) (key j)
def kk(O:KeyOrd)(key:Nat->O.α)(p:Array Nat)(i:Nat):O.α:=key (p.getD i 0)
def Up(O:KeyOrd)(key:Nat->O.α)(p:Array Nat)(n:Nat):Prop:=∀i j,i<=j->j<n->O.kle (kk O key p i) (kk O key p j)
def Dn(O:KeyOrd)(key:Nat->O.α)(p:Array Nat)(n:Nat):Prop:=∀i j,i<=j->j<n->O.kle (kk O key p j) (kk O key p i)
def Lo(p:Array Nat)(N:Nat):Prop:=∀i,p.getD i 0<N
def AA(h:p.Perm q)(hq:Lo q N):Lo p N:=by
 intro i;by_cases hi:i<p.size
 ·have m:p[i]∈p:=Array.getElem_mem hi;have m2:p[i]∈q:=h.mem_iff.mp m;obtain⟨j,hj,e⟩:=Array.getElem_of_mem m2;have:=hq j;simp[lP,hj] at this;simp[lP,hi];rw[<-e];exact this
 ·have h0:=hq q.size;simp[lP] at h0;simp[lP,hi];exact h0
def CW(h:p[i]?=q[j]?):kk O key p i=kk O key q j:=by
 unfold kk;rw[iE,iE,h]
def Gd(hj:j<=p.size)(k:Nat):kk O key (ER p i j) k=if i<=k/\k<j then kk O key p (i+j-1-k) else kk O key p k:=by
 have e:=getElem?_mirror_all (i:=i) hj k;unfold ER;by_cases h1:i<=k/\k<j
 ·rw[Ω h1] at e⊢;exact CW e
 ·rw[υ h1] at e⊢;exact CW e
theorem LX(hj:j<=p.size)(h:∀k,i<=k->k<j->kk O key p k=kk O key p (j-1))(k:Nat):kk O key (ER p i j) k=kk O key p k:=by
 rw[Gd hj];split
 ·rw[h _ ν ν,h k ν ν]
 ·rfl
def Lm(hs:src<p.size)(hd:d<=src)(k:Nat):
  kk O key (bubble p src d) k=if k=src-d then kk O key p src else if src-d<k/\k<=src then kk O key p (k-1) else kk O key p k:=by
 have e:=getElem?_bubble hs d hd k;by_cases h1:k=src-d
 ·rw[Ω h1] at e⊢;exact CW e
 ·rw[υ h1] at e⊢;by_cases h2:src-d<k/\k<=src
  ·rw[Ω h2] at e⊢;exact CW e
  ·rw[υ h2] at e⊢;exact CW e
def ED(p:Array Nat)(i j:Nat):(ER p i j).Perm p:=mirror_perm _ _ _ _
theorem Wo(h1:1<=n)(h:Up O key p n)(hl:O.kle (kk O key p (n-1)) (kk O key p n)):Up O key p (n+1):=by
 intro i j n6 hj;by_cases hjx:j<n
 ·exact h i j n6 hjx
 ·have r_:j=n:=ν
  subst r_;by_cases jx:i=j
  ·subst jx;exact kT _
  ·exact sR (h i (j-1) ν ν) hl
theorem YK(h1:1<=n)(h:Dn O key p n)(hl:O.kle (kk O key p n) (kk O key p (n-1))):Dn O key p (n+1):=by
 intro i j n6 hj;by_cases hjx:j<n
 ·exact h i j n6 hjx
 ·have r_:j=n:=ν
  subst r_;by_cases jx:i=j
  ·subst jx;exact kT _
  ·exact sR hl (h i (j-1) ν ν)
theorem Fk(lo:Lo p N):∀(f n:Nat),1<=n->Up O key p n->kIn (en O key) N (wU p f n)/\n<=jL (en O key) (wU p f n)/\jL (en O key) (wU p f n)<=n+f/\Up O key p (jL (en O key) (wU p f n)) /\
  (jL (en O key) (wU p f n)=n+f\/O.klt (kk O key p (jL (en O key) (wU p f n))) (kk O key p (jL (en O key) (wU p f n)-1)))
 | 0,n,_,h=>⟨trivial,bU _,bU _,h,dA rfl⟩
 |f+1,n,h1,h=>by
  simp only[wU,jL,kIn];cases hb:en O key (p.getD n 0) (p.getD (n-1) 0) with
  |true=>
   simp only[if_true];exact⟨⟨lo _,lo _,trivial⟩,bU _,by simp only[jL];lia,h,cX hb⟩
  |false=>
   simp only[aS,if_false];obtain⟨i1,i2,i3,i4,i5⟩:=Fk lo f (n+1) ν (Wo h1 h hb);refine⟨⟨lo _,lo _,i1⟩,ν,ν,i4,?_⟩;rcases i5 with e |e
   ·exact dA ν
   ·exact cX e
theorem El(lo:Lo p N)(h1:1<=n)(hn:n<=nrem)(hz:nrem<=p.size)(h:Dn O key p n):
  kIn (en O key) N (vE n nrem p)/\1<=(jL (en O key) (vE n nrem p)).1/\(jL (en O key) (vE n nrem p)).1<=nrem/\(jL (en O key) (vE n nrem p)).2.Perm p/\Up O key (jL (en O key) (vE n nrem p)).2 (jL (en O key) (vE n nrem p)).1:=by
 unfold vE;have up:Up O key (ER p 0 n) n:=by
  intro i j n6 hj;rw[Gd ν,Gd ν,Ω ν,Ω ν];exact h _ _ (Nat.sub_le_sub_left n6 _) ν
 obtain⟨i1,i2,i3,i4,_⟩:=Fk (AA (ED p 0 n) lo) (nrem-n) n h1 up;rw[vD];refine⟨pR _ i1 trivial,?_,?_,ED p 0 n,i4⟩
 ·show 1<=_;simp only[jL];lia
 ·simp only[jL];lia
theorem OX:∀(f:Nat)(p:Array Nat)(n q:Nat),Lo p N->1<=n->n+f<=p.size->Dn O key p n->q+1<=n->(∀i,n-(q+1)<=i->i<n->kk O key p i=kk O key p (n-1)) ->
  kIn (en O key) N (lY f p n q)/\(jL (en O key) (lY f p n q)).1.Perm p/\n<=(jL (en O key) (lY f p n q)).2.1/\(jL (en O key) (lY f p n q)).2.1<=n+f /\
  Dn O key (jL (en O key) (lY f p n q)).1 (jL (en O key) (lY f p n q)).2.1/\(jL (en O key) (lY f p n q)).2.2+1<=(jL (en O key) (lY f p n q)).2.1 /\
  (∀i,(jL (en O key) (lY f p n q)).2.1-((jL (en O key) (lY f p n q)).2.2+1)<=i->i<(jL (en O key) (lY f p n q)).2.1->kk O key (jL (en O key) (lY f p n q)).1 i=kk O key (jL (en O key) (lY f p n q)).1 ((jL (en O key) (lY f p n q)).2.1-1))
 | 0,p,n,q,lo,h1,hz,h,hq,he=>⟨trivial,qU _,bU _,bU _,h,hq,he⟩
 |f+1,p,n,q,lo,h1,hz,h,hq,he=>by
  simp only[lY,jL,kIn];cases hb:en O key (p.getD n 0) (p.getD (n-1) 0) with
  |true=>
   simp only[if_true];by_cases h0:q > 0
   ·simp only[Ω h0];have hk:=LX (O:=O) (key:=key) (p:=p) (i:=n-(q+1)) (j:=n) ν he;have pm:=ED p (n-(q+1)) n;have dn:Dn O key (ER p (n-(q+1)) n) (n+1):=by
     have d0:=YK h1 h (pE hb);intro i j n6 hj;rw[hk,hk];exact d0 i j n6 hj
    obtain⟨i1,i2,i3,i4,i5,i6,i7⟩:=OX f (ER p (n-(q+1)) n) (n+1) 0 (AA pm lo) ν (by rw[pm.size_eq];lia) dn ν (λi a b=>by congr 1;lia);exact⟨⟨lo _,lo _,i1⟩,i2.trans pm,ν,ν,i5,i6,i7⟩
   ·simp only[υ h0];obtain⟨i1,i2,i3,i4,i5,i6,i7⟩:=OX f p (n+1) 0 lo ν ν (YK h1 h (pE hb)) ν (λi a b=>by congr 1;lia);exact⟨⟨lo _,lo _,i1⟩,i2,ν,ν,i5,i6,i7⟩
  |false=>
   simp only[aS,if_false,jL,kIn];cases hc:en O key (p.getD (n-1) 0) (p.getD n 0) with
   |true=>
    simp only[if_true];exact⟨⟨lo _,lo _,lo _,lo _,trivial⟩,qU _,bU _,by simp only[jL];lia,h,hq,he⟩
   |false=>
    simp only[aS,if_false];have e:kk O key p n=kk O key p (n-1):=FB hc hb;obtain⟨i1,i2,i3,i4,i5,i6,i7⟩:=OX f p (n+1) (q+1) lo ν ν (YK h1 h (by rw[e];exact kT _)) ν (λi a b=>by
     rw[show n+1-1=n by lia];by_cases hi:i=n
     ·subst hi;rfl
     ·rw[e];exact he i ν ν)
    exact⟨⟨lo _,lo _,lo _,lo _,i1⟩,i2,ν,ν,i5,i6,i7⟩
theorem ND(lo:Lo p N)(hn:n+1<=nrem)(hz:nrem<=p.size)(h:Dn O key p (n+1)):
  kIn (en O key) N (qE n nrem p)/\1<=(jL (en O key) (qE n nrem p)).1/\(jL (en O key) (qE n nrem p)).1<=nrem/\(jL (en O key) (qE n nrem p)).2.Perm p/\Up O key (jL (en O key) (qE n nrem p)).2 (jL (en O key) (qE n nrem p)).1:=by
 unfold qE;obtain⟨i1,i2,i3,i4,i5,i6,i7⟩:=OX (N:=N) (nrem-(n+1)) p (n+1) 0 lo ν ν h ν (λi a b=>by congr 1;lia);rw[vD];generalize hr:jL (en O key) (lY (nrem-(n+1)) p (n+1) 0)=r at *;by_cases h0:r.2.2 > 0
 ·have sz:r.1.size=p.size:=i2.size_eq;have hk:=LX (O:=O) (key:=key) (p:=r.1) (i:=r.2.1-(r.2.2+1)) (j:=r.2.1) ν i7;have pm:=(ED r.1 (r.2.1-(r.2.2+1)) r.2.1).trans i2;have t:=El (O:=O) (key:=key) (N:=N) (AA pm lo) (n:=r.2.1) (nrem:=nrem) ν ν (by rw[pm.size_eq];lia) (λi j n6 hj=>by rw[hk,hk];exact i5 i j n6 hj);rw[Ω h0];refine⟨pR _ i1 ?_,t.2.1,t.2.2.1,t.2.2.2.1.trans pm,t.2.2.2.2⟩;rw[hr,Ω h0];exact t.1
 ·have t:=El (O:=O) (key:=key) (N:=N) (AA i2 lo) (n:=r.2.1) (nrem:=nrem) ν ν (by rw[i2.size_eq];lia) i5;rw[υ h0];refine⟨pR _ i1 ?_,t.2.1,t.2.2.1,t.2.2.2.1.trans i2,t.2.2.2.2⟩;rw[hr,υ h0];exact t.1
theorem Og(lo:Lo p N)(h1:1<=nrem)(hz:nrem<=p.size):
  kIn (en O key) N (sZ nrem p)/\1<=(jL (en O key) (sZ nrem p)).1/\(jL (en O key) (sZ nrem p)).1<=nrem/\(jL (en O key) (sZ nrem p)).2.Perm p/\Up O key (jL (en O key) (sZ nrem p)).2 (jL (en O key) (sZ nrem p)).1:=by
 unfold sZ;obtain⟨i1,i2,i3,i4,i5⟩:=Fk (O:=O) (key:=key) lo (nrem-1) 1 (bU _) (λi j n6 hj=>by have:i=j:=ν;subst this;exact kT _);rw[vD];generalize hr:jL (en O key) (wU p (nrem-1) 1)=n at *;by_cases hn:n=nrem
 ·rw[Ω (by simpa using hn)];exact⟨pR _ i1 (by rw[hr,Ω (by simpa using hn)];trivial),i2,by show n<=nrem;lia,qU _,i4⟩
 ·rw[υ (by simpa using hn)];have e_:O.klt (kk O key p n) (kk O key p (n-1)):=i5.resolve_left ν;by_cases hg:n > 1
  ·rw[Ω hg];simp only[jL];cases hb:en O key (p.getD 0 0) (p.getD (n-1) 0) with
   |true=>
    simp only[if_true];exact⟨pR _ i1 (by rw[hr,υ (by simpa using hn),Ω hg];exact⟨lo _,lo _,by rw[hb];trivial⟩),by show 1<=n;lia,by show n<=nrem;lia,qU _,i4⟩
   |false=>
    simp only[aS,if_false];have df:∀k,0<=k->k<n->kk O key p k=kk O key p (n-1):=by
     intro k _ hk;have a1:=i4 0 k ν hk;have a2:=i4 k (n-1) ν ν;exact FB a2 (sR hb a1)
    have hk:=LX (O:=O) (key:=key) (p:=p) (i:=0) (j:=n) ν df;have pm:=ED p 0 n;have t:=ND (O:=O) (key:=key) (N:=N) (AA pm lo) (n:=n) (nrem:=nrem) ν (by rw[pm.size_eq];lia) (λi j n6 hj=>by
     rw[hk,hk];by_cases hjn:j<n
     ·rw[df i ν ν,df j ν hjn];exact kT _
     ·have r_:j=n:=ν;subst r_;by_cases jx:i=j
      ·subst jx;exact kT _
      ·rw[df i ν ν];exact pE e_)
    exact⟨pR _ i1 (by rw[hr,υ (by simpa using hn),Ω hg];exact⟨lo _,lo _,by rw[hb];exact t.1⟩),t.2.1,t.2.2.1,t.2.2.2.1.trans pm,t.2.2.2.2⟩
  ·rw[υ hg];have n1:n=1:=ν;have t:=ND (O:=O) (key:=key) (N:=N) lo (n:=n) (nrem:=nrem) ν hz (λi j n6 hj=>by
    by_cases jx:i=j
    ·subst jx;exact kT _
    ·have e1:i=n-1:=ν;have e2:j=n:=ν;rw[e1,e2];exact pE e_)
   exact⟨pR _ i1 (by rw[hr,υ (by simpa using hn),υ hg];exact t.1),t.2⟩
theorem SU(lo:Lo p N)(hs:Up O key p k):∀(f l r:Nat),l<=r->r<=k->r-l<=f->(∀i,i<l->O.kle (kk O key p i) (kk O key p k))->(∀i,r<=i->i<k->O.klt (kk O key p k) (kk O key p i)) ->
  kIn (en O key) N (yL p k f l r)/\jL (en O key) (yL p k f l r)<=k/\(∀i,i<jL (en O key) (yL p k f l r)->O.kle (kk O key p i) (kk O key p k))/\(∀i,jL (en O key) (yL p k f l r)<=i->i<k->O.klt (kk O key p k) (kk O key p i))
 | 0,l,r,hlr,hrk,hf,a,b=>by
  have:l=r:=ν
  subst this;exact⟨trivial,hrk,a,b⟩
 |f+1,l,r,hlr,hrk,hf,a,b=>by
  simp only[yL];by_cases hge:l ≥ r
  ·have:l=r:=ν;subst this;rw[Ω hge];exact⟨trivial,hrk,a,b⟩
  ·rw[υ hge];simp only[jL,kIn];generalize hm:(l+r) / 2=m;have m1:l<=m/\m<r:=ν;clear hm;cases hb:en O key (p.getD k 0) (p.getD m 0) with
   |true=>
    simp only[if_true];have t:=SU lo hs f l m ν ν ν a (λi h1 h2=>KeyOrd.klt_of_klt_of_kle hb (hs _ _ h1 h2));exact⟨⟨lo _,lo _,t.1⟩,t.2⟩
   |false=>
    simp only[aS,if_false];have t:=SU lo hs f (m+1) r ν hrk ν (λi h1=>sR (hs i m ν ν) hb) b;exact⟨⟨lo _,lo _,t.1⟩,t.2⟩
theorem Ny:∀(f:Nat)(p:Array Nat)(k:Nat),Lo p N->k+f<=p.size->Up O key p k->kIn (en O key) N (YW f p k)/\(jL (en O key) (YW f p k)).Perm p/\Up O key (jL (en O key) (YW f p k)) (k+f)
 | 0,p,k,lo,hz,h=>⟨trivial,qU _,h⟩
 |f+1,p,k,lo,hz,h=>by
  simp only[YW];obtain⟨i1,i2,i3,i4⟩:=SU lo h k 0 k ν ν ν (λi hi=>Ψ hi ν) (λi h1 h2=>Ψ h2 ν);rw[vD];generalize hr:jL (en O key) (yL p k k 0 k)=l at *;have pm:=bubble_perm p k (k-l);have hb:=λi=>Lm (O:=O) (key:=key) (p:=p) (src:=k) (d:=k-l) ν ν i;have up:Up O key (bubble p k (k-l)) (k+1):=by
   intro i j n6 hj;rw[hb,hb,Nat.sub_sub_self i2];by_cases e1:i=l
   ·rw[Ω e1];by_cases e2:j=l
    ·rw[Ω e2];exact kT _
    ·rw[υ e2,Ω ν];exact pE (i4 _ ν ν)
   ·rw[υ e1];by_cases e2:j=l
    ·rw[Ω e2,υ ν];exact i3 _ ν
    ·rw[υ e2];by_cases e3:l<i/\i<=k
     ·rw[Ω e3,Ω ν];exact h _ _ ν ν
     ·rw[υ e3];by_cases e4:l<j/\j<=k
      ·rw[Ω e4];exact h _ _ ν ν
      ·rw[υ e4];exact h _ _ ν ν
  obtain⟨t1,t2,t3⟩:=Ny f (bubble p k (k-l)) (k+1) (AA pm lo) (by rw[pm.size_eq];lia) up;refine⟨pR _ i1 (by rw[hr];exact t1),t2.trans pm,?_⟩;rw[show k+(f+1)=k+1+f by lia];exact t3
theorem Wa(h1:1<=n):kIn (en O key) n (CT n)/\(jL (en O key) (CT n)).Perm (lE (fH n))/\Up O key (jL (en O key) (CT n)) n:=by
 have lo:Lo (lE (fH n)) n:=by
  intro i;by_cases hi:i<n
  ·simp[lP,hi]
  ·simp[lP,hi];lia
 unfold CT;obtain⟨i1,i2,i3,i4,i5⟩:=Og (O:=O) (key:=key) lo (nrem:=n) h1 δ;rw[vD];generalize hr:jL (en O key) (sZ n (lE (fH n)))=r at *;have sz:r.2.size=n:=by rw[i4.size_eq];simp
 by_cases h:r.1<n
 ·have t:=Ny (O:=O) (key:=key) (N:=n) (n-max r.1 1) r.2 (max r.1 1) (AA i4 lo) ν (by rw[show max r.1 1=r.1 by lia];exact i5);rw[Ω h];refine⟨pR _ i1 (by rw[hr,Ω h];exact t.1),t.2.1.trans i4,?_⟩;have:=t.2.2
  rwa [show max r.1 1+(n-max r.1 1)=n by lia] at this
 ·rw[υ h];refine⟨pR _ i1 (by rw[hr,υ h];trivial),i4,?_⟩;rw[show n=r.1 by lia];exact i5
end
end
section
open PySem PySem.W PySem.SetTable PyProof.Rows
def pS:ω Int->ω Int->Bool
 | [],[]=>χ
 | [],_::_=>ζ
 |_::_,[]=>χ
 |a::as,b::bs=>if a=b then pS as bs else decide (a<b)
theorem Bw:∀a,pS a a=χ
 | []=>rfl
 |a::as=>by simp only[pS,if_true];exact Bw as
theorem HQ:∀a b c,pS a b=ζ->pS b c=ζ->pS a c=ζ
 | [],[],c,h,_=>by simp[pS] at h
 | [],_::_,[],_,h=>by simp[pS] at h
 | [],_::_,_::_,_,_=>rfl
 |_::_,[],_,h,_=>by simp[pS] at h
 |_::_,_::_,[],_,h=>by simp[pS] at h
 |a::as,b::bs,c::cs,h,k=>by
  simp only[pS] at h k⊢;by_cases e1:a=b
  ·subst e1;rw[Ω rfl] at h;by_cases e2:a=c
   ·subst e2;rw[Ω rfl] at k⊢;exact HQ as bs cs h k
   ·rw[υ e2] at k⊢;exact k
  ·rw[υ e1] at h;by_cases e2:b=c
   ·subst e2;rw[υ e1];exact h
   ·rw[υ e2] at k;simp only[decide_eq_true_eq] at h k;rw[υ ν];simp only[decide_eq_true_eq];lia
theorem HP:∀a b,pS a b=χ->pS b a=χ->a=b
 | [],[],_,_=>rfl
 | [],_::_,h,_=>by simp[pS] at h
 |_::_,[],_,h=>by simp[pS] at h
 |a::as,b::bs,h,k=>by
  simp only[pS] at h k;by_cases e:a=b
  ·subst e;rw[Ω rfl] at h k;rw[HP as bs h k]
  ·rw[υ e] at h;rw[υ (Ne.symm e)] at k;simp only[decide_eq_false_iff_not] at h k;lia
def Ql(a b c:ω Int)(h:pS a c=ζ):pS a b=ζ\/pS b c=ζ:=by
 cases h1:pS a b with
 |true=>exact dA rfl
 |false=>
  right;cases h2:pS b a with
  |true=>exact HQ b a c h2 h
  |false=>rw[<-HP a b h1 h2];exact h
def Uo:KeyOrd:=⟨ω Int,pS,Bw,HQ,Ql,HP⟩
section
variable{prog:cC}{w:cZ}{A:dJ}{E:aF->aH->Prop}{s:aH}
def int_inv(h:(intKind prog w).is k v=ζ):∃t,v = .int k t:=by
 cases v <;> simp[intKind,CJ] at h;exact⟨_,by rw[h]⟩
theorem Uq:∀(ns ms:ω Int)(vs us:ω aF)(i:Nat),ItemsAre (intKind prog w) ns vs->ItemsAre (intKind prog w) ms us->fin=decide (vs.length<us.length)->Q (pS ns ms) s->KatLex prog w A ζ fin Q (vs.zip us) i s:=by
 intro ns
 induction ns with
 |nil=>
  intro ms vs us i h1 h2 hf q;cases h1;cases h2 with
  |nil=>simp at hf;subst hf;exact kat_nil q
  |cons _ _=>simp at hf;subst hf;exact kat_nil q
 |cons n ns ih=>
  intro ms vs us i h1 h2 hf q;cases h1 with
  |cons h1 t1=>
   cases h2 with
   |nil=>simp at hf;subst hf;exact kat_nil q
   | @cons m u ms us h2 t2=>
    rw[rE];refine kat_cons ((intKind prog w).eqBool h1 h2 ?_);by_cases e:n=m
    ·subst e;rw[decide_eq_true rfl];exact kat_yes (ih ms _ us (i+1) t1 t2 (by simpa using hf) (by simpa [pS] using q))
    ·rw[decide_eq_false e];obtain⟨tn,rfl⟩:=int_inv h1;obtain⟨tm,rfl⟩:=int_inv h2;have q':Q (decide (n<m)) s:=(by simpa [pS,e] using q);refine kat_no ?_;cases hi:(i == 0) with
     |true=>exact oneLt_int q'
     |false=>exact kat_one _ _ (PySem.wpAny_lt_int (by exact q'))
def g7(prog:cC)(w:cZ)(h:Heap)(vs:ω aF)(nss:ω (ω Int)):Prop:=vs.length=nss.length/\∀i v,vs[i]?=ψ v->∃a,v = .ref a/\IsTupleKey (intKind prog w) h (nss.getD i []) a
theorem SB:∀(vs:ω aF)(nss:ω (ω Int)),g7 prog w h vs nss->(∀ns∈nss,ns≠[])->∃fs:ω aF,KatTups h vs fs/\fs.length=vs.length/\∀f∈fs,∃k t,f = .int k t
 | [],nss,_,_=>⟨[],trivial,rfl,λf hf=>by cases hf⟩
 |v::vs,nss,H,hn=>by
  match nss,H with
  | [],H=>exact Ψ H.1 δ
  |ns::nss,H=>
   obtain⟨a,rfl,o,items,n,ho,hc,hd,hi⟩:=H.2 0 v rfl;obtain⟨fs,f1,f2,f3⟩:=SB vs nss ⟨by have:=H.1;simpa using this,λi v e=>H.2 (i+1) v e⟩ λms hm=>hn ms (bH _ hm);simp only[List.getD_cons_zero] at hi
   match ns,hi,hn ns (dU ..) with
   | [],_,h=>exact Ψ rfl h
   |k::ks,hi,_=>
    generalize e:items.toList=its at hi;cases hi with
    |cons h1 h2=>
     obtain⟨t,rfl⟩:=int_inv h1;refine⟨.int k t::fs,⟨⟨a,o,items,n,rfl,ho,hc,hd,?_⟩,f1⟩,by simp[f2],λf hf=>?_⟩
     ·rw[<-BA,e];rfl
     ·rcases aO.mp hf with rfl |hf
      ·exact⟨k,t,rfl⟩
      ·exact f3 f hf
theorem g7.other(K:g7 prog w h vs nss)(ho:h.get? a=ψ (seqObj "list" xs n))(up:∀b o,b≠a->h.get? b=ψ o->h'.get? b=ψ o):g7 prog w h' vs nss:=by
 refine⟨K.1,λi v e=>?_⟩;obtain⟨b,rfl,o,its,m,h1,h2,h3,h4⟩:=K.2 i v e;refine⟨b,rfl,o,its,m,up b o ?_ h1,h2,h3,h4⟩;rintro rfl;rw[ho] at h1;cases h1;exact Ψ h2 (by simp[seqObj])
theorem range_getD{α:Type}(d:α)(xs:ω α):(fH xs.length).map (λi=>xs.getD i d)=xs:=by
 apply KZ δ;intro i h1 h2;simp[h2]
theorem Mz(ho:s.heap.get? a=ψ (seqObj "list" vs.toArray n))(K:g7 prog w s.heap vs nss)(hn:∀ns∈nss,ns≠[])(za:vs.length<64)
  (q:∀h' out mss c,h'.get? a=ψ (seqObj "list" (lE out) c)->g7 prog w h' out mss->(∀v∈out,v∈vs)->mss.Perm nss->mss.Pairwise (λx y=>pS y x=χ)->(∀b o,b≠a->s.heap.get? b=ψ o->h'.get? b=ψ o)->P (.done (.ret .none)) {s with heap:=h'}):
  Δ prog w A (Builtin.«list.sort» ⟨[.ref a],[]⟩) P E s:=by
 have lt:a<s.z:=bC ho;rw[list_sort_plain];apply aA;refine listItems_at ho rfl ?_;apply aA;refine UW ho rfl ?_ (by rw[bI,lK];lia) (gH _);obtain⟨e1,ho1⟩:∃e1,(s.heap.update a (eG λ_=>(#[]:Array aF))).get? a=ψ (seqObj "list" #[] e1):=⟨_,OG ho λ_=>#[]⟩;have up1:∀b o,b≠a->s.heap.get? b=ψ o->(s.heap.update a (eG λ_=>(#[]:Array aF))).get? b=ψ o:=λb o hb e=>(dE _ _ (Ne.symm hb)).trans e;generalize s.heap.update a (eG λ_=>(#[]:Array aF))=h1 at ho1 up1;apply aA;refine seqEpoch_at ho1 rfl ?_;apply aA;refine EH ?_ (by show vs.length<=_;rw[lK];lia);apply aA;refine VM ?_ (gH _);apply gM;show Δ prog w A _ P E {s with heap:=(h1.push (seqObj "tuple" vs.toArray 0)).push (seqObj "list" #[] 0)};have km:∀b o,b≠a->s.heap.get? b=ψ o->((h1.push (seqObj "tuple" vs.toArray 0)).push (seqObj "list" #[] 0)).get? b=ψ o:=λb o hb e=>aU _ (aU _ (up1 b o hb e));have ql:((h1.push (seqObj "tuple" vs.toArray 0)).push (seqObj "list" #[] 0)).get? a=ψ (seqObj "list" #[] e1):=aU _ (aU _ ho1);generalize (h1.push (seqObj "tuple" vs.toArray 0)).push (seqObj "list" #[] 0)=h2 at km ql;have K2:=K.other ho km;have fin:∀(out:ω aF)(mss:ω (ω Int))(gz:SortSt),(arrOf gz).map (·.2)=out.toArray->failedOf gz=ξ->g7 prog w h2 out mss->(∀v∈out,v∈vs)->mss.Perm nss->mss.Pairwise (λx y=>pS y x=χ)->out.length<=64 ->
   Δ prog w A (do
    let sorted:=(arrOf gz).map (·.2);let touched:=(<-seqEpoch a) != e1
    rK (.ref a) λ_=>sorted
    if let ψ e:=failedOf gz then rule "list.sort.comparison-raised";throw e
    if touched then rule "list.sort.modified";raiseError "ValueError" "list modified during sort"
    ret .none) P E {s with heap:=h2}:=by
  intro out mss gz h1 hf KO hv hp hs hlen;dsimp only;apply aA;refine seqEpoch_at (s:={s with heap:=h2}) ql rfl ?_;rw[h1];apply aA;refine UW (s:={s with heap:=h2}) ql rfl ?_ (gH _) (by show out.toArray.size<=_;rw[bI,lK];lia);obtain⟨c,hc⟩:∃c,(h2.update a (eG λ_=>out.toArray)).get? a=ψ (seqObj "list" out.toArray c):=⟨_,OG ql λ_=>out.toArray⟩;have aq:∀b o,b≠a->h2.get? b=ψ o->(h2.update a (eG λ_=>out.toArray)).get? b=ψ o:=λb o hb e=>(dE _ _ (Ne.symm hb)).trans e;generalize h2.update a (eG λ_=>out.toArray)=h3 at hc aq;rw[hf];simp only[bne_self_eq_false,aS,if_false];exact aN (q h3 out mss c hc (KO.other ql aq) hv hp hs λb o hb e=>aq b o hb (km b o hb e))
 have ln:=K.1;dsimp only;by_cases h2':vs.length<2
 ·have c2:vs.toArray.size<2:=by rw[bI];exact h2'
  rw[Ω c2,Ω c2];apply aA;apply aN;apply aA;show wpAny _ _ (pure ((),SortSt.mk' general' (vs.toArray.zip vs.toArray) #[] 7 ξ)) _ _ _;apply aN;refine fin vs nss _ ?_ rfl K2 (λ_ h=>h) (BX _) ?_ ν
  ·show(vs.toArray.zip vs.toArray).map (·.2)=vs.toArray;apply Array.toList_inj.mp;simp[List.map_snd_zip]
  ·match nss,ln with
   | [],_=>exact pF
   | [x],_=>exact nR _ _
   |_::_::_,ln=>simp at ln;lia
 ·have c2:¬vs.toArray.size<2:=by rw[bI];exact h2'
  rw[υ c2,υ c2];obtain⟨fs,f1,f2,f3⟩:=SB vs nss K2 hn;apply aA;refine kat_kind (s:={s with heap:=h2}) (T:=.type "int") f1 ν (λv hv=>?_) η ?_
  ·obtain⟨k,t,rfl⟩:=f3 v hv;exact Looks.now
  have hT:(iU "int" != iU "tuple")=ζ:=η
  rw[hT];obtain⟨i1,i2,i3⟩:=Wa (O:=Uo) (key:=λi=>nss.getD i []) (n:=vs.length) ν;have psz:(jL (en Uo λi=>nss.getD i []) (CT vs.length)).size=vs.length:=by rw[i2.size_eq];simp
  generalize hp:jL (en Uo λi=>nss.getD i []) (CT vs.length)=p at i2 i3 psz;apply aA;refine iW (kat_run (ks:=vs) (vs:=vs) (Q:=λgz s'=>s' = {s with heap:=h2}/\arrOf gz=p.map (kas_item (vs.toArray.zip vs.toArray))/\failedOf gz=ξ) (G:=λp' s'=>p'=p/\s' = {s with heap:=h2}) rfl ν za (λp' gz s' a1 a2 a3 a4=>⟨a4.2,by rw[a2,a4.1],a3⟩) ?_) ?_ λ_ _ e=>e
  ·refine SA (lt:=en Uo λi=>nss.getD i []) (n:=vs.length) (s:={s with heap:=h2}) (λi j C hi hj c=>?_) _ i1 ⟨hp,rfl⟩;unfold kas_ask;obtain⟨x,ex,ox,xs,nx,hx1,hx2,hx3,hx4⟩:=K2.2 i (vs.getD i gK) (by simp[hi]);obtain⟨y,ey,oy,ys,ny,hy1,hy2,hy3,hy4⟩:=K2.2 j (vs.getD j gK) (by simp[hj]);rw[ex,ey];refine kat_lt (s:={s with heap:=h2}) hx1 hx3 hy1 hy3 (Uq _ _ _ _ 0 hx4 hy4 δ ?_);exact c
  ·rintro⟨⟨⟩,gz⟩ s' ⟨rfl,har,hf⟩;have hout:=kat_snds (ks:=vs) (vs:=vs) rfl har;refine fin (p.toList.map λi=>vs.getD i gK) (p.toList.map λi=>nss.getD i []) gz hout hf ⟨δ,λi v e=>?_⟩ (λv hv=>?_) ?_ ?_ (by simp[psz];lia)
   ·rw[cG] at e;cases e2:p.toList[i]? with
    |none=>rw[e2] at e;simp at e
    |some j=>
     rw[e2] at e;simp only[qX,sA] at e;have hj:j<vs.length:=by
      have m:j∈p.toList:=eY e2;have:=(GM i2).mp (kD.mp m);simpa using this
     obtain⟨b,hb1,hb2⟩:=K2.2 j v (by rw[<-e];simp[hj]);refine⟨b,hb1,?_⟩;have g:(p.toList.map λi=>nss.getD i []).getD i []=nss.getD j []:=by
      rw[eD,cG,e2];rfl
     rw[g];exact hb2
   ·obtain⟨j,m,rfl⟩:=bG.mp hv;have hj:j<vs.length:=by
     have:=(GM i2).mp (kD.mp m);simpa using this
    simp[hj]
   ·have pl:p.toList.Perm (fH vs.length):=(by simpa using i2.toList);refine(pl.map _).trans ?_;rw[ln,range_getD]
   ·refine pG.mpr (mI.mpr λi j hi hj n6=>?_);have:=i3 i j ν (by simp at hj;lia);unfold kk at this;simp only[dD] at hi hj;have e1:p.getD i 0=p[i]:=(by simp[lP,hi]);have e2:p.getD j 0=p[j]:=(by simp[lP,hj]);rw[e1,e2] at this;exact this
theorem OE{S:Addr}{es:Array (Int×aF)}{Q:aF->aH->Prop}(hh:A.handled=ξ)(H:jj prog w s.heap S es)(za:es.size<64){nss:ω (ω Int)}(hn:∀ns∈nss,ns≠[])
  (hk:∀e∈es.toList,∃ns∈nss,∃a,e.2 = .ref a/\IsTupleKey (intKind prog w) s.heap ns a)
  (q:∀h' D out mss c,s.z<=D->h'.get? D=ψ (seqObj "list" (lE out) c)->g7 prog w h' out mss->(∀v∈out,∃e∈es.toList,e.2=v)->(∀ns,ns∈mss↔∃e∈es.toList,∃a,e.2 = .ref a/\IsTupleKey (intKind prog w) s.heap ns a)->mss.Pairwise (λx y=>pS y x=χ) ->
   mss.length=es.size->(∀b o,s.heap.get? b=ψ o->h'.get? b=ψ o)->Q (.ref D) {s with heap:=h'}):
  Δ prog w A (call (.builtin "sorted") [.ref S]) Q E s:=by
 obtain⟨⟨ep,t,ho,T,hf,hl,hp,_⟩,els,_⟩:=H;have wp:=MW (w:=w) S ep es;have wl:(kW w S ep es).toList.length=es.size:=by rw[wp.length_eq,dD]
 refine Calls.call_function_entry kind_sorted plain_sorted entry_sorted (args_sorted1 _) ?_;unfold Builtin.«sorted»;refine aA (m:=checkCount "sorted" 1 1 _) (aN ?_);apply aA;refine Ap (A:=A.in1) (by simp[hh]) ho T hl hp ν λh1 k1 big=>?_;apply aA;refine VM ?_ (by rw[aY,wl,lK];lia);show wpAny _ _ _ _ _ {s with heap:=h1.push (seqObj "list" (lE ((kW w S ep es).toList.map (·.2))) 0)};have hL:(h1.push (seqObj "list" (lE ((kW w S ep es).toList.map (·.2))) 0)).get? h1.objs.size=ψ (seqObj "list" (lE ((kW w S ep es).toList.map (·.2))) 0):=cD _ rfl;have k2:∀b o,s.heap.get? b=ψ o->(h1.push (seqObj "list" (lE ((kW w S ep es).toList.map (·.2))) 0)).get? b=ψ o:=λb o e=>aU _ (k1 b o e);generalize h1.push (seqObj "list" (lE ((kW w S ep es).toList.map (·.2))) 0)=h2 at hL k2;have ex:∀(i:Nat)(v:aF),((kW w S ep es).toList.map (·.2))[i]?=ψ v->∃ns∈nss,∃a,v = .ref a/\IsTupleKey (intKind prog w) s.heap ns a:=by
  intro i v e;rw[cG] at e;cases e2:(kW w S ep es).toList[i]? with
  |none=>rw[e2] at e;simp at e
  |some x=>
   rw[e2] at e;simp only[qX,sA] at e;have m:x∈es.toList:=wp.mem_iff.mp (eY e2);obtain⟨ns,h1,a,h2,h3⟩:=hk x m;exact⟨ns,h1,a,by rw[<-e];exact h2,h3⟩
 obtain⟨t5,kl,kk⟩:∃t5:ω (ω Int),t5.length=((kW w S ep es).toList.map (·.2)).length/\∀(i:Nat)(v:aF),((kW w S ep es).toList.map (·.2))[i]?=ψ v->t5.getD i []∈nss/\∃a,v = .ref a/\IsTupleKey (intKind prog w) s.heap (t5.getD i []) a:=by
  generalize ((kW w S ep es).toList.map (·.2))=vs at ex;clear hL
  induction vs with
  |nil=>exact⟨[],rfl,λi v e=>by simp at e⟩
  |cons v vs ih=>
   obtain⟨t5,k1,k2⟩:=ih λi v e=>ex (i+1) v (by simpa using e);obtain⟨ns,h1,a,h2,h3⟩:=ex 0 v rfl;refine⟨ns::t5,by simp[k1],λi u e=>?_⟩;cases i with
   |zero=>simp at e;subst e;exact⟨h1,a,h2,h3⟩
   |succ i=>exact k2 i u (by simpa using e)
 have KA:g7 prog w h2 ((kW w S ep es).toList.map (·.2)) t5:=by
  refine⟨kl.symm,λi v e=>?_⟩;obtain⟨_,a,h1,o,its,m,g1,g2⟩:=kk i v e;exact⟨a,h1,o,its,m,k2 _ _ g1,g2⟩
 have Cb:∀ns,ns∈t5↔∃e∈es.toList,∃a,e.2 = .ref a/\IsTupleKey (intKind prog w) s.heap ns a:=by
  intro ns;constructor
  ·intro h;obtain⟨i,hi,e⟩:=eB h;have jx:i<((kW w S ep es).toList.map (·.2)).length:=ν;obtain⟨_,a,h1,h2⟩:=kk i _ (aG jx);have g:t5.getD i []=ns:=(by simp[hi,e]);rw[g] at h2;simp only[List.getElem_map] at h1;exact⟨_,wp.mem_iff.mp (pZ _),a,h1,h2⟩
  ·rintro⟨e,he,a,h1,h2⟩;obtain⟨i,hi,e'⟩:=eB (wp.mem_iff.mpr he);obtain⟨_,b,g1,g2⟩:=kk i e.2 (by rw[cG,aG hi,e'];rfl);rw[h1] at g1;cases g1;have:=g2.inj h2;rw[<-this];have jx:i<t5.length:=(by rw[kl];simpa using hi);simp[jx]
 refine aA (gM (iR slot_list_sort ⟨_,hL,rfl⟩ entry_list_sort ?body (args_list_sort _)))
 case body=>
  refine Mz (s:={s with heap:=h2}) hL KA (λns h=>?_) (by rw[aY,wl];exact za) λh3 out mss c g1 g2 g3 g4 g5 g6=>?_
  ·obtain⟨e,he,a,e1,e2⟩:=(Cb ns).mp h;obtain⟨ms,m1,b,e3,e4⟩:=hk e he;rw[e1] at e3;cases e3;rw[e2.inj e4];exact hn ms m1
  ·refine⟨_,rfl,aN ⟨_,rfl,q h3 h1.objs.size out mss c big g1 g2 (λv hv=>?_) (λns=>(g4.mem_iff).trans (Cb ns)) g5 ?_ λb o e=>?_⟩⟩
   ·obtain⟨e,he,rfl⟩:=bG.mp (g3 v hv);exact⟨e,wp.mem_iff.mp he,rfl⟩
   ·rw[g4.length_eq,kl,aY,wl]
   ·have:=bC e;exact g6 b o (by intro z;simp only[Addr] at *;lia) (k2 b o e)
end
end
section
open PySem PySem.W PyProof.Rows
def Gg:typeLookup (.type "list_reverseiterator") "__len__" = pure ξ:=by rw[qZ,mE];kernel_rfl
def Qq:typeLookup (.type "list_reverseiterator") "__length_hint__" = pure (ψ (.builtin "list_reverseiterator.__length_hint__")):=by rw[qZ,mE];kernel_rfl
def ZW:isSubtype (.type "list_reverseiterator") (.type "list_reverseiterator")=pure ζ:=by rw[RZ];kernel_rfl
section
variable{s:aH}
theorem Se(ty:s.TypeIs (.ref I) "list_reverseiterator")(q:Q χ s):Δ prog w A (jM (.ref I)) Q E s:=by
 unfold jM;apply aA;refine mN ty Gg ?_;show wpAny _ _ (specialOf (gD I) (mU "__length_hint__") >>= _) _ _ _;apply aA;refine mN ty Qq ?_;dsimp only;have sp:splitId "list_reverseiterator.__length_hint__" = ψ ("list_reverseiterator","__length_hint__"):=ι
 rw[sp];dsimp only;apply aA;refine tK (b:=ζ) ty ZW ?_;simp only[fZ,aS,if_false];have key:∀(c:Bool)(X Y:Sem Bool),c=ζ->Δ prog w A X Q E s->Δ prog w A (if c=ζ then X else Y) Q E s:=λc X Y hc h=>by rw[Ω hc];exact h
 refine key _ _ _ ι ?_;rw[υ ι];exact aN q
theorem UM(hh:A.handled=ξ)(ne:l≠I)(hz:items.size<=sizeLine)(hi:s.heap.IsRevIter I l ((items.size:Int)-1))(hl:s.heap.IsList l items)
  (q:∀h' c,h'.get? s.z=ψ (seqObj "list" items.toList.reverse.toArray c)->(∀b o,b≠I->s.heap.get? b=ψ o->h'.get? b=ψ o)->Q (.ref s.z) {s with heap:=h'}):
  Δ prog w A (call (.type "list") [.ref I]) Q E s:=by
 have ltI:I<s.z:=by obtain⟨o,e,_⟩:=hi;exact bC e
 have ltl:l<s.z:=by obtain⟨o,e,_⟩:=hl;exact bC e
 refine QS (Q₁:=λobj s₁=>obj = .ref s.z/\s₁ = {s with heap:=s.heap.push {cls:=.type "list",data:=.seq #[]}}) F.called_list (F.typeCall_list_1 _) F.entry_list_init (UR _ ⟨rfl,rfl⟩) λobj s₁ h₁=>?_;obtain⟨rfl,rfl⟩:=h₁;have hS:(s.heap.push {cls:=.type "list",data:=.seq #[]}).get? s.z=ψ {cls:=.type "list",data:=.seq #[]}:=cD _ rfl;refine⟨⟨_,hS,rfl⟩,F.args_list_init_2 _ _,?_⟩;show wpAny _ _ (do let old <-nZ (.ref s.z);rK (.ref s.z) (λ_=>#[]);letGo old.toList.reverse;fY (.ref s.z) (.ref I) .none) _ _ _;apply aA;unfold nZ;apply aA;apply fX hS rfl;apply aN;show wpAny _ _ (updateSeq s.z (λ_=>#[]) >>= λ_=>letGo (#[]:Array aF).toList.reverse >>= λ_=>fY (.ref s.z) (.ref I) .none) _ _ _;apply aA;refine iQ hS rfl ?_;have x5:=fE (eG (λ_=>(#[]:Array aF))) hS rfl;have km:∀b o,b≠s.z->s.heap.get? b=ψ o->((s.heap.push {cls:=.type "list",data:=.seq #[]}).update s.z (eG (λ_=>(#[]:Array aF)))).get? b=ψ o:=
  λb o hb e=>(dE _ _ (Ne.symm hb)).trans (aU _ e)
 generalize (s.heap.push {cls:=.type "list",data:=.seq #[]}).update s.z (eG (λ_=>(#[]:Array aF)))=h2 at x5 km;apply aA;apply nY;have oz:I≠s.z:=cE ltI;have nel:l≠s.z:=cE ltl;have hi2:h2.IsRevIter I l ((items.size:Int)-1):=hi.at λo e=>km _ o oz e;have hl2:h2.IsList l items:=hl.at λo e=>km _ o nel e;unfold fY;apply aA;refine sK (T:="list_reverseiterator") hi2.typeIs ?_;have g1:iY (.ref s.z) (.ref I)=χ:=by simp[iY,fC ltI]
 have g2:(iU "list_reverseiterator" == iU "list")=χ:=η
 have g3:(iU "list_reverseiterator" == iU "tuple")=χ:=η
 simp only[g1,g2,g3,xG,aS,if_false];apply aA;refine wpAny_pyIter_revIter hi2 ?_;apply aA;apply gM;refine Se hi2.typeIs ?_;have key:∀(c:Bool)(X Y:Sem Fin){Q':Fin->aH->Prop}{E':aF->aH->Prop}{s':aH}{A':dJ},c=χ->Δ prog w A' Y Q' E' s'->Δ prog w A' (if c=ζ then X else Y) Q' E' s':=λc X Y _ _ _ _ hc h=>by rw[hc,υ cQ];exact h
 refine key _ _ _ ι ?_;apply aN;refine⟨jP iS _,?_⟩;refine RK (s0:=s) (n:=items.size) (J:=λacc h=>h.IsRevIter I l ((items.size:Int)-1-(acc.length:Int))/\h.IsList l items/\acc=items.toList.reverse.take acc.length/\∀b o,b≠I->b≠s.z->s.heap.get? b=ψ o->h.get? b=ψ o)
  (F:=λacc h=>acc=items.toList.reverse/\∀b o,b≠I->b≠s.z->s.heap.get? b=ψ o->h.get? b=ψ o) .none hz ?_ ?_ ?_ (λh' acc c m9 hF kr=>⟨rfl,?_⟩) items.size #[] h2 _ rfl (gH _) ?_ x5
 ·rintro acc h h' ⟨J1,J2,J3,J4⟩ o5 hz up;exact⟨J1.at λo e=>up _ o oz e,J2.at λo e=>up _ o nel e,J3,λb o n1 n2 e=>up b o n2 (J4 b o n1 n2 e)⟩
 ·rintro acc s' o Q' E' e_ ⟨J1,J2,J3,J4⟩ o5 k;have e:items[items.size-1-acc.length]?=ψ (items[items.size-1-acc.length]'ν):=cR _;refine wpAny_pyNext_rev_item (i:=items.size-1-acc.length) (by rw[show((items.size-1-acc.length:Nat):Int)=(items.size:Int)-1-(acc.length:Int) by lia];exact J1) J2 e λh' it' sb=>k _ h' ⟨?_,J2.at λo e=>?_,?_,λb o n1 n2 e=>?_⟩ ?_
  ·rw[show((items.size-1-acc.length:Nat):Int)-1=(items.size:Int)-1-((acc++[items[items.size-1-acc.length]'ν]).length:Int) by simp;lia] at it';exact it'
  ·rw[sb.2 _ ne];exact e
  ·rw[bR,sP,nS,<-J3];congr 1;rw[aG θ,List.getElem_reverse];simp
  ·rw[sb.2 b n1];exact J4 b o n1 n2 e
  ·rw[sb.2 _ (Ne.symm oz)];exact o5
 ·rintro acc s' o Q' E' hlen ⟨J1,J2,J3,J4⟩ o5 k;rw[hlen] at J3;refine wpAny_pyNext_rev_end (l:=l) (by simp[hh]) (by rw[show(-1:Int)=(items.size:Int)-1-(acc.length:Int) by lia];exact J1) λh' eb=>k h' ⟨?_,λb o n1 n2 e=>eb b o n1 (J4 b o n1 n2 e)⟩ (eb _ _ (Ne.symm oz) o5);rw[J3,oD];simp
 ·exact⟨by simpa using hi2,hl2,rfl,λb o _ n2 e=>km b o n2 e⟩
 ·refine q h' c ?_ λb o n1 e=>hF.2 b o n1 (cE (bC e)) e;rw[kr,<-hF.1]
end
end
section
open PySem PySem.Spec PyProof.Rows L2
def boot_sorted:bootBuiltins "sorted" = ψ (.builtin "sorted"):=ι
def boot_set:bootBuiltins "set" = ψ (.type "set"):=ι
theorem Bq:∀{ns:ω Int}{us:ω aF},au (ns.map V.int) us->ItemsAre (intKind prog w) ns us
 | [],_,h=>by cases h;exact .nil
 |n::ns,_,h=>by
  cases h with
  |cons h1 t=>
   obtain⟨t',rfl⟩:=h1;exact .cons (intKind_is _ _ _ _) (Bq t)
def TC(te:RE):RA:=λa Q=>te a λx=>∃nss:ω (ω Int),x = .lst (nss.map pB)/\nss.length<64/\(∀ns∈nss,ns≠[])/\∀mss:ω (ω Int),mss.Pairwise (λx y=>pS y x=χ)->(∀ns,ns∈mss↔ns∈nss)->mss.length<=nss.length->Q (mss.map pB)
def TB(te:RE):RA:=λa Q=>te a λx=>∃ds:ω D,x = .lst ds/\Q ds.reverse
theorem Ec{K:aI}{H:Hp}:∀(out:ω aF)(mss:ω (ω Int)),out.length=mss.length->(∀(i:Nat)(v:aF),out[i]?=ψ v->∃a,v = .ref a/\H a=ψ (.tup ((mss.getD i []).map V.int)))->∃ws:ω V,au ws out/\ak K H (mss.map pB) ws
 | [],[],_,_=>⟨[],.nil,.nil⟩
 | [],_::_,h,_=>by simp at h
 |_::_,[],h,_=>by simp at h
 |v::out,ms::mss,h,k=>by
  obtain⟨ws,h1,h2⟩:=Ec (K:=K) (H:=H) out mss (by simpa using h) λi v e=>k (i+1) v (by simpa using e);obtain⟨a,rfl,ha⟩:=k 0 v rfl;exact⟨.ref a::ws,.cons rfl h1,.cons (.tup ha ak.ints) h2⟩
section
variable{X:Cx}{e:Expr}{te:RE}{p pz pos iy:Pos}
theorem Fw{k:Nat}(hr:dc k X.A)(hms:X.mg "sorted" = ξ)(zw:X.mg "set" = ξ)(hc:X.calm=ζ)(h:DB X e te)(hgs:Gl X "sorted":=by rfl)(zo:Gl X "set":=by rfl)
  (hs:starEach [.Call (.Name "set" pz) [e] [] iy] X.env=[(χ,eval (.Call (.Name "set" pz) [e] [] iy) X.env)]:=by rfl) (hn:starEach [] X.env=[]:=by rfl) (h1:starEach [e] X.env=[(χ,eval e X.env)]:=by rfl):
  DO X (.Call (.Name "sorted" p) [.Call (.Name "set" pz) [e] [] iy] [] pos) (TC te):=by
 intro Γ s Z H Q I bj;obtain⟨m,P,st,q,kq⟩:=bj;refine gL (tD I hgs hms boot_sorted ?_);refine nT ?_ (by rw[hs,hn]) (by rw[hn];rfl);rw[hs];show wpAny _ _ (spliced ((χ,eval (.Call (.Name "set" pz) [e] [] iy) X.env)::backTo pos [])) _ _ s;refine rD (gL (tD I zo zw boot_set ?_));refine fO (dh (sG h h1 hn iy Γ s Z H (λvs H1=>∃(nss:ω (ω Int))(v:V),vs=[v]/\ag H H1/\dm X.K H1 (.lst (nss.map pB)) v/\nss.length<64/\(∀ns∈nss,ns≠[])/\∀mss:ω (ω Int),mss.Pairwise (λx y=>pS y x=χ)->(∀ns,ns∈mss↔ns∈nss)->mss.length<=nss.length->P (mss.map pB)) I
  ⟨m,_,st,q,λx v H1 hx s1 r1=>?_⟩) λus s1 ⟨vs,H1,I1,r1,q1⟩=>?_) (by rw[h1,hn]) (by rw[hn];rfl)
 ·obtain⟨nss,rfl,a1,a2,a3⟩:=hx;exact⟨nss,v,rfl,s1,r1,a1,a2,a3⟩
 obtain⟨nss,v,rfl,o0,rb,za,gy,hP⟩:=q1;obtain⟨l,vs,rfl,hq,rr⟩:=rb.lst;obtain⟨u,rfl,rx⟩:=vals1 r1;cases rx;obtain⟨its,rv,pl,hz⟩:=I1.list hq;have l1:=rr.length;have l2:=rv.length;rw[aY] at l1;have each:∀(i:Nat)(u:aF),its[i]?=ψ u->∃ns a,nss[i]?=ψ ns/\vs[i]?=ψ (.ref a)/\u = .ref a/\IsTupleKey (intKind X.prog X.w) s1.heap ns a:=λi u e=>by
  have hi:i<nss.length:=by have:=(cB.mp e).1;lia
  obtain⟨v,e1,e2⟩:=rr.get (i:=i) (d:=pB nss[i]) (by rw[cG,aG hi];rfl);obtain⟨a,rfl,ha⟩:=ak.tupI_inv e2;obtain⟨u',f1,f2⟩:=rv.get e1;rw[e] at f1;cases f1;cases f2;obtain⟨ts,g1,g2,_⟩:=I1.tuple (f8.of (K:=X.K) ha);obtain⟨o,go,gc,n,gd⟩:=g2;exact⟨_,a,aG hi,e1,rfl,o,ts.toArray,n,go,gc,gd,by simpa using Bq g1⟩
 have hu:=hr.un;refine UP (key:=λi=>nss.getD i []) (I1.ok.hd hc) ν pl.isList (λi u e=>?_) θ λh2 tk D up=>?_
 ·obtain⟨ns,a,n1,_,rfl,hk⟩:=each i u (by simpa using e);refine⟨a,rfl,?_⟩;have:nss.getD i []=ns:=by rw[eD,n1];rfl
  rw[this];exact hk
 refine rR ?_;obtain⟨es,ST,d1,d2,d3⟩:=D;have si:∀{ns:ω Int}{a:Addr},IsTupleKey (intKind X.prog X.w) s1.heap ns a->IsTupleKey (intKind X.prog X.w) h2 ns a:=λ⟨o,its,n,g1,g2⟩=>⟨o,its,n,up _ _ g1,g2⟩;have elem:∀e∈es.toList,∃(i:Nat)(ns:ω Int)(a:Addr),nss[i]?=ψ ns/\vs[i]?=ψ (.ref a)/\e.2 = .ref a/\IsTupleKey (intKind X.prog X.w) h2 ns a:=λe he=>by
  obtain⟨j,hj,ej⟩:=d1 e he;obtain⟨ns,a,n1,n2,n3,hk⟩:=each j e.2 (by simpa using ej);exact⟨j,ns,a,n1,n2,n3,si hk⟩
 refine OE (s:={s1 with heap:=h2,toks:=tk}) (A:=X.A) (I1.ok.hd hc) ST (by simp at d3;lia) (nss:=nss) gy (λe he=>?_) λh3 Dd out mss c big g1 g2 g3 g4 g5 g6 aq=>?_
 ·obtain⟨i,ns,a,n1,n2,n3,hk⟩:=elem e he;exact⟨ns,eY n1,a,n3,hk⟩
 have kp:∀b o,s1.heap.get? b=ψ o->h3.get? b=ψ o:=λb o e=>aq b o (up b o e);have I3:Inv X Γ Z H1 {s1 with heap:=h3,toks:=tk}:=I1.kept kp;have szS:s1.z<h2.objs.size:=by obtain⟨⟨ep,t,ho,_⟩,_⟩:=ST;exact bC ho
 have yu:s1.z<=Dd:=by have:h2.objs.size<=Dd:=big;lia
 have vi:H1 Dd=ξ:=I1.hok.fresh yu;have kj:∀{i:Nat}{ns:ω Int}{a:Addr},nss[i]?=ψ ns->vs[i]?=ψ (.ref a)->H1 a=ψ (.tup (ns.map V.int)):=λ{i ns a} n1 n2=>by
  obtain⟨w,f1,f2⟩:=rr.get (i:=i) (d:=pB ns) (by rw[cG,n1];rfl);rw[n2] at f1;cases f1;obtain⟨b,e,hb⟩:=ak.tupI_inv f2;cases e;exact hb
 obtain⟨ws,VV,RR⟩:=Ec (K:=X.K) (H:=H1) out mss g2.1 λi v e=>by
  obtain⟨x,hx,ex⟩:=g3 v (eY e);obtain⟨j,ns,a,n1,n2,n3,hk⟩:=elem x hx;obtain⟨b,eb,hb⟩:=g2.2 i v e;rw[<-ex,n3] at eb;cases eb;refine⟨a,by rw[<-ex,n3],?_⟩;have hk3:IsTupleKey (intKind X.prog X.w) h3 ns a:=by obtain⟨o,its,n,q1,q2⟩:=hk;exact⟨o,its,n,aq _ _ q1,q2⟩
  rw[hb.inj hk3];exact kj n1 n2
 have lo:out.length<=64:=by rw[g2.1,g6];simp at d3;lia
 have lw:=VV.length;have I4:=I1.trackO (a:=Dd) (w:=.lst ws) I3 yu vi ⟨by rw[lK];lia,out,c,VV,g1⟩;refine⟨.ref Dd,_,I4,rfl,kq _ _ _ H1 (hP mss g5 (λns=>?_) (by rw[g6];simp at d3;lia)) o0 vi RR⟩;rw[g4 ns];constructor
 ·rintro⟨x,hx,a,e1,e2⟩;obtain⟨j,ms,b,n1,n2,n3,hk⟩:=elem x hx;rw[e1] at n3;cases n3;rw[e2.inj hk];exact eY n1
 ·intro h;obtain⟨j,hj,rfl⟩:=eB h;obtain⟨y,hy,b,e1,e2⟩:=d2 j θ;refine⟨y,hy,b,e1,?_⟩;have:nss.getD j []=nss[j]:=by simp[hj]
  rw[this] at e2;exact e2
theorem Fv(zv:X.mg "list" = ξ)(zw:X.mg "reversed" = ξ)(hc:X.calm=ζ)(h:DB X e te)(zn:Gl X "list":=by rfl)(zo:Gl X "reversed":=by rfl)
  (hs:starEach [.Call (.Name "reversed" pz) [e] [] iy] X.env=[(χ,eval (.Call (.Name "reversed" pz) [e] [] iy) X.env)]:=by rfl) (hn:starEach [] X.env=[]:=by rfl) (h1:starEach [e] X.env=[(χ,eval e X.env)]:=by rfl):
  DO X (.Call (.Name "list" p) [.Call (.Name "reversed" pz) [e] [] iy] [] pos) (TB te):=by
 intro Γ s Z H Q I bj;obtain⟨d,P,st,q,kq⟩:=bj;refine gL (tD I zn zv boot_list ?_);refine fO ?_ (by rw[hs,hn]) (by rw[hn];rfl);rw[hs];show wpAny _ _ (spliced ((χ,eval (.Call (.Name "reversed" pz) [e] [] iy) X.env)::backTo pos [])) _ _ s;refine rD (gL (tD I zo zw boot_reversed ?_));refine fO (dh (sG h h1 hn iy Γ s Z H (λvs H1=>∃(ds:ω D)(v:V),vs=[v]/\ag H H1/\dm X.K H1 (.lst ds) v/\P ds.reverse) I
  ⟨d,_,st,q,λx v H1 hx s1 r1=>?_⟩) λus s1 ⟨vs,H1,I1,r1,q1⟩=>?_) (by rw[h1,hn]) (by rw[hn];rfl)
 ·obtain⟨ds,rfl,a1⟩:=hx;exact⟨ds,v,rfl,s1,r1,a1⟩
 obtain⟨ds,v,rfl,o0,rb,hP⟩:=q1;obtain⟨l,vs,rfl,hq,rr⟩:=rb.lst;obtain⟨u,rfl,rx⟩:=vals1 r1;cases rx;obtain⟨its,rv,pl,hz⟩:=I1.list hq;have l1:=rr.length;have l2:=rv.length;have lt:l<s1.z:=by obtain⟨o,e,_⟩:=pl.isList;exact bC e
 refine call_reversed_list pl.isList ?_;refine rR ?_;have g0:(s1.heap.push (revObj l ((its.toArray.size:Int)-1))).get? s1.z=ψ (revObj l ((its.toArray.size:Int)-1)):=cD _ rfl;have k1:∀b o,s1.heap.get? b=ψ o->(s1.heap.push (revObj l ((its.toArray.size:Int)-1))).get? b=ψ o:=λb o e=>aU _ e;have z1:(s1.heap.push (revObj l ((its.toArray.size:Int)-1))).objs.size=s1.z+1:=gU ..;generalize s1.heap.push (revObj l ((its.toArray.size:Int)-1))=h2 at g0 k1 z1;refine UM (s:={s1 with heap:=h2}) (A:=X.A) (l:=l) (I1.ok.hd hc) (cE lt) θ ⟨_,g0,rfl,rfl⟩ (pl.isList.at λo e=>k1 _ o e) λh3 c g1 up=>?_;show EP X Γ Z Q (.ref h2.objs.size) _;rw[show({s1 with heap:=h2}:aH).z=s1.z+1 from z1] at g1;rw[z1];have kp:∀b o,s1.heap.get? b=ψ o->h3.get? b=ψ o:=λb o e=>up b o (cE (bC e)) (k1 b o e);have I3:Inv X Γ Z H1 {s1 with heap:=h3}:=I1.kept (t':=s1.toks) kp;have vi:H1 (s1.z+1)=ξ:=I1.hok.fresh (CD _);have VV:au vs.reverse its.reverse:=by
  clear hq pl hz l1 l2 rr g1 g0
  induction rv with
  |nil=>exact .nil
  |cons r t ih=>
   simp only[wQ];exact au.append ih (.cons r .nil)
 have I4:=I1.trackO (a:=s1.z+1) (w:=.lst vs.reverse) I3 (CD _) vi ⟨θ,its.reverse,c,VV,by simpa using g1⟩;exact⟨.ref (s1.z+1),_,I4,rfl,kq _ _ _ H1 hP o0 vi rr.reverse⟩
end
def O8(lo:Int)(n:Nat):ω D:=(fH n).map λk:Nat=>D.int (lo+(k:Int)*2)
structure u8(j:Int):Prop where
 lo:-(2 ^ 60)<=j
 hi:j<2 ^ 60
def D9(t:RA):RA:=λa Q=>t a λds=>match ds with
 | [.int i,.int j,.int c]=>(u8 i/\u8 j/\c=2)/\Q (O8 i ((j-i+1) / 2).toNat)
 |_=>False
end
end L2.R2
namespace L2
open PySem PySem.Spec PyProof.Rows
section
variable{κ:Type}[DecidableEq κ]
def wE(kvs:ω (κ×V))(k:κ):Option V:=(kvs.find? λkv=>decide (kv.1=k)).map (·.2)
def Vs(kvs:ω (κ×V))(k:κ)(v:V):ω (κ×V):=
 if(kvs.any λkv=>decide (kv.1=k))=ζ then kvs.map (λkv=>if kv.1=k then(kv.1,v) else kv) else kvs++[(k,v)]
def tW{p:κ×V}{r:ω (κ×V)}{k:κ}(e:p.1=k):wE (p::r) k=ψ p.2:=by simp[wE,oJ,e]
def sJ{p:κ×V}{r:ω (κ×V)}{k:κ}(e:¬p.1=k):wE (p::r) k=wE r k:=by simp[wE,oJ,e]
theorem Er(k:κ):∀kvs:ω (κ×V),(kvs.any λkv=>decide (kv.1=k))=(wE kvs k).isSome
 | []=>rfl
 |p::r=>by
  rw[FJ];by_cases e:p.1=k
  ·simp only[tW e,decide_eq_true e,Bool.true_or,Option.isSome_some]
  ·rw[sJ e,decide_eq_false e,UG];exact Er k r
theorem Ru{kvs:ω (κ×V)}{k:κ}(v:V)(h:wE kvs k=ξ):Vs kvs k v=kvs++[(k,v)]:=by
 unfold Vs;rw[Er,h];exact υ η
theorem KV.val(r:KV kvs vs)(k:κ):mj (wE kvs k) (valueAt vs k):=by
 unfold KV at r
 induction r with
 |nil=>exact rF
 | @cons p q ps qs h t ih=>
  obtain⟨h1,h2⟩:=h;by_cases e:p.1=k
  ·have e':q.1=k:=h1.symm.trans e;have b:valueAt (q::qs) k=ψ q.2:=(by simp[valueAt,oJ,e']);rw[tW e,b];exact h2
  ·have e':¬q.1=k:=λz=>e (h1.trans z);have b:valueAt (q::qs) k=valueAt qs k:=(by simp[valueAt,oJ,e']);rw[sJ e,b];exact ih
theorem KV.any(r:KV kvs vs)(k:κ):(kvs.any λkv=>decide (kv.1=k))=vs.any λkv=>decide (kv.1=k):=by
 unfold KV at r
 induction r with
 |nil=>rfl
 |cons h t ih=>rw[FJ,FJ,ih,h.1]
theorem KV.repl(r:KV kvs vs)(k:κ)(ry:RelV y u):
  KV (kvs.map λkv=>if kv.1=k then(kv.1,y) else kv) (vs.map λkv=>if kv.1=k then(kv.1,u) else kv):=by
 unfold KV at r⊢
 induction r with
 |nil=>exact .nil
 | @cons p q ps qs h t ih=>
  rw[aR,aR];refine .cons ?_ ih;obtain⟨h1,h2⟩:=h;by_cases e:p.1=k
  ·rw[Ω e,Ω (h1.symm.trans e)];exact⟨h1,ry⟩
  ·rw[υ e,υ (λz=>e (h1.trans z))];exact⟨h1,h2⟩
theorem KV.put(r:KV kvs vs)(k:κ)(ry:RelV y u):KV (Vs kvs k y) (stored vs k u):=by
 unfold Vs stored;rw[r.any k];by_cases e:(vs.any λkv=>decide (kv.1=k))=ζ
 ·rw[Ω e,Ω e];exact r.repl k ry
 ·rw[υ e,υ e];exact Paired.snoc r ⟨rfl,ry⟩
theorem KV.length{kvs:ω (κ×V)}{vs:ω (κ×aF)}(r:KV kvs vs):kvs.length=vs.length:=UI r
end
def Qe(r:RelV (kV k) u):(oG P w).is k u=ζ:=by
 cases k with
 |inl i=>obtain⟨t,e⟩:=(show ∃t,u=LK i t from r);subst e;exact Cc P w i t
 |inr x=>obtain⟨t,e⟩:=(show ∃t,u=LL x t from r);subst e;exact Cd P w x t
theorem WI:∀{ks:ω f6}{us:ω aF},au (ks.map kV) us->ItemsAre (oG P w) ks us
 | [],_,r=>by rw[bO] at r;cases r;exact .nil
 |k::ks,_,r=>by
  rw[aR] at r;cases r with
  |cons h t=>exact .cons (Qe h) (WI t)
abbrev KT(H:Hp):ω (ω f6×V)->ω (ω f6×Addr×aF)->Prop:=Paired λp q=>p.1=q.1/\H q.2.1=ψ (.tup (p.1.map kV))/\RelV p.2 q.2.2
theorem KT.val(r:KT H kvs xs)(k:ω f6):mj (wE kvs k) ((atKey xs k).map (·.2)):=by
 induction r with
 |nil=>exact rF
 | @cons p q ps qs h t ih=>
  obtain⟨h1,_,h2⟩:=h;by_cases e:p.1=k
  ·have e':q.1=k:=h1.symm.trans e;have b:atKey (q::qs) k=ψ q.2:=(by simp[atKey,oJ,e']);rw[tW e,b];exact h2
  ·have e':¬q.1=k:=λz=>e (h1.trans z);have b:atKey (q::qs) k=atKey qs k:=(by simp[atKey,oJ,e']);rw[sJ e,b];exact ih
def Xz(ok:ga P w H h)(e:Rd H a u):ca P w H h a u:=e.ok ok
def Ja(ok:ga P w H h)(e:Rd H a (.dK kvs)):kvs.length<=sizeLine/\(a == sysModules)=χ/\∃vs,KV kvs vs/\h.DictOf (oG P w) a vs:=
 show ca P w H h a (.dK kvs) from Xz ok e
def H9(ok:ga P w H h)(e:H a=ψ (.dK kvs)):kvs.length<=sizeLine/\(a == sysModules)=χ/\∃vs,KV kvs vs/\h.DictOf (oG P w) a vs:=Ja ok (.inl e)
def Qg(ok:ga P w H h)(e:H a=ψ (.tup (ks.map kV))):(tupleKind (oG P w)).is h ks a:=by
 obtain⟨_,its,r,o,h1,h2,n,h3⟩:=(show ca P w H h a (.tup (ks.map kV)) from ok a _ e);exact⟨o,its.toArray,n,h1,h2,h3,by simpa using WI r⟩
def Xe(ok:ga P w H h)(e:Rd H a (.dT kvs)):kvs.length<=sizeLine/\(a == sysModules)=χ /\
  ∃xs,KT H kvs xs/\h.DictOfH (tupleKind (oG P w)) a xs:=by
 obtain⟨z,y,xs,r,o,es,ep,h1,h2,h3,h4,h5⟩:=(show ca P w H h a (.dT kvs) from Xz ok e);refine⟨z,y,xs,r,o,es,ep,h1,h2,h3,h4,λx hx=>?_,h5⟩;have all:∀{l:ω (ω f6×V)}{m:ω (ω f6×Addr×aF)},KT H l m->∀x∈m,(tupleKind (oG P w)).is h x.1 x.2.1:=by
  intro l m q
  induction q with
  |nil=>intro x hx;exact nomatch hx
  | @cons p q ps qs hq t ih=>
   intro x hx;rcases aO.mp hx with e |hx
   ·subst e;exact Qg ok (by rw[<-hq.1];exact hq.2.1)
   ·exact ih x hx
 exact all r x hx
def Ye(H:Hp)(a:Addr)(y:V)(r:Option V):Prop:=
 (∃kvs k,Rd H a (.dK kvs)/\y=kV k/\r=wE kvs k)\/∃kvs k b,Rd H a (.dT kvs)/\y = .ref b/\H b=ψ (.tup (k.map kV))/\r=wE kvs k
section
variable{σ:St}{s:aH}
theorem Inv.big(I:Inv X Γ σ H s):sysModules<s.z:=by
 have h:mainGlobals<s.z:=(I.mod.glob.keeps I.bk).lt;exact qC η h
def Ky(hu:A.units+1<cLine)(I:Inv X Γ σ H s)(g:Ye H a y (ψ v))(ry:RelV y u)(h:∀w' s',Inv X Γ σ H s'->RelV v w'->Q w' s'):
  wpAny (model X.prog X.w) A (getItem (.ref a) u) Q E s:=by
 rcases g with⟨kvs,k,e,ey,l⟩ | ⟨kvs,k,b,e,ey,eb,l⟩
 ·subst ey;obtain⟨z,hd,vs,rel,dd⟩:=Ja I.hok e;obtain⟨w',hw,kc⟩:=mj.some_of (v:=v) (o:=valueAt vs k) (by rw[l];exact rel.val k);exact wpAny_getItem_of (Qe ry) dd.mapOf hw (h w' _ (I.tok _) kc)
 ·subst ey;cases (show u=gD b from ry);obtain⟨z,hd,xs,rel,dd⟩:=Xe I.hok e;obtain⟨w',hw,kc⟩:=mj.some_of (v:=v) (o:=(atKey xs k).map (·.2)) (by rw[l];exact rel.val k);obtain⟨p,hp,z7⟩:=Option.map_eq_some_iff.mp hw;refine wpAny_getItem_heap (tupleKind_room_in1 hu) (Qg I.hok eb) dd hp ?_;rw[z7];exact h w' _ (I.tok _) kc
def Tw(I:Inv X Γ σ H s)(mu:yq (H a))(hs:mO a s.heap h')(he:∃q,h'.get? a=ψ q)(new:ca X.prog X.w (ck H a ob) h' a ob):
  Inv X Γ σ (ck H a ob) {s with heap:=h',toks:=t'}:=
 I.write (x:=a) (e:=a) mu (.inl rfl) (λb q hb z=>(hs.2 b hb).trans z) he new
def Ys(z:kvs.length<=sizeLine)(hd:(a == sysModules)=χ)(rel:KV kvs vs)(dd:h'.DictOf (oG P w) a vs):
  ca P w H' h' a (.dK kvs):=⟨z,hd,vs,rel,dd⟩
end
def Yg(i:Expr):Prop:=∀ov iv,subscripted i χ ov iv=operate [ov,iv] (getItem ov iv)
def Wf{prog:cC}{w:cZ}{A:dJ}{E:aF->aH->Prop}{s:aH}{env:Env}{value slice:Expr}{pos:Pos}{T id:String}{Q:aF->aH->Prop}
  (hl:typeLookup (.type T) "__getitem__" = pure (ψ (.builtin id))) (hs:Yg slice)
  (h:Δ prog w A (eval value env) (λo s₁=>Δ prog w A (eval slice env) (λi s₂=>s₂.TypeIs o T/\Δ prog w A (getItem o i) Q E s₂) E s₁) E s):
  Δ prog w A (eval (.Subscript value slice pos) env) Q E s:=by
 refine Subscript_ (iW h (λo s₁ h₁=>iW h₁ (λi s₂ h₂=>?_) λ_ _ x=>x) λ_ _ x=>x);obtain⟨hT,h₂⟩:=h₂;unfold subscriptTail;refine aA ?_;rw[getitemInPython_of_ne hT.not_modules];refine aA (mN hT hl ?_);have fin:Δ prog w A (subscripted slice χ o i) (λr s₃=>Δ prog w A (letTemporaryGo value o r >>= λ_=>pure r) Q E s₃) E s₂:=by
  rw[hs o i];exact wpAny_operating (iW h₂ (λr s₃ h₃=>aA (wpAny_letTemporaryGo (aN h₃))) λ_ _ x=>x)
 first
  |exact aN (aA fin)
  |exact aA (aN (aA fin))
  |exact aA fin
def Bb{Z:St}{s:aH}(I:Inv X Γ Z H s)(g:Ye H a y o):s.TypeIs (.ref a) "dict":=by
 rcases g with⟨kvs,k,e,_,_⟩ | ⟨kvs,k,b,e,_,_,_⟩
 ·obtain⟨_,_,vs,_,dd⟩:=Ja I.hok e;exact dd.typeIs
 ·obtain⟨_,_,xs,_,dd⟩:=Xe I.hok e;exact dd.typeIs
def P6(td ty:TE):TE:=λZ H Q=>td Z H λx H1=>ty Z H1 λy H2=>∃a v,x = .ref a/\Ye H2 a y (ψ v)/\Q v H2
section
variable{o i e value:Expr}
def Vh(hu:X.A.units+1<cLine)(ho:PE X o td)(hi:PE X i ty)(hs:Yg i):PE X (.Subscript o i pos) (P6 td ty):=by
 intro Γ s Z H Q I h;refine Wf PySem.F.slot_dict_getitem.lookup hs (dh (ho Γ s Z H _ I h) λu s1 ⟨x,H1,I1,rx,q1⟩=>dh (hi Γ s1 Z H1 _ I1 q1) λiv s2 ⟨y,H2,I2,ry,a,v,ex,g,q2⟩=>?_);subst ex;obtain rfl:u=gD a:=rx;exact⟨Bb I2 g,Ky hu I2 g ry λw' s3 I3 kc=>⟨v,H2,I3,kc,q2⟩⟩
end
def Pd(h:Heap)(hb:sysModules<h.objs.size):ca P w H (h.push {cls:=.type "dict",data:=.dict #[]}) h.objs.size (.dK []):=
 ⟨gH _,beq_eq_false_iff_ne.mpr (Ne.symm (cE hb)),[],.nil,Heap.DictOf.new h⟩
def F0:TE:=λ_ H Q=>∀p,H p=ξ->Q (.ref p) (ck H p (.dK []))
def Rh:PE X (.Dict [] [] pos) F0:=λΓ s Z H Q I h=>
 wpAny_Dict_empty ⟨.ref s.z,_,I.laid (a:=s.z) (o:=.dK []) (t':=s.toks) (λ_ _ q=>aU _ q) (bU _) (Pd s.heap I.big),rfl,h _ (I.hok.fresh (bU _))⟩
abbrev VV:ω (V×V)->ω (aF×aF)->Prop:=Paired λp q=>RelV p.1 q.1/\RelV p.2 q.2
end L2
namespace L2.R2
section
open PySem PySem.Spec PyProof.Rows L2
def Vu:V->ω V->Hp->VK->Prop:=λx vs H Q=>∃a kvs k y,x = .ref a/\vs=[kV k,y]/\H a=ψ (.dK kvs)/\kvs.length<sizeLine /\
 (∀v,wE kvs k=ψ v->Q v H)/\(wE kvs k=ξ->Q y (ck H a (.dK (kvs++[(k,y)]))))
def Lu:U' X "dict.setdefault" Vu:=by
 intro Γ s Z H x vs v us Q I rx rv h;obtain⟨a,kvs,k,y,rfl,rfl,hH,hz,h1,h2⟩:=h;cases rx;obtain⟨u,w,rfl,ru,kc⟩:=rv.two;obtain⟨z,hd,ws,rel,dd⟩:=H9 I.hok hH;have val:=rel.val k;refine call_meetsIn uB dd.typeIs PySem.F.entry_dict_setdefault (PySem.F.args_dict_setdefault_3 _ _ _) (kt_meets_setdefault (oG X.prog X.w) a (Qe ru) hd w)
  ⟨ws,dd,by rw[<-rel.length];exact z,λv hv=>?_,λhn h' dd' hs=>?_⟩
 ·rw[hv] at val;cases e:wE kvs k with
  |none=>rw[e] at val;exact(show False from val).elim
  |some v'=>rw[e] at val;exact⟨v',H,I.tok _,val,h1 v' e⟩
 ·rw[hn] at val;cases e:wE kvs k with
  |some _=>rw[e] at val;exact(show False from val).elim
  |none=>
   have he:∃q,h'.get? a=ψ q:=let ⟨q,_,_,hq,_⟩:=dd';⟨q,hq⟩;have r2:=rel.put k kc;rw[Ru y e] at r2;exact⟨y,_,Tw I (by rw[hH];exact rF) hs he (Ys (by rw[bR];exact hz) hd r2 dd'),kc,h2 e⟩
def BI:ω (Int×ω D)->Int->ω (Int×ω D)
 | [],k=>[(k,[])]
 | (k',ds)::r,k=>if k'=k then(k',ds)::r else(k',ds)::BI r k
def putL:ω (Int×ω D)->Int->D->ω (Int×ω D)
 | [],k,d=>[(k,[d])]
 | (k',ds)::r,k,d=>if k'=k then(k',ds++[d])::r else(k',ds)::putL r k d
section
variable{K:aI}{H₀ H H':Hp}{kvs:ω (Int×ω D)}{cg:ω (f6×V)}{as:ω Addr}{k:Int}
def Hj{v:V}(t:jd K H₀ H kvs cg as)(e:wE cg (iG k)=ψ v):BI kvs k=kvs:=by
 induction t with
 |nil=>cases e
 | @cons k' b vs ds kvs cg as h h0 r n t ih=>
  unfold BI;by_cases hk:k'=k
  ·rw[Ω hk]
  ·rw[υ hk,ih (by rw[sJ (λz=>hk (by cases z;rfl))] at e;exact e)]
theorem jd.there{v:V}(t:jd K H₀ H kvs cg as)(e:wE cg (iG k)=ψ v):∃b vs ds,v = .ref b/\b∈as/\H b=ψ (.lst vs)/\ak K H ds vs/\(∃p∈kvs,p.2=ds) /\
  ∀(H':Hp)(d:D)(w:V),ao H H'->H' b=ψ (.lst (vs++[w]))->(∀a o,a∈as->a≠b->H a=ψ o->H' a=ψ o)->dk K H' d w->jd K H₀ H' (putL kvs k d) cg as:=by
 induction t with
 |nil=>cases e
 | @cons k' b vs ds kvs cg as h h0 r n t ih=>
  by_cases hk:k'=k
  ·subst hk;rw[tW rfl] at e;cases e;refine⟨b,vs,ds,rfl,.head _,h,r,⟨_,.head _,rfl⟩,λH' d w kp hb ho rd=>?_⟩;unfold putL;rw[Ω rfl];exact .cons hb h0 ((r.keep kp).append (.cons rd .nil)) n (t.keep kp λa m o e=>ho a o (.tail _ m) (by rintro rfl;exact n m) e)
  ·rw[sJ (λz=>hk (by cases z;rfl))] at e;obtain⟨c,us,es,e1,m,g1,g2,⟨p,pm,pe⟩,g3⟩:=ih e;refine⟨c,us,es,e1,.tail _ m,g1,g2,⟨p,.tail _ pm,pe⟩,λH' d w kp hb ho rd=>?_⟩;unfold putL;rw[υ hk];exact .cons (ho b _ (.head _) (by rintro rfl;exact n m) h) h0 (r.keep kp) n (g3 H' d w kp hb (λa o q=>ho a o (.tail _ q)) rd)
theorem jd.fresh{p:Addr}(t:jd K H₀ H kvs cg as)(e:wE cg (iG k)=ξ)(kp:ao H H')(ho:∀a o,a∈as->H a=ψ o->H' a=ψ o)(hp:H' p=ψ (.lst []))(h0:H₀ p=ξ)(np:p∉as):
  jd K H₀ H' (BI kvs k) (cg++[(iG k,.ref p)]) (as++[p]):=by
 induction t with
 |nil=>exact .cons hp h0 .nil δ .nil
 | @cons k' b vs ds kvs cg as h h1 r n t ih=>
  have hk:¬k'=k:=λz=>by rw[tW (by rw[z])] at e;cases e
  rw[sJ (λz=>hk (by cases z;rfl))] at e;unfold BI;rw[υ hk];rw[aO,not_or] at np;exact .cons (ho b _ (.head _) h) h1 (r.keep kp) (λz=>(bQ.mp (show b∈as++[p] from z)).elim n λz=>np.1 (cJ.mp z).symm) (ih e (λa o q=>ho a o (.tail _ q)) np.2)
def Nf{p:V}(t:jd K H₀ H kvs cg as)(e:wE cg (iG k)=ξ):wE (cg++[(iG k,p)]) (iG k)=ψ p:=by
 induction t with
 |nil=>exact tW rfl
 | @cons k' b vs ds kvs cg as h h1 r n t ih=>
  have hk:¬(iG k':f6)=iG k:=λz=>by rw[tW z] at e;cases e
  rw[sJ hk] at e;rw[aW,sJ hk];exact ih e
theorem Rv:∀(kvs:ω (Int×ω D))(k:Int)(d:D),putL (BI kvs k) k d=putL kvs k d
 | [],k,d=>by simp[BI,putL]
 | (k',ds)::r,k,d=>by
  unfold BI;by_cases hk:k'=k
  ·rw[Ω hk]
  ·rw[υ hk];simp only[putL,υ hk];rw[Rv r k d]
theorem Dt:∀(kvs:ω (Int×ω D))(k:Int){p:Int×ω D},p∈BI kvs k->p∈kvs\/p.2=[]
 | [],k,p,h=>by rw[BI,cJ] at h;subst h;exact .inr rfl
 | (k',ds)::r,k,p,h=>by
  unfold BI at h;by_cases hk:k'=k
  ·rw[Ω hk] at h;exact .inl h
  ·rw[υ hk] at h;rcases aO.mp h with h |h
   ·exact .inl (h▸.head _)
   ·exact(Dt r k h).imp (.tail _) id
theorem jd.len(t:jd K H₀ H kvs cg as):kvs.length=cg.length:=by
 induction t with
 |nil=>rfl
 |cons _ _ _ _ _ ih=>simp[ih]
end
section
variable{X:Cx}{e k:Expr}{pos pos' p apos cpos fk j7 ku j6:Pos}{te tk:RE}{x:Str}
def Rw(i:Nat):RS:=λE a=>E.nx (a.set i (ψ (.dcl [])))
def Ua{i:Nat}(hN:X.N.Nodup)(hi:X.N[i]?=ψ x:=by rfl)(hx:Loc X.env.scope x:=by walk_at "vis")(hs:swapsWith (.Dict [] [] p) (ψ (.Name x pos')) pos.line X.env=pure χ:=by rfl)
  (hf:X.fn x=ζ\/X.env.scope.names.lookup x=ψ .local:=by walk_at "loc"):DS X (.Assign [.Name x pos'] (.Dict [] [] p) pos) (Rw i):=
 PS.mono (Gv hN hi hx Rh hs hf) λDe Z H hh=>rH hh λd E st q n r b c=>λa ha=>by
  have sm:ag H (ck H a (.dK [])):=ag.fn λb o h=>by rw[dX (fD h ha)];exact h
  refine n _ _ _ q (.of sm) (st.put sm ⟨a,[],[],rfl,gN,st.same.free ha,.nil⟩ λc o=>?_);obtain⟨p,cg,e1,e2,e3⟩:=o;cases e1;rw[gN] at e2;cases e2;rcases e3 with rfl | ⟨_,z⟩
  ·exact ha
  ·cases z
def Jt(i:Nat)(tk te:RE):RS:=λE a=>match a[i]? with
 |some (ψ (.dcl kvs))=>tk a λkd=>match kd with
  | .int k=>Sz (kvs.length+1)/\te (a.set i (ψ (.dcl (BI kvs k)))) λd=>(∀p∈kvs,Sz (p.2.length+1))/\E.nx (a.set i (ψ (.dcl (putL kvs k d))))
  |_=>False
 |_=>False
theorem Tz(i:Nat)(hk:DE X k tk)(he:DE X e te)(hN:X.N[i]?=ψ x:=by rfl)(hv:qq X.env.scope x:=by walk_at "vis")(hd:(x == ("__debug__":Str))=χ:=by decide)(j9:(x == ("__classdict__":Str))=χ:=by decide)
  (gq:attributeBase (.Name x fk) "setdefault" X.env (eval (.Name x fk) X.env)=eval (.Name x fk) X.env:=by rfl)
  (mr:((backTo ku (starEach [k,.List [] j6] X.env)).all (λx=>!x.1) && (backToKw ku (keywordEach [] X.env)).all (λx=>x.1.isSome) && decide (([k,.List [] j6]:ω Expr).length+([]:ω qW).length+(if([]:ω qW).isEmpty then 0 else 1)<30))=ζ:=by rfl)
  (gt:(j7.endLine == ku.line)=ζ:=by rfl) (hs1:starEach [k,.List [] j6] X.env=(χ,eval k X.env)::starEach [.List [] j6] X.env:=by rfl) (p8:starEach [.List [] j6] X.env=(χ,eval (.List [] j6) X.env)::starEach [] X.env:=by rfl)
  (kb:(backTo ku (starEach [.List [] j6] X.env)).any (·.1)=χ:=by rfl)
  (wz:attributeBase (.Call (.Attribute (.Name x fk) "setdefault" j7) [k,.List [] j6] [] ku) "append" X.env (eval (.Call (.Attribute (.Name x fk) "setdefault" j7) [k,.List [] j6] [] ku) X.env)=eval (.Call (.Attribute (.Name x fk) "setdefault" j7) [k,.List [] j6] [] ku) X.env:=by rfl)
  (zm:((backTo cpos (starEach [e] X.env)).all (λx=>!x.1) && (backToKw cpos (keywordEach [] X.env)).all (λx=>x.1.isSome) && decide (([e]:ω Expr).length+([]:ω qW).length+(if([]:ω qW).isEmpty then 0 else 1)<30))=ζ:=by rfl)
  (w_:(apos.endLine == cpos.line)=ζ:=by rfl) (hs:starEach [e] X.env=[(χ,eval e X.env)]:=by rfl) (hn:starEach [] X.env=[]:=by rfl)
  (se:swapsWith (.Call (.Attribute (.Call (.Attribute (.Name x fk) "setdefault" j7) [k,.List [] j6] [] ku) "append" apos) [e] [] cpos) ξ pos.line X.env=pure χ:=by rfl):
  DS X (.Expr (.Call (.Attribute (.Call (.Attribute (.Name x fk) "setdefault" j7) [k,.List [] j6] [] ku) "append" apos) [e] [] cpos) pos) (Jt i tk te):=by
 have Bo:=Cr (apos:=j7) (cpos:=ku) PySem.F.plainAttrs_dict uB PySem.F.type_dict_setdefault Lu (pv (pos:=fk) i hN hv hd j9) (wW hk (wW (Ri (pos:=j6) MN) MN p8) hs1) gq mr gt hs1 kb;refine PS.mono (PJ (Cr kQ xL xM WP Bo (sG he hs hn) wz zm w_ (by rw[hs,hn]) (by rw[hn];rfl)) se) λDe Z H hh=>rH hh λl E so q n r bk ct=>?_;unfold Jt at q;split at q
 ·rename_i kvs ex;obtain⟨v,h1,a,cg,as,ev,ha,h0,t⟩:=so.rel i _ ex;subst ev;refine⟨.ref a,h1,.inr (.inr (.inl ⟨rfl,.inl ⟨cg,ha⟩⟩)),l,_,so,q,λkd kv H1 hkd s1 rk=>?_⟩;cases kd with
  |int k=>
   obtain⟨z1,q1⟩:=hkd;have z1:kvs.length+1<=sizeLine:=z1.ok;rw[rk.int_inv];have so1:=so.ext s1;have vj:=s1.get _ _ ha trivial;have t1:jd X.K X.H₀ H1 kvs cg as:=t.same s1;refine⟨gH _,λp hp=>?_⟩;have uv:ag H1 (ck H1 p (.lst [])):=ag.fn λb o h=>(by rw[dX (fD h hp)];exact h);have kl:=t1.len;have go:∀(b:Addr)(H2:Hp)(oa:ω (f6×V)),bi X (l.set i (ψ (.dcl (BI kvs k)))) Z H2->H2 a=ψ (.dK oa)->wE oa (iG k)=ψ (.ref b)->ao H H2 ->
     tyV X.K "list" (.ref b) H2/\Qo X te Z H2 λw H3=>Js (.ref b) [w] H3 λ_ H4=>De.nx Z H4:=λb H2 oa jv ha2 hv2 kp2=>by
    have e2:(l.set i (ψ (.dcl (BI kvs k))))[i]?=ψ (ψ (.dcl (BI kvs k))):=gT (cB.mp ex).1;obtain⟨v2,g1,a',C_,as2,ev2,ha',g0,t2⟩:=jv.rel i _ e2;rw[h1] at g1;cases g1;cases ev2;rw[ha2] at ha';cases ha';obtain⟨b',us,ds',eb,_,hb,_,_,_⟩:=t2.there hv2;cases eb;refine⟨.inl ⟨rfl,us,iu.of hb⟩,_,_,jv,q1,λd w H3 ⟨z2,hd⟩ s3 rd=>?_⟩;have t3:jd X.K X.H₀ H3 (BI kvs k) oa as2:=t2.same s3;obtain⟨b',P_,ds3,eb,mb,hb3,rb3,⟨pp,pm,pe⟩,fin⟩:=t3.there hv2;cases eb;have ha3:=s3.get _ _ ha2 trivial;have ne:a≠b:=(by rintro rfl;rw[ha3] at hb3;cases hb3);have sz:P_.length<sizeLine:=by
     rw[<-rb3.length,<-pe];rcases Dt kvs k pm with h |h
     ·exact(z2 pp h).ok
     ·rw[h];exact cF (Nat.succ_pos _) z1
    refine⟨b,P_,w,rfl,rfl,hb3,sz,?_⟩;have kpU:ao H3 (ck H3 b (.lst (P_++[w]))):=ao.chg1 hb3 (.inl ⟨_,rfl⟩);have ow:∀c,Ow H3 (.dcl (BI kvs k)) (.ref a) c↔(c=a\/∃k,(k,V.ref c)∈oa):=λc=>⟨λ⟨p',kw',e1,e2,e3⟩=>by cases e1;rw[ha3] at e2;cases e2;exact e3,λh=>⟨a,oa,rfl,ha3,h⟩⟩;have haU:ck H3 b (.lst (P_++[w])) a=ψ (.dK oa):=(by rw[dX ne];exact ha3);obtain⟨so4,k4⟩:=(jv.ext s3).updW (x':=.dcl (putL kvs k d)) (v':=.ref a) e2 h1 (H':=ck H3 b (.lst (P_++[w])))
     (λc o h w'=>by rw[dX (by rintro rfl;exact w' ((ow _).mpr (.inr (t3.mem.mp mb))))];exact h)
     ⟨a,oa,as2,rfl,haU,h0,by
      rw[<-Rv];exact fin _ d w kpU gN (λc o _ nc h=>by rw[dX nc];exact h) (rd.keep kpU)⟩
     (λc o=>.inl ((ow c).mpr (by
      obtain⟨p',kw',e1,e2,e3⟩:=o;cases e1;rw[haU] at e2;cases e2;exact e3)))
    rw[nV h1,List.set_set] at so4;exact n _ _ _ hd ((kp2.trans (.of s3)).trans k4) so4
   refine⟨a,cg,iG k,.ref p,rfl,rfl,uv.get _ _ vj trivial,ν,λv hv=>?_,λhv=>?_⟩
   ·obtain⟨b,_,_,eb,_⟩:=t1.there hv;subst eb;refine go b _ cg ?_ (uv.get _ _ vj trivial) hv (.of (s1.trans uv));rw[Hj t1 hv,nV ex];exact so1.ext uv
   ·have pa:p≠a:=(by rintro rfl;rw[hp] at vj;cases vj);have np:p∉as:=λm=>(by obtain⟨_,us,q'⟩:=t1.at m;rw[hp] at q';cases q');have ow:∀c,Ow H1 (.dcl kvs) (.ref a) c↔(c=a\/∃k,(k,V.ref c)∈cg):=λc=>⟨λ⟨p',kw',e1,e2,e3⟩=>by cases e1;rw[vj] at e2;cases e2;exact e3,λh=>⟨a,cg,rfl,vj,h⟩⟩;have st1:∀c o,c≠a->H1 c=ψ o->ck (ck H1 p (.lst [])) a (.dK (cg++[(iG k,.ref p)])) c=ψ o:=λc o nc h=>(by rw[dX nc,dX (fD h hp)];exact h);have kpU:ao H1 (ck (ck H1 p (.lst [])) a (.dK (cg++[(iG k,.ref p)]))):=(ao.of uv).trans (ao.chg1 (uv.get _ _ vj trivial) (.inr (.inl ⟨_,rfl⟩)));obtain⟨jv,k2⟩:=so1.updW (x':=.dcl (BI kvs k)) (v':=.ref a) ex h1 (H':=ck (ck H1 p (.lst [])) a (.dK (cg++[(iG k,.ref p)])))
     (λc o h w'=>st1 c o (by rintro rfl;exact w' ((ow _).mpr (.inl rfl))) h)
     ⟨a,_,_,rfl,gN,h0,t1.fresh hv kpU (λc o m h=>st1 c o (by rintro rfl;obtain⟨_,us,q'⟩:=t1.at m;rw[vj] at q';cases q') h) (by rw[dX pa];exact gN) (so1.same.free hp) np⟩
     (λc o=>by
      obtain⟨p',kw',e1,e2,e3⟩:=o;cases e1;rw[gN] at e2;cases e2;rcases e3 with rfl | ⟨k',m⟩
      ·exact .inl ((ow _).mpr (.inl rfl))
      ·rcases bQ.mp m with m |m
       ·exact .inl ((ow _).mpr (.inr ⟨k',m⟩))
       ·rw[cJ] at m;cases m;exact .inr hp)
    rw[nV h1] at jv;exact go p _ _ jv gN (Nf t1 hv) ((ao.of s1).trans k2)
  |_=>exact hkd.elim
 ·exact q.elim
def JF:ω Int->ω D->Int->Option D
 |k'::ks,d::ds,k=>if k'=k then ψ d else JF ks ds k
 |_,_,_=>ξ
def Tu:R22:=λx y Q=>match x,y with
 | .dct ks ds,.int k=>∃d,JF ks ds k=ψ d/\Q d
 |_,_=>False
theorem Oz{K:aI}{H:Hp}{k:Int}:∀{ks:ω Int}{ds:ω D}{vs:ω V}{d:D},ak K H ds vs->JF ks ds k=ψ d->∃v,wE (CU ks vs) (iG k)=ψ v/\dk K H d v
 | [],_,_,_,_,e=>by simp[JF] at e
 |k'::ks,_,_,_,.nil,e=>by simp[JF] at e
 |k'::ks,_,_,d,.cons (v:=v) (vs:=vs) h t,e=>by
  unfold JF at e;by_cases hk:k'=k
  ·rw[Ω hk] at e;cases e;exact⟨v,tW (by rw[hk]),h⟩
  ·rw[υ hk] at e;obtain⟨u,g1,g2⟩:=Oz t e;exact⟨u,by show wE ((iG k',v)::CU ks vs) _=_;rw[sJ (λz=>hk (by cases z;rfl))];exact g1,g2⟩
theorem Yq{kk:Nat}(hr:dc kk X.A)(ha:DE X a ta)(hb:DE X b tb)(hs:Yg b:=by intro _ _;rfl):DE X (.Subscript a b pos) (r2 Tu ta tb):=by
 refine PE.mono (Vh (by have:=hr.un;lia) ha hb hs) λZ H Q h=>?_;obtain⟨c,P,st,ht,hP⟩:=h;refine⟨c,_,st,ht,λx v H1 h1 s1 r1=>⟨c,_,st.ext s1,h1,λy u H2 h2 s2 r2=>?_⟩⟩;unfold Tu at h2;split at h2
 ·rename_i ks ds k;obtain⟨d,e,h2⟩:=h2;rw[r2.int_inv];have r1':=dk.keep (.of s2) r1;cases r1' with
  | @dct a vs _ _ o hh hl rr=>
   obtain⟨w,g1,g2⟩:=Oz rr e;exact⟨a,w,rfl,.inl ⟨_,iG k,.inr ⟨o,hh⟩,rfl,g1.symm⟩,hP d w H2 h2 (s1.trans s2) g2⟩
 ·exact h2.elim
end
end
section
open PySem PySem.Spec PyProof.Rows L2 PySem.W
def EX(h:IntsAre us ns):au (ns.map V.int) us:=by
 induction h with
 |nil=>exact .nil
 |cons _ t h ih=>exact .cons ⟨_,rfl⟩ ih
def Ll(ks:ω Int)(vs:ω V):(CU ks vs).length=min ks.length vs.length:=List.length_zipWith
theorem XI:∀(ks:ω Int)(vs:ω V)(ws:ω (f6×aF)),ks.length=vs.length->KV (CU ks vs) ws->∀us:ω aF,us.length=ks.length ->
  (∀(j:Nat)(v:aF),us[j]?=ψ v->∃k x,ws[j]?=ψ (k,x)/\(oG P w).is k v=ζ)->au (ks.map V.int) us
 | [],_,_,_,_,us,h,_=>by rw[nO.mp h];exact .nil
 |k::ks,[],_,h,_,_,_,_=>by cases h
 |k::ks,v::vs,ws,hl,r,us,h,q=>by
  cases us with
  |nil=>cases h
  |cons u us=>
   cases r with
   | @cons _ b _ bs h1 t=>
    refine .cons ?_ (XI ks vs bs (by simpa using hl) t us (by simpa using h) λj v e=>q (j+1) v (by simpa using e));obtain⟨k',x,e,i⟩:=q 0 u rfl;cases e;rw[<-show(iG k:f6)=k' from h1.1] at i;rcases lJ (show SC (iG k) u=ζ from i) with⟨i',t',e1,e2⟩ | ⟨y,t',e1,e2⟩
    ·cases e1;exact⟨t',e2⟩
    ·cases e1
def Hm(te:RE):RA:=λa Q=>te a λx=>∃ns:ω Int,x = .lst (ns.map .int)/\ns.length<64/\∀ms:ω Int,ms.Perm ns->ms.Pairwise (·<=·)->Q (ms.map .int)
def U8(te:RE):RA:=λa Q=>te a λx=>∃nss:ω (ω Int),x = .lst (nss.map pB)/\nss.length<64/\(∀ns∈nss,ns≠[])/\∀mss:ω (ω Int),mss.Perm nss->mss.Pairwise (λx y=>pS y x=χ)->Q (mss.map pB)
def Hl(te:RE):RA:=λa Q=>te a λx=>∃(ks:ω Int)(ds:ω D),x = .dct ks ds/\ks.length=ds.length/\Q (ks.map .int)
section
variable{X:Cx}{e:Expr}{te:RE}{p pos:Pos}
theorem Ph(hms:X.mg "sorted" = ξ)(h:DB X e te)(hgs:Gl X "sorted":=by rfl)(hs:starEach [e] X.env=[(χ,eval e X.env)]:=by rfl)(hn:starEach [] X.env=[]:=by rfl):
  DO X (.Call (.Name "sorted" p) [e] [] pos) (Hm te):=by
 intro Γ s Z H Q I bj;obtain⟨d,P,st,q,kq⟩:=bj;refine gL (tD I hgs hms boot_sorted ?_);refine nT (dh (sG h hs hn pos Γ s Z H (λvs H1=>∃(ns:ω Int)(v:V),vs=[v]/\ag H H1/\dm X.K H1 (.lst (ns.map .int)) v/\ns.length<64/\∀ms:ω Int,ms.Perm ns->ms.Pairwise (·<=·)->P (ms.map .int)) I
  ⟨d,_,st,q,λx v H1 hx s1 r1=>?_⟩) λus s1 ⟨vs,H1,I1,r1,q1⟩=>?_) (by rw[hs,hn]) (by rw[hn];rfl)
 ·obtain⟨ns,rfl,a1,a2⟩:=hx;exact⟨ns,v,rfl,s1,r1,a1,a2⟩
 obtain⟨ns,v,rfl,o0,rb,za,hP⟩:=q1;obtain⟨l,vs,rfl,hq,rr⟩:=rb.lst;obtain⟨u,rfl,rx⟩:=vals1 r1;cases rx;obtain⟨its,rv,pl,hz⟩:=I1.list hq;have l2:=rv.length;rw[rr.ints_inv] at rv l2;rw[aY] at l2;refine sorted_ints pl.isList (intsAre_of rv) ν λout ms a1 a2 a3=>?_;obtain⟨c,he⟩:=sortedAll_at s1.heap its out;have VV:=EX a1;have lw:ms.length=ns.length:=a2.length_eq;have I4:=I1.laid (a:=s1.z+1) (o:=.lst (ms.map V.int)) (h':=sortedAll s1.heap its out) (t':=s1.toks) (λb o=>sortedAll_old) (CD _) ⟨by rw[aY,lK];lia,out.toList,c,VV,by simpa using he⟩;exact⟨.ref (s1.z+1),_,I4,rfl,kq _ _ _ H1 (hP ms a2 a3) o0 (I1.hok.fresh (CD _)) ak.ints⟩
def Pf(zv:X.mg "list" = ξ)(hc:X.calm=ζ)(h:DE X e te)(zn:Gl X "list":=by rfl)(hs:starEach [e] X.env=[(χ,eval e X.env)]:=by rfl)(hn:starEach [] X.env=[]:=by rfl):
  DO X (.Call (.Name "list" p) [e] [] pos) (Hl te):=by
 intro Γ s Z H Q I bj;obtain⟨b,P,st,q,kq⟩:=bj;refine gL (tD I zn zv boot_list ?_);refine fO (dh (sG h hs hn pos Γ s Z H (λvs H1=>∃(ks:ω Int)(ds:ω D)(v:V),vs=[v]/\ag H H1/\dk X.K H1 (.dct ks ds) v/\P (ks.map .int)) I
  ⟨b,_,st,q,λx v H1 hx s1 r1=>?_⟩) λus s1 ⟨vs,H1,I1,r1,q1⟩=>?_) (by rw[hs,hn]) (by rw[hn];rfl)
 ·obtain⟨ks,ds,rfl,a1,a2⟩:=hx;exact⟨ks,ds,v,rfl,s1,r1,a2⟩
 obtain⟨ks,ds,v,rfl,o0,rd,hP⟩:=q1;obtain⟨u,rfl,rx⟩:=vals1 r1;cases rd with
 | @dct a vs _ _ o ha hl rr=>
  cases rx;obtain⟨z,hd,ws,rel,dd⟩:=Ja I1.hok (.inr ⟨o,ha⟩);have le:=rel.length;obtain⟨ep,da⟩:=dd.dictAt;refine kdl_call (kdl_dict (knd:=oG X.prog X.w) (kvs:=ws) (ep:=ep) hd) (I1.ok.hd hc) da (by rw[<-le];exact z) λh' tk acc c kp g1 it=>?_;have lk:ks.length=ws.length:=by rw[<-le,Ll,<-hl,IR]
  have VV:au (ks.map V.int) acc.toList:=XI ks vs ws hl rel acc.toList (by rw[dD,it.1];exact lk.symm) λj v e=>it.2 j v (by simpa using e);have I4:=I1.laid (a:=s1.z) (o:=.lst (ks.map V.int)) (h':=h') (t':=tk) kp (bU _) ⟨by rw[aY,lk,<-le];exact z,acc.toList,c,VV,by simpa using g1⟩;exact⟨.ref s1.z,_,I4,rfl,kq _ _ _ H1 hP o0 (I1.hok.fresh (bU _)) ak.ints⟩
end
end
section
open PySem PySem.Spec PyProof.Rows L2
def OI(l:Addr)(items:Array aF)(n:Nat)(b:Addr)(du:Array aF)(n2:Nat)(sl:Array (Option aF))(mn:¬(!items.isEmpty && mY (items.size+du.size))=ζ)(hc1:items.size<=sizeLine)(p8:items.size+du.size<=sizeLine+1):
  Meets (Builtin.«list.extend» ⟨[.ref l,.ref b],[]⟩) (λ_ R s=>s.heap.get? l=ψ {cls:=.type "list",dict:=ξ,data:=.seq items n,slots:=#[]}/\s.heap.get? b=ψ {cls:=.type "list",dict:=ξ,data:=.seq du n2,slots:=sl}/\R (.ok (.ret gK)) {s with heap:=s.heap.update l (eG λx=>x++du),toks:=s.toks}):=
 .of_wp λprog w A R s h=>by
  obtain⟨hp,g,d,tk,os⟩:=s;obtain⟨hl,hb,h⟩:=h;have xj:(items++du).size<=sizeLine+1:=by rw[Array.size_append];exact p8
  wp_walk using(iQ hl rfl (hz:=hc1) (_hz':=xj)),uI hl,uI hb;exact⟨_,rfl,h⟩
def Rx(K:aI):V->ω V->Hp->VK->Prop:=λx vs H Q=>∃l b xs zs,x = .ref l/\vs=[.ref b]/\H l=ψ (.lst xs)/\iu K H b zs/\xs.length+zs.length<=sizeLine/\Q .non (ck H l (.lst (xs++zs)))
section
variable{X:Cx}{e:Expr}{pos apos cpos fk p2 p3 p4:Pos}{te:RE}{x:Str}
theorem Gi:MtM X "list.extend" (Rx X.K):=by
 intro Γ s Z H x vs v us Q I rx rv h;obtain⟨l,b,xs,zs,rfl,rfl,hH,hB,hz,q⟩:=h;cases rx;obtain⟨u,rfl,ru⟩:=rv.one;cases ru;obtain⟨z,its,n,r,hl,e⟩:=I.lstM hH;obtain⟨f7,r2,pl,z2⟩:=I.list hB;have hl2:=r2.length;obtain⟨o,n2,e2,c1,c2,c3⟩:=pl;obtain⟨oc,od,oda,t6⟩:=o;dsimp only at c1 c2 c3;subst c1 c2 c3;have m9:its.toArray.size+f7.toArray.size<=sizeLine:=by rw[bI,bI];lia
 have zt:¬(!its.toArray.isEmpty && mY (its.toArray.size+f7.toArray.size))=ζ:=by
  rw[Qu m9,BM];exact cQ
 refine zP F.slot_list_extend ⟨_,e,rfl⟩ F.entry_list_extend (F.args_list_extend_2 _ _)
  (OI l its.toArray n b f7.toArray n2 t6 zt (by rw[bI];lia) ν) ⟨e,e2,?_⟩
 refine⟨.non,_,I.lset (its':=its++f7) hH e δ (r.append r2) ?_,rfl,q⟩;rw[bR];lia
def DQ(i:Nat)(te:RE):RS:=λE a=>match a[i]? with
 |some (ψ (.own xs))=>te a λd=>match d with
  | .lst ys=>Sz (xs.length+ys.length)/\E.nx (a.set i (ψ (.own (xs++ys))))
  |_=>False
 |_=>False
theorem LU(i:Nat)(he:DE X e te)(hN:X.N[i]?=ψ x:=by rfl)(hv:qq X.env.scope x:=by walk_at "vis")(hd:(x == ("__debug__":Str))=χ:=by decide)(j9:(x == ("__classdict__":Str))=χ:=by decide)
  (gq:attributeBase (.Name x fk) "extend" X.env (eval (.Name x fk) X.env)=eval (.Name x fk) X.env:=by rfl)
  (mr:((backTo cpos (starEach [e] X.env)).all (λx=>!x.1) && (backToKw cpos (keywordEach [] X.env)).all (λx=>x.1.isSome) && decide (([e]:ω Expr).length+([]:ω qW).length+(if([]:ω qW).isEmpty then 0 else 1)<30))=ζ:=by rfl)
  (gt:(apos.endLine == cpos.line)=ζ:=by rfl) (hs:starEach [e] X.env=[(χ,eval e X.env)]:=by rfl) (hn:starEach [] X.env=[]:=by rfl) (se:swapsWith (.Call (.Attribute (.Name x fk) "extend" apos) [e] [] cpos) ξ pos.line X.env=pure χ:=by rfl):
  DS X (.Expr (.Call (.Attribute (.Name x fk) "extend" apos) [e] [] cpos) pos) (DQ i te):=by
 refine PS.mono (PJ (Cr kQ PySem.F.slot_list_extend PySem.F.type_list_extend Gi (pv i hN hv hd j9) (sG he hs hn) gq mr gt (by rw[hs,hn]) (by rw[hn];rfl)) se) λDe Z H hh=>rH hh λa E so q n r bk ct=>?_;unfold DQ at q;split at q
 ·rename_i xs ex;obtain⟨v,h1,p,vs,ev,hp,h0,rr⟩:=so.rel i _ ex;subst ev;refine⟨.ref p,h1,.inl ⟨rfl,vs,iu.of hp⟩,a,_,so,q,λd v H1 hd s1 rd=>?_⟩;have m5:=s1.get _ _ hp trivial;cases d with
  |lst ys=>
   cases rd with
   | @lst b us _ hz rd=>
    obtain⟨jv,k2⟩:=(so.ext s1).upd_own ex h1 m5 h0 ((rr.keep (.of s1)).append rd);have m9:xs.length+ys.length<=sizeLine:=hd.1.ok;exact⟨p,b,vs,us,rfl,rfl,m5,hz.sq,by rw[<-rr.length,<-rd.length];exact m9,n _ _ _ hd.2 ((ao.of s1).trans k2) jv⟩
  |_=>exact hd.elim
 ·exact q.elim
def alt{α:Type}:ω α->ω α
 | []=>[]
 | [x]=>[x]
 |x::_::r=>x::alt r
def rAlt(k:Nat)(te:RE):RA:=λa Q=>te a λx=>match x with
 | .lst ds=>Q (alt (ds.drop k))
 |_=>False
end
def riFar(t:RA):RA:=λa Q=>t a λds=>match ds with
 | [.int i,.int j]=>Q (uG i (j-i).toNat)
 |_=>False
def H8:R22:=λx y Q=>match x,y with
 | .bl a,.bl b=>Q (.int ((if a then 1 else 0)-(if b then 1 else 0)))
 |_,_=>False
end
end L2.R2
namespace HT
open PySem PyProof.Rows
section
open PySem.SeqAt
open PySem.AutoSeq1 (wpAny_loadPart')
open PySem.MeetsSeq PySem.MeetsSeq2 PySem.MeetsSeq3
end
end HT
namespace L2.R2
section
open PySem PySem.Spec PyProof.Rows L2
def R7:ω D->(D->Prop)->Prop:=λds Q=>∃ns ms,ds=[pB ns,pB ms]/\Q (pB (if HT.lexLt ms ns=ζ then ms else ns))
def R6:ω D->(D->Prop)->Prop:=λds Q=>∃ns ms,ds=[pB ns,pB ms]/\Q (pB (if HT.lexLt ns ms=ζ then ms else ns))
def S9(i:Nat)(a:En):En:=match a[i]? with
 |some (ψ (.own ds))=>a.set i (ψ (.d (.lst ds)))
 |_=>a
def Jv(t u:RS):RS:=λE a=>t {nx:=u E,rt:=λ_=>False} a
def rRetO(i:Nat):RS:=λE a=>match a[i]? with
 |some (ψ (.own xs))=>E.rt (.lst xs)
 |_=>False
def T4(F:FD)(t:RA):RA:=λa Q=>t a λds=>F ds λd=>match d with
 | .lst xs=>Q xs
 |_=>False
section
variable{t:RA}
structure RvOk(j:Int):Prop where
 lo:0<=j
 hi:j<2 ^ 62
def V2(t:RA):RA:=λa Q=>t a λds=>match ds with
 | [.int j]=>RvOk j/\Q (uG 0 j.toNat).reverse
 |_=>False
end
def dNeL:R22:=λx y Q=>match x,y with
 | .lst xs,.lst ys=>xs.length=ys.length/\match js (fo 5) xs ys with
  |some b=>Q (.bl !b)
  |none=>False
 |_,_=>False
section
variable{e k:Expr}{te tk:RE}
def rBNew(i:Nat):RS:=λE a=>E.nx (a.set i (ψ (.box χ [[],[]])))
def rBApp(i:Nat)(tk te:RE):RS:=λE a=>match a[i]? with
 |some (ψ (.box χ jl))=>tk a λkd=>match kd with
  | .int k=>∃(j:Nat)(ds:List D),(k=(j:Int)/\jl[j]?=ψ ds/\Sz (ds.length+1))/\te a λd=>E.nx (a.set i (ψ (.box χ (jl.set j (ds++[d])))))
  |_=>False
 |_=>False
end
def rRetB(i:Nat)(ta tb:RA):RS:=λE a=>match a[i]? with
 |some (ψ (.own xs))=>ta a λys=>tb a λzs=>E.rt (.tup [.lst xs,.lst ys,.lst zs])
 |_=>False
def rSetB(j:Nat)(F:FD)(t:RA):RS:=λE a=>t a λds=>F ds λd=>∃jl:ω (ω D),d = .tup (jl.map .lst)/\E.nx (a.set j (ψ (.box ζ jl)))
def lendB(i:Nat)(a:En):En:=match a[i]? with
 |some (ψ (.box ζ jl))=>a.set i (ψ (.d (.tup (jl.map .lst))))
 |_=>a
def rBFor(i j:Nat):RS:=λE a=>match a[i]? with
 |some (ψ (.box ζ jl))=>(j<a.length/\∀ds∈jl,Sz (ds.length+1))/\E.nx ((a.set j ξ).set i (ψ (.box ζ (jl.map (· ++ [.non])))))
 |_=>False
def rGet2(ta tk tf:RE):RE:=λa Q=>ta a λx=>match x with
 | .dct ks ds=>tk a λy=>match y with
  | .int k=>tf a λz=>Q ((JF ks ds k).getD z)
  |_=>False
 |_=>False
def dInI:R22:=λx y Q=>match x,y with
 | .int i,.lst ds=>∃ns:List Int,ds=ns.map .int/\Q (.bl (decide (i∈ns)))
 |_,_=>False
def rgLst(n:Nat)(g:ue):RG:=λd a Q=>match d with
 | .lst ds=>ds.length=n/\g ds a Q
 |_=>False
def Ku:R22:=λx y Q=>match fo 9 x y with
 |some b=>Q (.bl b)
 |none=>False
def Qx(hr:dc k X.A):j3 X (compareOp .Eq) Ku:=by
 intro Γ s Z H x y v u Q I rx ry bj;obtain⟨d,e,P,r1,r2,q,kk⟩:=bj;unfold Ku at q;split at q
 ·rename_i b hb;have hu:=hr.units;have:vU X.A s v u b:=by
   by_cases hl:∃xs ys,d = .lst xs/\e = .lst ys
   ·obtain⟨xs,ys,rfl,rfl⟩:=hl;obtain⟨a,vs,rfl,h1,q1⟩:=r1.lst;obtain⟨c,ws,rfl,h2,q2⟩:=r2.lst;cases rx;cases ry;exact(RJ I (A:=X.A) (n:=8) hb h1 q1 h2 q2 ν λ{d e v u x y b} hk f2 f4 g4 g6=>(zX I 8 hk f2 f4 g4 g6 (by show X.A.units+1+8<cLine;lia)).2).1
   ·have p1:dk X.K H d x:=by
     rcases r1 with r | ⟨ds,a,vs,e1,_⟩
     ·exact r
     ·subst e1;cases e <;> first | (cases hb;done) |exact Ψ ⟨_,_,rfl,rfl⟩ hl
    have p2:dk X.K H e y:=by
     rcases r2 with r | ⟨ds,a,vs,e1,_⟩
     ·exact r
     ·subst e1;cases d <;> first | (cases hb;done) |exact Ψ ⟨_,_,rfl,rfl⟩ hl
    exact(zX I (A:=X.A) 9 hb p1 p2 rx ry ν).1
  exact this _ _ _ _ ⟨.bl b,H,I,rfl,kk _ _ H q (ag.refl H) (.bl b)⟩
 ·exact q.elim
open PySem.W in
section
variable{s:aH}
open PySem.W Builtin Builtin.ObjectAttr Builtin.Getset_descriptor
end
open PySem.W in
section
open PySem.W in
end
section
variable{s:aH}
open PySem.W Builtin Builtin.ObjectAttr
end
open PySem.W in
open PySem.W in
open PySem.W in
def U4(PP:Int->Prop)(te:RE):RS:=λ_ a=>te a λd=>match d with
 | .int c=>PP c
 |_=>False
abbrev FDX:=ω D->(D->Prop)->(Int->Prop)->Prop
def T5(F:FDX)(PP:Int->Prop)(t:RA):RE:=λa Q=>t a λds=>F ds Q PP
abbrev FDE:=ω D->(Int->Prop)->Prop
def rSetE(j:Nat)(F:FDE)(C:Addr)(y:Str)(t:RA):RS:=λE a=>t a λds=>∃PP,F ds PP/\∀c,PP c->E.nx (a.set j (ψ (.exc C y c)))
def rIsiE(i:Nat)(C:Addr)(b:Bool):RE:=λa Q=>match a[i]? with
 |some (ψ (.exc C' _ _))=>C'=C/\Q (.bl b)
 |_=>False
def rColE(i:Nat)(C:Addr)(y:Str):RE:=λa Q=>match a[i]? with
 |some (ψ (.exc C' y' c))=>(C'=C/\y'=y)/\Q (.int c)
 |_=>False
def rColN(te:RE):RE:=λa Q=>te a λd=>match d with
 | .int c=>Q (.int c)
 |_=>False
end
section
open PySem PySem.W PyProof.Rows
section
variable{s:aH}
def om(a:Array Keyed)(i:Nat):Keyed:=a.getD i (gK,gK)
end
end
section
open PySem PySem.W PySem.SetTable PyProof.Rows
end
section
open PySem PySem.Spec PyProof.Rows L2
def F9(te:RE):RA:=λa Q=>te a λx=>∃nss:ω (ω Int),x = .lst (nss.map pB)/\nss.length<76/\(∀ns∈nss,ns≠[])/\∀mss:ω (ω Int),mss.Pairwise (λx y=>pS y x=χ)->(∀ns,ns∈mss↔ns∈nss)->mss.length<=nss.length->Q (mss.map pB)
def Q5(te:RE):RE:=λa Q=>te a λx=>∃nss:ω (ω Int),x = .lst (nss.map pB)/\nss.length<=75/\∀mss:ω (ω Int),mss.Nodup->(∀ns,ns∈mss↔ns∈nss)->Q (.int mss.length)
def Q4:R22:=λx y Q=>match y with
 | .lst ds=>∃(ks:List Int)(nss:List (List Int)),x=pB ks/\ds=nss.map pB/\Q (.bl (!decide (ks∈nss)))
 |_=>False
end
section
open PySem PySem.Spec PyProof.Rows L2 PySem.W
def G4(ks:ω (ω Int))(k:ω Int):ω (ω Int):=if k∈ks then ks else ks++[k]
def M9{α:Type}(ks:ω (ω Int))(xs:ω α)(k:ω Int)(x:α):ω α:=if k∈ks then lF (λk' y=>if k'=k then x else y) ks xs else xs++[x]
def Be:ω (ω Int)->ω D->ω Int->Option D
 |k'::ks,d::ds,k=>if k'=k then ψ d else Be ks ds k
 |_,_,_=>ξ
section
variable{te tk tf:RE}
def rTNew(i:Nat):RS:=λE a=>E.nx (a.set i (ψ (.dt [] [])))
def rTPut(i:Nat)(tk te:RE):RS:=λE a=>match a[i]? with
 |some (ψ (.dt ks xs))=>te a λd=>tk a λkd=>∃kk:List Int,kd = .tup (kk.map .int)/\Sz (ks.length+1)/\E.nx (a.set i (ψ (.dt (G4 ks kk) (M9 ks xs kk d))))
 |_=>False
def rTGet(i:Nat)(tk tf:RE):RE:=λa Q=>match a[i]? with
 |some (ψ (.dt ks xs))=>tk a λkd=>tf a λz=>∃kk:List Int,kd = .tup (kk.map .int)/\Q ((Be ks xs kk).getD z)
 |_=>False
def U9(i:Nat):RA:=λa Q=>match a[i]? with
 |some (ψ (.dt ks xs))=>Q (ks.map pB)
 |_=>False
end
section
variable{te ta tk tf:RE}
def T9(te:RE):RA:=λa Q=>te a λx=>∃(ks:ω (ω Int))(ds:ω D),x = .dtt ks ds/\Q (ks.map pB)
def dKeyU:R22:=λx y Q=>match x with
 | .dtt ks ds=>∃(kk:List Int)(d:D),y = .tup (kk.map .int)/\Be ks ds kk=ψ d/\Q d
 |_=>False
def rGetU(ta tk tf:RE):RE:=λa Q=>ta a λx=>match x with
 | .dtt ks ds=>tk a λy=>tf a λz=>∃kk:List Int,y = .tup (kk.map .int)/\Q ((Be ks ds kk).getD z)
 |_=>False
end
def V1(te:RE):RA:=λa Q=>te a λd=>match d with
 | .dtt ks _=>Q (ks.map pB)
 |_=>False
def Q8(te:RE):RA:=λa Q=>te a λd=>match d with
 | .dtt ks ds=>Q (lF (λk x=>D.tup [pB k,x]) ks ds)
 |_=>False
end
section
open PySem PySem.Spec PyProof.Rows L2
section
variable{te ta:RE}
def rInsD(i:Nat)(ta te:RE):RS:=λE a=>match a[i]? with
 |some (ψ (.own xs))=>ta a λk=>te a λd=>∃j:Nat,k = .int (j:Int)/\j<=xs.length/\Sz (xs.length+1)/\E.nx (a.set i (ψ (.own (xs.take j++d::xs.drop j))))
 |_=>False
def T8(i:Nat)(te:RE):RE:=λa Q=>te (S9 i a) λd=>∃n:Int,d = .int n/\Q d
end
end
section
open PySem PySem.W PySem.Spec PySem.SetTable PyProof.Rows L2
section
open PySem.SeqAt
open PySem.AutoSeq1 (wpAny_loadPart')
open PySem.MeetsSeq PySem.MeetsSeq2 PySem.MeetsSeq3
end
def Xi:ω (Int×Int)->ω Int
 | []=>[]
 |z::r=>z.1::z.2::Xi r
def K5(p:Int×ω (Int×Int)):ω Int:=p.1::Xi p.2
abbrev pnt(z:Int×Int):D:=.tup [.int z.1,.int z.2]
abbrev pcD(p:Int×ω (Int×Int)):D:=.tup [.int p.1,.tup (p.2.map pnt)]
def U7(te:RE):RA:=λa Q=>te a λx=>∃ps:ω (Int×ω (Int×Int)),x = .lst (ps.map pcD)/\ps.length<64/\∀qs:ω (Int×ω (Int×Int)),qs.Perm ps->qs.Pairwise (λx y=>pS (K5 y) (K5 x)=χ)->Q (qs.map pcD)
end
section
open PySem PySem.Spec PyProof.Rows L2
def rTryE(je:Nat)(C:Addr)(y:Str)(F:FDX)(t:RA)(rb:RS):RS:=λE a=>t a λds=>∃PP,F ds (λ_=>False) PP/\∀c,PP c->rb {nx:=λa'=>E.nx (a'.set je ξ),rt:=λ_=>False} (a.set je (ψ (.exc C y c)))
abbrev Xy(i j:Nat)(ds:ω D)(a:En):En:=(a.set i ξ).set j (ψ (.own ds))
def rBPop(i jw:Nat)(tk:RE)(tt:RT)(tj:RE):RS:=λE a=>match a[i]? with
 |some (ψ (.box χ jl))=>tk a λkd=>match kd with
  | .int k=>∃(j:Nat)(ds:List D),(k=(j:Int)/\jl[j]?=ψ ds/\jw<a.length)/\tt (Xy i jw ds a) λb=>if b=ζ then tj (Xy i jw ds a) λd=>∃m:Nat,(d = .int (m:Int)/\m<ds.length/\Sz ds.length)/\E.nx ((a.set i (ψ (.box χ (jl.set j (ds.eraseIdx m))))).set jw ξ) else E.nx (a.set jw ξ)
  |_=>False
 |_=>False
def dNeZ:R22:=λx y Q=>match x,y with
 | .lst xs,.lst []=>Q (.bl !xs.isEmpty)
 |_,_=>False
abbrev FM:=ω (ω Int)->ω D->ω D->(ω Int->D->Prop)->Prop
def rMut(i:Nat)(F:FM)(t:RA):RS:=λE a=>match a[i]? with
 |some (ψ (.dt ks xs))=>t a λds=>Sz (ks.length+1)/\F ks xs ds λkk d=>E.nx (a.set i (ψ (.dt (G4 ks kk) (M9 ks xs kk d))))
 |_=>False
section
variable{te tk tf:RE}{a:Addr}{ks:ω (ω Int)}{xs:ω D}
def rRGet(i:Nat)(a:Addr)(ks:ω (ω Int))(xs:ω D)(tk tf:RE):RE:=λb Q=>b[i]?=ψ (ψ (.raw (.ref a)))/\tk b λkd=>tf b λz=>∃kk:ω Int,kd = .tup (kk.map .int)/\Q ((Be ks xs kk).getD z)
end
abbrev RM:=(ω Int->D->Prop)->En->Prop
def rSeqM(t:RS)(u:RM):RM:=λP a=>t {nx:=u P,rt:=λ_=>False} a
def rPutM(i:Nat)(a:Addr)(tk te:RE):RM:=λP b=>b[i]?=ψ (ψ (.raw (.ref a)))/\te b λd=>tk b λkd=>∃kk:ω Int,kd = .tup (kk.map .int)/\P kk d
def rRetF(t:RA):RS:=λE a=>t a λxs=>E.rt (.lst xs)
end
section
open PySem PySem.Spec PySem.W PyProof.Rows L2
end
section
open PySem PySem.Spec PyProof.Rows L2
abbrev pr2(p:Int×Int):D:=.tup [.int p.1,.int p.2]
def Q7(j:Nat)(te:RE):RA:=λa Q=>te a λx=>∃(B:Int)(fs:ω (Int×Int)),a[j]?=ψ (ψ (.d (.int B)))/\x = .lst (fs.map pr2)/\fs.length<64/\(∀f∈fs,qw B f.2/\MulOk f.1 (B.fdiv f.2)) /\
 ∀gs:ω (Int×Int),gs.Perm fs->gs.Pairwise (λp q=>p.1*B.fdiv p.2<=q.1*B.fdiv q.2)->Q (gs.map pr2)
section
variable{P:cC}{w:cZ}{K:aI}{mg:Str->Option aF}{base:Heap}{x:Str}{st:Stmt}{N ps:ω Str}{k:Nat}{F:FD}{t:RS}
theorem aj.mkD(Z:aj K mg x st ps)(pure:∀ds Q,F ds Q->t {nx:=λ_=>Q .non,rt:=Q} (dW N ds))
  (ik:∀{f:Addr}{gn:aF}{A:dJ}{outer:ω Env}{s:aH}{H:Hp}{E:XK},N.Nodup->dc k (A.deeper (envOfC x (jC st) s.z f gn)) ->
   qe (QW m_ P w K mg base N x (jC st) f gn A outer s H E).nox (tM st) t)
  (Sc:gV N ps (jC st):=by exact⟨rfl,rfl,rfl,ι,rfl,ι,ι⟩) (len:∀ds Q,F ds Q->ds.length=ps.length:=by walk_at "len"):FnAt P w K mg base x ps (k+1) F:=
 Z.ok Sc (λ_ _ _ _ _ _=>ik Sc.nd) len pure
theorem Zt(Fu:u3 K x qual st f fd)(len:∀ds Q,F ds Q->ds.length=ps.length)(pure:∀ds Q,F ds Q->t {nx:=λ_=>Q .non,rt:=Q} (dW N ds))
  (ik:∀{gn:aF}{A:dJ}{outer:ω Env}{s:aH}{H:Hp}{E:XK},N.Nodup->dc k (A.deeper (envOfC qual (jC st) s.z f gn)) ->
   qe (QW m_ P w K mg base N qual (jC st) f gn A outer s H E).nox (tM st) t)
  (Sc:gV N ps (jC st):=by exact⟨rfl,rfl,rfl,ι,rfl,ι,ι⟩):jo P w K mg base m_ (k+1) f fd ps (t9 K F):=
 Xj Fu Sc (λ_ _ _ _ _ _=>ik Sc.nd) len pure
def def_mk{kV doc pm gn ct:aF}(X:K.In h)(G:h.Ns mainGlobals mg)(a:uX K mainGlobals x=ψ (ψ (.ref f)))
  (l:K.lookup f=ψ ⟨oc,od,.func (qD x x (JG st) (tM st) (jC st) .none kV doc pm an gn ct),t6⟩) (c:vS K gn x=ζ) (k:pM K (.ref f)=ζ)
  (b:∀us:ω aF,us.length=ps.length->bindArgs (qD x x (JG st) (tM st) (jC st) .none kV doc pm an gn ct) ⟨us,[]⟩=pure (ps.zip us)):aj K mg x st ps:=
 ⟨_,_,Yz (st:=st) l c k,PySem.W.mg_of X G a,b⟩
end
section
variable{X:Cx}{k n:Nat}{ps:ω Str}{F:FD}{x:Str}{p pos:Pos}{e:Expr}{es:ω Expr}{t:RA}
theorem aZ(C:FnAt X.prog X.w X.K X.mg X.base x ps k F)(hr:dc n X.A)(ha:DA X (e::es) t)(hk:k<=n:=by decide)(hg:Gl X x:=by rfl)
  (o6:(x == ("__debug__":Str))=χ:=by decide) (he:starEach (e::es) X.env=(χ,eval e X.env)::starEach es X.env:=by rfl) (kb:(backTo pos (starEach es X.env)).any (·.1)=χ:=by rfl):
  DE X (.Call (.Name x p) (e::es) [] pos) (cH F t):=Pa C (hr.mono hk) ha hg o6 he kb
def bJ:DB X (.Constant (.int i) j pos) (rC (.int i)):=DE.bor gI
def eb{t:RE}(h:DE X e t):DB X e t:=DE.bor h
end
abbrev aj.W{K:aI}{mg:Str->Option aF}{x:Str}{st:Stmt}{ps:ω Str}(_:aj K mg x st ps)(P:cC)(w:cZ)(base:Heap)(k:Nat)(F:FD):Prop:=FnAt P w K mg base x ps k F
section
variable{X:Cx}{x:Str}{p q r pos:Pos}{c:Int}{j:Nat}
theorem c9(i:Nat)(hN:X.N[i]?=ψ x:=by rfl)(hv:qq X.env.scope x:=by walk_at "vis")(hd:(x == ("__debug__":Str))=χ:=by decide)(j9:(x == ("__classdict__":Str))=χ:=by decide):
  DE X (.Subscript (.Name x p) (.Constant (.int c) j q) r) (r2 ci (aQ i) (rC (.int c))):=kL (ah i hN hv hd j9) bJ
theorem av(i:Nat)(hN:X.N[i]?=ψ x:=by rfl)(hv:qq X.env.scope x:=by walk_at "vis")(hd:(x == ("__debug__":Str))=χ:=by decide)(j9:(x == ("__classdict__":Str))=χ:=by decide):
  DB X (.Subscript (.Name x p) (.Constant (.int c) j q) r) (r2 ci (aQ i) (rC (.int c))):=eb (c9 i hN hv hd j9)
def aw(ho:j3 X (binaryOp o) f)(ha:DB X a ta)(hb:DB X b tb):DB X (.BinOp a o b pos) (r2 f ta tb):=eb (dL ho ha hb)
def c5(h:DE X e te):qe X [.Return (ψ e) pos] (fM te):=eV (vZ h)
end
mutual
inductive uf(G H:Hp):D->V->Prop
 |non {v:V}:uf G H .non v
 |bl {b:Bool} {v:V}:uf G H (.bl b) v
 |int {i:Int} {v:V}:uf G H (.int i) v
 |str {x:Str} {v:V}:uf G H (.str x) v
 |tup {a:Addr} {vs:List V} {ds:List D} (h:H a=ψ (.tup vs)) (r:ug G H ds vs):uf G H (.tup ds) (.ref a)
 |lst {a:Addr} {o:Obj} {vs:List V} {ds:List D} (h:H a=ψ (.frz o (.lst vs))) (g:G a=ξ):uf G H (.lst ds) (.ref a)
inductive ug(G H:Hp):List D->List V->Prop
 |nil:ug G H [] []
 |cons {d:D} {v:V} {ds:List D} {vs:List V} (h:uf G H d v) (t:ug G H ds vs):ug G H (d::ds) (v::vs)
end
inductive qh:D->Prop
 |non:qh .non
 |bl {b:Bool}:qh (.bl b)
 |int {i:Int}:qh (.int i)
 |str {x:Str}:qh (.str x)
 |nil:qh (.tup [])
 |cons {d:D} {ds:List D} (h:qh d) (t:qh (.tup ds)):qh (.tup (d::ds))
def frR(d:D):aI->Hp->Hp->V->Prop:=λ_ H₀ H v=>uf H₀ H d v
def Zz(G:Hp)(d:D):aI->Hp->Hp->V->Prop:=λK _ H v=>dk K G d v/\ao G H
def E5(G:Hp)(d:D):aI->Hp->Hp->V->Prop:=λ_ H₀ H v=>ag H₀ G/\uf G H d v
def D5(t:RE):RE:=λa Q=>t a λd=>qh d/\Q d
def rFr(i:Nat):RE:=λa Q=>match a[i]? with
 |some (ψ (.mem ζ d R))=>R=frR d/\Q d
 |_=>False
def J7(i:Nat)(a:En):En:=match a[i]? with
 |some (ψ (.own ds))=>a.set i (ψ (.mem ζ (.lst ds) (frR (.lst ds))))
 |_=>a
def N5(t u:RS):RS:=λE a=>t {nx:=u E,rt:=E.rt} a
def M0(G:Hp):Option S->Option S
 |some (.d x)=>ψ (.mem ζ x (Zz G x))
 |y=>y
def rSetN(j:Nat)(F:FD)(t:RA):RS:=λE a=>t a λds=>F ds λd=>∀G,E.nx ((a.map (M0 G)).set j (ψ (.mem ζ d (E5 G d))))
def rClr(j:Nat)(Pt:D->Prop)(t:RS):RS:=λE a=>∃d b G a',a[j]?=ψ (ψ (.mem b d (E5 G d)))/\Pt d/\a'.length=a.length /\
 (∀i x,a'[i]?=ψ (ψ x)->(i=j/\x = .mem χ d (E5 G d))\/∃y,x = .mem ζ y (Zz G y)/\a[i]?=ψ (ψ x))/\t E a'
def Pth1(k:Int)(d:D):Prop:=∃ds xs,d = .tup ds/\jm ds k=ψ (.lst xs)
def Ox:R22:=λx y Q=>match x,y with
 | .lst xs,.lst ys=>xs.length=ys.length/\match js (fo 8) xs ys with
  |some b=>Q (.bl !b)
  |none=>False
 |_,_=>False
def Ra(hr:dc k X.A):j3 X (compareOp .NotEq) Ox:=by
 intro Γ s Z H x y v u Q I rx ry bj;obtain⟨d,e,P,r1,r2,q,kk⟩:=bj;have hu:=hr.un;unfold Ox at q;split at q
 ·rename_i xs ys;obtain⟨hl,q⟩:=q;split at q
  ·rename_i b h;obtain⟨a,vs,rfl,h1,q1⟩:=r1.lst;obtain⟨c,ws,rfl,h2,q2⟩:=r2.lst;cases rx;cases ry;obtain⟨its,rv,ht,_⟩:=I.list h1;obtain⟨f7,qa,vp,_⟩:=I.list h2;have l1:xs.length=its.length:=q1.length.trans rv.length;have l2:ys.length=f7.length:=q2.length.trans qa.length;have rc:SeqAt.RcNeAt X.A s (.ref a) (.ref c) (!b):=by
    have:=SeqAt.RcNeAt.lists (A:=X.A) (s:=s) (e:=λj=>match xs[j]?,ys[j]? with |some x,ψ y=>(fo 8 x y).getD χ |_,_=>χ) ht.isList vp.isList θ ν (λj g1 g2=>?_)
    ·have al:=EQ h;simp only[bI,<-l1] at this;rw[<-hl,IR,beq_self_eq_true,xF] at al;rw[<-al];exact this
    ·simp only[bI] at g1 g2;have e1:xs[j]?=ψ (xs[j]'ν):=aG _;have e2:ys[j]?=ψ (ys[j]'ν):=aG _;obtain⟨k,hk⟩:=JL h j _ _ e1 e2;rw[e1,e2];simp only[hk,lM];obtain⟨v1,f1,f2⟩:=q1.get e1;obtain⟨v2,f3,f4⟩:=q2.get e2;obtain⟨u1,g3,g4⟩:=rv.get f1;obtain⟨u2,g5,g6⟩:=qa.get f3;have a1:its.toArray[j]=u1:=by
      have:=aG g1;rw[this] at g3;simpa using eK g3
     have a2:f7.toArray[j]=u2:=by
      have:=aG g2;rw[this] at g5;simpa using eK g5
     rw[a1,a2];exact(zX I 8 hk f2 f4 g4 g6 (by show X.A.units+1+8<cLine;lia)).2
   exact rc _ _ _ _ ⟨.bl _,H,I,rfl,kk _ _ H q (ag.refl H) (.bl _)⟩
  ·exact q.elim
 ·exact q.elim
def Oy:R22:=λx y Q=>y = .lst [.int 1,.non]/\match x with
 | .int i=>Q (.bl !decide (i=1))
 | .non=>Q (.bl χ)
 |_=>False
def isV:aF->aF->Bool
 | .int i _,.int n _=>n == i
 | .none,.none=>ζ
 |_,_=>χ
def Rb(hr:dc k X.A):j3 X (compareOp .NotIn) Oy:=by
 intro Γ s Z H x y v u Q I rx ry bj;obtain⟨d,e,P,r1,r2,q,kk⟩:=bj;have hu:=hr.un;obtain⟨rfl,q⟩:=q;obtain⟨a,vs,rfl,h1,q1⟩:=r2.lst;cases ry;obtain⟨its,rv,ht,_⟩:=I.list h1;obtain⟨t1,rfl⟩:∃t,its=[.int 1 t,.none]:=by
  cases q1 with
  |cons a1 q2=>
   cases q2 with
   |cons a2 q3=>
    cases q3;rw[a1.int_inv] at rv;cases a2;cases rv with
    |cons b1 rv=>
     obtain⟨t,rfl⟩:=b1;cases rv with
     |cons b2 rv=>cases rv;cases b2;exact⟨t,rfl⟩
 split at q
 ·rename_i i;rw[r1.int_inv] at rx;obtain⟨t,rfl⟩:=rx;refine HF (isV (.int i t)) ht.isList (λy hy=>?_) ?_
  ·have hy:y = .int 1 t1\/y = .none:=(by simpa using hy);rcases hy with rfl |rfl
   ·exact vT 1 t1 i t
   ·exact SeqAt.EqAt.none_int i t
  ·have e:(!([.int 1 t1,.none]:ω aF).toArray.any (isV (.int i t))) = !decide (i=1):=by
    rw[KW];show(!((1 == i) || (χ ||false)))=_;by_cases z:i=1
    ·subst z;rfl
    ·have:¬(1:Int)=i:=λk=>z k.symm;simp[z,this]
   rw[e];exact⟨.bl _,H,I,rfl,kk _ _ H q (ag.refl H) (.bl _)⟩
 ·have r1:dk X.K H .non x:=by
   rcases r1 with r | ⟨ds,a,vs,e1,_⟩
   ·exact r
   ·cases e1
  cases r1;cases rx;refine HF (isV .none) ht.isList (λy hy=>?_) ?_
  ·have hy:y = .int 1 t1\/y = .none:=(by simpa using hy);rcases hy with rfl |rfl
   ·exact SeqAt.EqAt.int_none 1 t1
   ·exact uC _
  ·have e:(!([.int 1 t1,.none]:ω aF).toArray.any (isV .none))=χ:=(by rw[KW];rfl);rw[e];exact⟨.bl _,H,I,rfl,kk _ _ H q (ag.refl H) (.bl _)⟩
 ·exact q.elim
structure Row3(r:List D×Int):Prop where
 om:r.1[2]?=ψ (.int r.2)
 sz:Sz r.1.length
def Q6(te:RE):RA:=λa Q=>te a λx=>∃rs:ω (ω D×Int),x = .lst (rs.map λr=>D.tup r.1)/\rs.length<64/\(∀r∈rs,Row3 r)/\∀gs:ω (ω D×Int),gs.Perm rs->gs.Pairwise (λp q=>p.2<=q.2)->Q (gs.map λr=>D.tup r.1)
def rBIx(i:Nat)(tk:RE):RE:=λa Q=>match a[i]? with
 |some (ψ (.box χ jl))=>tk a λkd=>match kd with
  | .int k=>∃(j:Nat)(ds:List D),(k=(j:Int)/\jl[j]?=ψ ds)/\Q (.lst ds)
  |_=>False
 |_=>False
end
section
open PySem PySem.Spec PySem.SetTable PyProof.Rows L2 PySem.W
def F8(te:RE):RA:=λa Q=>te a λx=>∃ns:ω Int,x = .lst (ns.map .int)/\(∀n∈ns,0<=n/\n<4)/\∀ms:ω Int,ms.Pairwise (· < ·)->(∀n,n∈ms↔n∈ns)->Q (ms.map .int)
end
section
open PySem PySem.Spec PyProof.Rows L2
inductive T_(G H:Hp):List V->List Addr->Prop
 |nil:T_ G H [] []
 |cons {p a:Addr} {x y:V} {o:Obj} {us vs:List V} {as:List Addr} (hp:H p=ψ (.tup [x,y,.ref a])) (ha:H a=ψ (.frz o (.lst us))) (g:G a=ξ) (t:T_ G H vs as):T_ G H (.ref p::vs) (a::as)
def T3(F:FD)(t:RA):RE:=λa Q=>t a λds=>F ds λd=>(∃d0 d1 xs,d = .tup [d0,d1,.lst xs])/\Q d
def R3(G H:Hp)(v:V):Prop:=∃(l:Addr)(o:Obj)(vs:ω V)(as:ω Addr),v = .ref l/\H l=ψ (.frz o (.lst vs))/\T_ G H vs as/\as.Nodup/\l∉as
def Xq(G:Hp):aI->Hp->Hp->V->Prop:=λ_ H₀ H v=>ag H₀ G/\R3 G H v
def rSet3(j:Nat)(F:FD)(t:RA):RS:=λE a=>t a λds=>F ds λd=>∀G,E.nx ((a.map (M0 G)).set j (ψ (.mem ζ d (Xq G))))
structure Olds(G:Hp)(ρ ρ0:L2.R2.En):Prop where
 len:ρ0.length=ρ.length
 old:∀(i:Nat)(x:S),ρ0[i]?=ψ (ψ x)->∃y,x = .mem ζ y (Zz G y)/\ρ[i]?=ψ (ψ x)
structure Box3(d:D):Prop where
 ex:∃d0 d1 es xs,d = .tup [d0,d1,.lst (.tup es::xs)]/\qh d0/\qh d1/\qh (.tup (.tup es::xs))
def idR(v0:V):aI->Hp->Hp->V->Prop:=λ_ _ _ v=>v=v0
def Yd(a0:En)(ja jb:Nat)(d:D)(n:Int)(v0:V):En:=(a0.set ja (ψ (.mem ζ d (idR v0)))).set jb (ψ (.d (.int n)))
def Xp(a0:En)(ja jb:Nat)(t u:RS)(E:j8):ω D->ω Int->Prop
 |d::ds,n::ns=>∀v0,t {nx:=λa'=>a'=Yd a0 ja jb d n v0/\Xp a0 ja jb t u E ds ns,rt:=E.rt} (Yd a0 ja jb d n v0)
 |_,_=>u E a0
def rForC(jf jp ja jb:Nat)(t u:RS):RS:=λE a=>∃(G:Hp)(ds:ω D)(ns:ω Int)(a0:En),a[jf]?=ψ (ψ (.mem ζ (.lst ds) (Xq G)))/\(a[jp]?=ψ (ψ (.d (.lst (ns.map .int))))/\Olds G a a0)/\(a0[ja]?=ψ ξ/\a0[jb]?=ψ ξ)/\(∀d∈ds,Box3 d)/\Xp a0 ja jb t u E ds ns
abbrev am(i:Int):RE:=rC (.int i)
abbrev ai(i:Nat)(k:Int):RE:=r2 ci (aQ i) (rC (.int k))
abbrev ae(d:D):Option S:=ψ (.d d)
def pU:RS:=
 cW (eI 4 (r2 oP (aQ 2) (aQ 3)))
 (cW (eI 2 (bV 3))
 (eI 3 (bV 4)))
def xD:RS:=
 cW (eI 2 (rCB UT (aD (bV 0) aV)))
 (cW (eI 3 (rCB UT (aD (bV 1) aV)))
 (cW (DU (dZ (r2 (sN ζ) (aQ 3) (am 0))) pU)
 (fM (bV 2))))
def Dw(a_:FD):RS:=
 cW (jU (dZ (r2 (sN χ) (aQ 1) (am 0))) ((λ_ _=>False)) gP)
 (cW (eI 2 (cH a_ (aD (bV 0) (aD (bV 1) aV))))
 (cW (jU (dZ (r2 (pQ λi j=>decide (i<j)) (aQ 1) (am 0))) (eI 2 (r1 xO (aQ 2))) gP)
 (fM (jH (aD (r2 jX (aQ 0) (aQ 2)) (aD (r2 jX (aQ 1) (aQ 2)) aV))))))
def GC:RS:=
 fM (SZ (r1 (JE "int") (bV 0)) (Ry (r1 (JE "bool") (bV 0))))
def Jy(pC:FD):RS:=
 fM (cH pC (aD (r2 mJ (r2 fJ (ai 0 0) (ai 1 1)) (r2 fJ (ai 1 0) (ai 0 1))) (aD (r2 fJ (ai 0 1) (ai 1 1)) aV)))
def Dz(pC:FD):RS:=
 fM (cH pC (aD (r2 fJ (ai 0 0) (ai 1 0)) (aD (r2 fJ (ai 0 1) (ai 1 1)) aV)))
def rJ:RS:=
 D6 0 1 (aD (bV 1) (aD (r2 oP (aQ 0) (aQ 1)) aV))
def AT:RS:=
 cW (eI 0 (rCB UT (aD (bV 0) aV)))
 (cW (eI 1 (rCB UT (aD (bV 1) aV)))
 (cW (DU (dZ (r2 (pQ λi j=>decide (j<i)) (aQ 1) (am 0))) rJ)
 (fM (bV 0))))
def Jx(pC:FD):RS:=
 fM (cH pC (aD (r2 fJ (ai 0 0) (ai 1 1)) (aD (r2 fJ (ai 0 1) (ai 1 0)) aV)))
def NN:RS:=
 fM (r2 jX (ai 0 0) (ai 0 1))
def XC:RS:=
 fM (jH (aD (r2 fJ (aQ 0) (ai 1 0)) (aD (ai 1 1) aV)))
def Sd(qO:FD)(qR:FD):RS:=
 cW (eI 2 (ai 0 0))
 (fM (jH (aD (cH qO (aD (cH qR (aD (bV 2) (aD (ai 1 0) aV))) (aD (ai 0 1) aV))) (aD (cH qO (aD (cH qR (aD (bV 2) (aD (ai 1 1) aV))) (aD (ai 0 2) aV))) aV))))
def WX(Ab:FD):RS:=
 cW (eI 2 (cH Ab (aD (bV 1) (aD (jH (aD (ai 0 1) (aD (ai 0 2) aV))) aV))))
 (fM (jH (aD (r2 fJ (ai 0 0) (ai 1 0)) (aD (ai 2 0) (aD (ai 2 1) aV)))))
def NR(qR:FD):RS:=
 cW (eI 1 (ai 0 0))
 (fM (jH (aD (bV 1) (aD (cH qR (aD (r1 xO (aQ 1)) (aD (ai 0 1) aV))) (aD (cH qR (aD (r1 xO (aQ 1)) (aD (ai 0 2) aV))) aV)))))
def wD(a_:FD):RS:=
 fM (r2 fJ (aQ 0) (r2 jX (aQ 1) (cH a_ (aD (bV 0) (aD (bV 1) aV)))))
def Jz:RS:=
 cW (eI 3 (r2 fJ (r2 nF (ai 1 0) (ai 0 0)) (r2 nF (ai 2 1) (ai 0 1))))
 (cW (eI 4 (r2 fJ (r2 nF (ai 1 1) (ai 0 1)) (r2 nF (ai 2 0) (ai 0 0))))
 (fM (r2 nF (aQ 3) (aQ 4))))
def qG:RS:=
 Ju 1
def yX(zC:FD):RS:=
 cW (DU (OR (dZ (r2 (pQ λi j=>decide (j<i)) (r1 sB (aQ 1)) (am 1))) (dZ (r2 (pQ λi j=>decide (i<=j)) (cH zC (aD (r2 ci (aQ 1) (r1 xO (am 2))) (aD (r2 ci (aQ 1) (r1 xO (am 1))) (aD (bV 2) aV)))) (am 0)))) qG)
 (wY 1 (bV 2))
def GD(zC:FD):RS:=
 cW (qM 1 (oZ aV))
 (cW (lC (riL (bV 0)) (cY 2) (yX zC))
 (fM (ZS (aQ 1) sH (DR (r1 xO (am 1))))))
def yS:RS:=
 eI 0 (r2 jX (aQ 0) (aQ 1))
def GA:RS:=
 cW (lC (TN (aD (bV 2) aV)) (cY 3) yS)
 (fM (r2 oP (aQ 0) (aQ 1)))
def yT(W8:FD):RS:=
 cW (eI 2 (cH W8 (aD (bV 0) (aD (bV 1) aV))))
 (fM (jH (aD (r2 jX (aQ 0) (aQ 2)) (aD (r2 jX (aQ 1) (aQ 2)) aV))))
def AW:RS:=
 fM (r2 ci ((λa Q=>(oZ (aD (am 1) (aD (r2 mJ (am 1) (r2 oP (r2 jX (aQ 0) (am 3)) (am 12))) (aD (r2 mJ (am 1) (r2 oP (r2 jX (aQ 0) (am 3)) (r2 Ax (am 10) (am 9)))) aV)))) a λds=>Q (.lst ds))) (r2 oP (aQ 0) (am 3)))
def DX(W8:FD):RS:=
 eI 2 (cH W8 (aD (cH W8 (aD (bV 2) (aD (bV 3) aV))) (aD (bV 4) aV)))
def NK(W8:FD):RS:=
 cW (eI 2 (bV 0))
 (cW (lC (riL (bV 1)) (nX 2 (fW (cY 3) (fW (cY 4) nW))) (DX W8))
 (cW (qM 5 (qL (riL (bV 1)) 2 [2] (nX 2 (fW (cY 0) (fW (cY 1) nW))) (jH (aD (r2 jX (aQ 0) (aQ 2)) (aD (r2 jX (aQ 1) (aQ 2)) aV)))))
 (cW (eI 6 (Hk (aQ 5) (r1 Iu (aQ 5))))
 (fM (jH (aD (r2 jX (aQ 0) (aQ 2)) (aD (r1 QZ (r2 AN (ZS (aQ 5) (DR (bV 6)) sH) (ZS (aQ 5) sH (DR (bV 6))))) aV)))))))
def GG:RS:=
 fM ((λa Q=>(Hn (aQ 0) (r2 AN (ZS (aQ 0) (DR (am 1)) sH) (ZS (aQ 0) sH (DR (am 1))))) a λds=>Q (.lst ds)))
def WY:RS:=
 fM (r2 nF (r2 mJ (r2 fJ (ai 0 0) (ai 1 0)) (r2 fJ (ai 0 1) (ai 1 1))) (r2 fJ (ai 0 2) (aQ 2)))
def TJ(jn:FD):RS:=
 cW (eI 1 ((λa Q=>(TC (aQ 0)) a λds=>Q (.lst ds))))
 (fM (r2 AN (cH jn (aD (bV 1) aV)) (cH jn (aD ((λa Q=>(TB (aQ 1)) a λds=>Q (.lst ds))) aV))))
def GH(a_:FD):RS:=
 eI 3 (cH a_ (aD (cH a_ (aD (bV 3) (aD (bV 4) aV))) (aD (bV 5) aV)))
def TK(yB:FD)(a_:FD):RS:=
 cW (eI 2 (cH yB (aD (bV 1) aV)))
 (cW (jU (dZ (r2 (pQ λi j=>decide (i<j)) (r1 sB (aQ 2)) (am 3))) (fM (rC .non)) gP)
 (cW (eI 3 (bV 0))
 (cW (lC (riL (bV 2)) (nX 2 (fW (cY 4) (fW (cY 5) nW))) (GH a_))
 (fM (jH (aD (r2 jX (aQ 0) (aQ 3)) (aD (r1 QZ ((λb Q=>(qL (riL (bV 2)) 2 [3] (nX 2 (fW (cY 0) (fW (cY 1) nW))) (jH (aD (r2 jX (aQ 0) (aQ 2)) (aD (r2 jX (aQ 1) (aQ 2)) aV)))) b λds=>Q (.lst ds)))) aV)))))))
def NM:RS:=
 cW (eI 4 (rCB UT (aD (bV 1) aV)))
 (cW (eI 5 (rCB UT (aD (bV 3) aV)))
 (fM (jH (aD (r2 mJ (r2 fJ (ai 0 0) (aQ 5)) (r2 fJ (ai 2 0) (aQ 4))) (aD (r2 mJ (r2 fJ (ai 0 1) (aQ 5)) (r2 fJ (ai 2 1) (aQ 4))) (aD (r2 mJ (aQ 4) (aQ 5)) aV))))))
def uR(jg:FD):RS:=
 cW (jU (dZ (r2 (pQ λi j=>decide (i<=j)) (ai 3 1) (am 0))) (wY 2 (jH (aD (r2 ci (ai 3 0) (am 0)) (aD (r2 ci (ai 3 0) (am 1)) (aD (am 1) aV))))) gP)
 (jU (dZ (r2 (pQ λi j=>decide (i<j)) (r2 fJ (ai 3 1) (ai 4 1)) (am 0))) (wY 2 (cH jg (aD (ai 3 0) (aD (ai 3 1) (aD (ai 4 0) (aD (ai 4 1) aV)))))) gP)
def yY(jg:FD)(l_:FD):RS:=
 cW (qM 2 (oZ aV))
 (cW (lC (riL (cH l_ (aD ((λa Q=>(Hn (aQ 0) (aQ 1)) a λds=>Q (.lst ds))) aV))) (nX 2 (fW (cY 3) (fW (cY 4) nW))) (uR jg))
 ((λE a=>(fM (bV 2)) E (sX 2 a))))
def xC:RS:=
 eI 5 (r2 fJ (aQ 5) (ai 6 2))
def EC(BR:FD)(ka:FD)(rL:FD):RS:=
 cW (eI 2 (ai 0 0))
 (cW (qM 3 (qL (riT (ai 0 1)) 1 [1,2] (cY 0) (cH BR (aD (bV 1) (aD (bV 0) (aD (bV 2) aV))))))
 (cW (jU (dZ (r2 (pQ λi j=>decide (i<=j)) (r1 Ov (aQ 3)) (am 0))) (fM (bV 0)) gP)
 (cW (jU (dZ (r2 (pQ λi j=>decide (j<=i)) (r1 Ir (aQ 3)) (am 0))) (fM (rC .non)) gP)
 (cW ((λE a=>(eI 4 (cH ka (aD (ai 0 1) (aD (bV 3) aV)))) E (sX 3 a)))
 (cW (eI 5 (am 1))
 (cW (lC (riL (bV 4)) (cY 6) xC)
 (cW (qM 7 (qL (riL (bV 4)) 3 [5] (nX 3 (fW (cY 0) (fW (cY 1) (fW (cY 2) nW)))) (jH (aD (r2 fJ (aQ 0) (r2 jX (aQ 3) (aQ 2))) (aD (r2 fJ (aQ 1) (r2 jX (aQ 3) (aQ 2))) aV)))))
 ((λE a=>(fM (cH rL (aD (r2 fJ (aQ 2) (aQ 5)) (aD (bV 7) aV)))) E (sX 7 a))))))))))
def Sb(i9:FD):RS:=
 cW (eI 2 (jH (aD (r1 xO (ai 1 0)) (aD (r1 xO (ai 1 1)) (aD (r1 xO (ai 1 2)) aV)))))
 (fM (jH (aD (cH i9 (aD (bV 0) (aD (bV 1) aV))) (aD (cH i9 (aD (bV 0) (aD (bV 2) aV))) aV))))
def xB:RS:=
 cW (eI 6 (r2 ci (aQ 3) (r2 nF (aQ 5) (am 1))))
 (cW (eI 7 (r2 nF (r2 fJ (ai 1 0) (aQ 2)) (r2 fJ (ai 6 0) (ai 1 2))))
 (cW (eI 8 (r2 nF (r2 fJ (ai 1 1) (aQ 2)) (r2 fJ (ai 6 1) (ai 1 2))))
 (cW (eI 9 (r2 nF (r2 fJ (r2 nF (r2 ci (r2 ci (aQ 3) (aQ 5)) (am 0)) (ai 6 0)) (aQ 8)) (r2 fJ (r2 nF (r2 ci (r2 ci (aQ 3) (aQ 5)) (am 1)) (ai 6 1)) (aQ 7))))
 (jU (rOr (dZ (r2 (BG χ) (aQ 4) (rC .non))) (dZ (r2 (pQ λi j=>decide (i<j)) (aQ 9) (aQ 4)))) (eI 4 (bV 9)) gP))))
def EA:RS:=
 cW (Du (bV 0) (nX 2 (fW (cY 2) (fW (cY 3) nW))))
 (cW (eI 4 (rC .non))
 (cW (lC (TN (aD (r1 sB (aQ 3)) aV)) (cY 5) xB)
 (fM (r2 nF (rCB Kv (aD (r2 (pQ λi j=>decide (j<i)) (aQ 4) (am 0)) aV)) (rCB Kv (aD (r2 (pQ λi j=>decide (i<j)) (aQ 4) (am 0)) aV))))))
def KK:RS:=
 cW (eI 3 (r2 fJ (r2 nF (ai 1 0) (ai 0 0)) (r2 nF (ai 2 1) (ai 1 1))))
 (fM (r2 nF (aQ 3) (r2 fJ (r2 nF (ai 1 1) (ai 0 1)) (r2 nF (ai 2 0) (ai 1 0)))))
def qT(W9:FD):RS:=
 cW (jU (rOr (tU (dZ (r1 (JE "tuple") (bV 1)))) (dZ (r2 (sN ζ) (r1 sB (aQ 1)) (am 2)))) (fM (rC (.bl χ))) gP)
 (jU (rOr (tU (dZ (cH W9 (aD (ai 1 0) aV)))) (tU (dZ (cH W9 (aD (ai 1 1) aV))))) (fM (rC (.bl χ))) gP)
def sQ(W9:FD):RS:=
 cW (jU (rOr (tU (dZ (r1 (JE "tuple") (bV 0)))) (rOr (dZ (r2 (sN ζ) (r1 sB (aQ 0)) (am 2))) (rOr (tU (dZ (cH W9 (aD (ai 0 0) aV)))) (dZ (r2 (pQ λi j=>decide (i<j)) (ai 0 0) (am 1)))))) (fM (rC (.bl χ))) gP)
 (cW (jU (rOr (tU (dZ (r1 (JE "tuple") (ai 0 1)))) (dZ (r2 (pQ λi j=>decide (i<j)) (r1 sB (ai 0 1)) (am 3)))) (fM (rC (.bl χ))) gP)
 (cW (lC (riT (ai 0 1)) (cY 1) (qT W9))
 (fM (rC (.bl ζ)))))
def uQ(W8:FD)(Z4:FD):RS:=
 cW (eI 3 (cH W8 (aD (cH W8 (aD (bV 3) (aD (r2 ci (r2 ci (aQ 2) (aQ 5)) (am 0)) aV))) (aD (r2 ci (r2 ci (aQ 2) (aQ 5)) (am 1)) aV))))
 (cW (jU (dZ (r2 (pQ λi j=>decide (i<=j)) (cH Z4 (aD (r2 ci (aQ 2) (r2 nF (aQ 5) (am 2))) (aD (r2 ci (aQ 2) (r2 nF (aQ 5) (am 1))) (aD (r2 ci (aQ 2) (aQ 5)) aV)))) (am 0))) (fM (rC (.bl χ))) gP)
 (jU (OR (dZ (r2 Tv (r2 ci (aQ 2) (r2 nF (aQ 5) (am 1))) (r2 ci (aQ 2) (r2 nF (aQ 5) (am 2))))) (dZ (r2 Tv (r2 ci (aQ 2) (r2 nF (aQ 5) (am 1))) (r2 ci (aQ 2) (aQ 5))))) (eI 4 (r2 mJ (aQ 4) (am 1))) gP))
def yV(W8:FD)(Y8:FD)(Z4:FD):RS:=
 cW (jU (tU (dZ (cH Y8 (aD (bV 0) aV)))) (fM (rC (.bl χ))) gP)
 (cW (Du (bV 0) (nX 2 (fW (cY 1) (fW (cY 2) nW))))
 (cW (eI 3 (bV 1))
 (cW (eI 4 (am 0))
 (cW (lC (TN (aD (r1 sB (aQ 2)) aV)) (cY 5) (uQ W8 Z4))
 (fM (SZ (r2 (sN χ) (aQ 3) (am 1)) (SZ (r2 (sN χ) (aQ 4) (am 1)) (r2 dEq (ai 2 0) (r1 Iu (aQ 2))))))))))
def XB(rL:FD)(gh:FD):RS:=
 cW (eI 2 (ai 1 1))
 (cW (eI 3 (ai 1 2))
 (cW (eI 4 (cH gh (aD (cH gh (aD (ai 0 0) (aD (ai 2 1) aV))) (aD (ai 3 1) aV))))
 (cW (eI 5 (r2 fJ (ai 1 0) (r2 jX (aQ 4) (ai 0 0))))
 (cW (eI 6 (r2 fJ (ai 2 0) (r2 jX (aQ 4) (ai 2 1))))
 (cW (eI 7 (r2 fJ (ai 3 0) (r2 jX (aQ 4) (ai 3 1))))
 (fM (cH rL (aD (bV 4) (aD ((λa Q=>(qL (riT (ai 0 1)) 2 [5,6,7] (nX 2 (fW (cY 0) (fW (cY 1) nW))) (jH (aD (r2 mJ (r2 fJ (aQ 2) (aQ 0)) (aQ 3)) (aD (r2 mJ (r2 fJ (aQ 2) (aQ 1)) (aQ 4)) aV)))) a λds=>Q (.lst ds))) aV)))))))))
def uP(W8:FD)(W9:FD):RS:=
 cW (jU (rOr (tU (dZ (r1 (JE "tuple") (bV 0)))) (rOr (dZ (r2 (sN ζ) (r1 sB (aQ 0)) (am 2))) (rOr (tU (dZ (cH W9 (aD (ai 0 0) aV)))) (tU (dZ (cH W9 (aD (ai 0 1) aV))))))) (fM (rC (.bl χ))) gP)
 (fM (SZ (r2 (pQ λi j=>decide (j<i)) (ai 0 1) (am 0)) (r2 (sN χ) (cH W8 (aD (ai 0 0) (aD (ai 0 1) aV))) (am 1))))
def DZ(X4:FD)(Z6:FD)(W9:FD):RS:=
 cW (jU (rOr (tU (dZ (r1 (JE "tuple") (bV 0)))) (rOr (dZ (r2 (sN ζ) (r1 sB (aQ 0)) (am 2))) (tU (dZ (cH Z6 (aD (ai 0 0) aV)))))) (fM (rC (.bl χ))) gP)
 (cW (eI 1 (ai 0 1))
 (cW (jU (rOr (tU (dZ (r1 (JE "tuple") (bV 1)))) (rOr (dZ (r2 (sN ζ) (r1 sB (aQ 1)) (am 3))) (rOr (tU (dZ (cH W9 (aD (ai 1 0) aV)))) (dZ (r2 (sN ζ) (rCB UT (aD (ai 1 0) aV)) (am 1)))))) (fM (rC (.bl χ))) gP)
 (fM (SZ (cH X4 (aD (ai 1 1) aV)) (cH X4 (aD (ai 1 2) aV))))))
def AR(Y7:FD):RS:=
 jU (tU (dZ (cH Y7 (aD (bV 1) aV)))) (fM (rC (.bl χ))) gP
def KG(Y7:FD):RS:=
 cW (jU (tU (dZ (r1 (JE "list") (bV 0)))) (fM (rC (.bl χ))) gP)
 (cW (lC (riL (bV 0)) (cY 1) (AR Y7))
 (fM (rC (.bl ζ))))
def KF:RS:=
 cW (Du (bV 1) (nX 3 (fW (cY 2) (fW (cY 3) (fW (cY 4) nW)))))
 (cW (eI 5 (r2 fJ (r2 fJ (aQ 2) (r2 nF (r2 fJ (ai 0 0) (ai 3 1)) (r2 fJ (ai 3 0) (ai 0 2)))) (ai 4 1)))
 (cW (eI 6 (r2 fJ (r2 fJ (aQ 2) (r2 nF (r2 fJ (ai 0 1) (ai 4 1)) (r2 fJ (ai 4 0) (ai 0 2)))) (ai 3 1)))
 (fM (jH (aD (bV 5) (aD (bV 6) (aD (r2 fJ (r2 fJ (ai 0 2) (ai 3 1)) (ai 4 1)) aV)))))))
def AV(Z0:FD)(X7:FD):RS:=
 cW (eI 6 (bV 1))
 (cW (jU (dZ (bV 2)) (eI 6 (cH Z0 (aD (bV 1) (aD (bV 5) aV)))) gP)
 (cW (eI 7 (cH X7 (aD (bV 4) (aD (bV 6) aV))))
 (cW (jU (dZ (r2 (sN χ) (aQ 7) (am 0))) (fM (rC .non)) gP)
 (eI 3 (r2 mJ (aQ 3) (rCB Kv (aD (r2 (sN χ) (aQ 7) (am 1)) aV)))))))
def KJ(Z0:FD)(X7:FD):RS:=
 cW (eI 3 (am 0))
 (cW (lC (riL (bV 0)) (nX 2 (fW (cY 4) (fW (cY 5) nW))) (AV Z0 X7))
 (fM (bV 3)))
def wZ:RS:=
 cW (eI 3 (r2 ci (ai 0 1) (r2 nF (aQ 2) (am 1))))
 (cW (eI 4 (r2 ci (ai 0 1) (aQ 2)))
 (eI 1 (r2 nF (r2 mJ (aQ 1) (r2 fJ (ai 3 0) (ai 4 1))) (r2 fJ (ai 3 1) (ai 4 0)))))
def DV:RS:=
 cW (eI 1 (am 0))
 (cW (lC (TN (aD (r1 sB (ai 0 1)) aV)) (cY 2) wZ)
 (fM (jH (aD (bV 1) (aD (r2 fJ (ai 0 0) (ai 0 0)) aV)))))
def tR:RS:=
 fM (jH (aD (r2 mJ (r2 fJ (ai 0 0) (ai 1 1)) (r2 fJ (ai 1 0) (ai 0 1))) (aD (r2 fJ (ai 0 1) (ai 1 1)) aV)))
def yP(X5:FD)(Y9:FD):RS:=
 eI 1 (cH X5 (aD (bV 1) (aD (cH Y9 (aD (ai 2 0) aV)) aV)))
def FY(X5:FD)(Y9:FD):RS:=
 cW (eI 1 (jH (aD (am 0) (aD (am 1) aV))))
 (cW (lC (riL (bV 0)) (cY 2) (yP X5 Y9))
 (fM (bV 1)))
def xA:RS:=
 cW (jU (rOr (dZ (r2 (pQ λi j=>decide (i<j)) (aQ 3) (am 0))) (dZ (r2 (pQ λi j=>decide (j<i)) (aQ 3) (ai 0 0)))) (fM (rC (.bl χ))) gP)
 (cW (eI 5 (r2 nF (r2 fJ (aQ 4) (ai 1 1)) (r2 fJ (aQ 3) (ai 1 0))))
 (jU (rOr (dZ (r2 (pQ λi j=>decide (i<j)) (aQ 5) (am 0))) (dZ (r2 (pQ λi j=>decide (j<i)) (r2 fJ (aQ 5) (ai 2 1)) (r2 fJ (r2 fJ (ai 2 0) (ai 1 1)) (ai 0 0))))) (fM (rC (.bl χ))) gP))
def DY:RS:=
 cW (lC (riT (ai 0 1)) (nX 2 (fW (cY 3) (fW (cY 4) nW))) xA)
 (fM (rC (.bl ζ)))
def AX:RS:=
 cW (eI 3 (r2 oP (r2 fJ (r2 fJ (r2 mJ (r2 oP (aQ 0) (r2 Ax (am 10) (am 9))) (am 7)) (r2 mJ (r2 oP (aQ 0) (r2 Ax (am 10) (am 9))) (am 31))) (am 48271)) (am 2147483629)))
 (cW (eI 4 (r2 mJ (am 1) (r2 oP (aQ 3) (am 1008))))
 (cW (eI 5 (r2 mJ (am 1) (r2 oP (r2 oP (r2 fJ (aQ 3) (am 69621)) (am 2147483587)) (am 9972))))
 (cW (eI 6 (r2 fJ (r2 fJ (r2 fJ (am 1009) (am 9973)) (ai 1 1)) (ai 2 1)))
 (fM (jH (aD (r2 fJ (r2 fJ (r2 fJ (aQ 4) (am 9973)) (ai 1 1)) (ai 2 1)) (aD (r2 mJ (r2 fJ (r2 fJ (r2 fJ (aQ 4) (ai 1 0)) (am 9973)) (ai 2 1)) (r2 fJ (r2 fJ (r2 fJ (aQ 5) (ai 2 0)) (am 1009)) (ai 1 1))) (aD (bV 6) aV))))))))
def yW(Y4:FD)(W7:FD):RS:=
 cW (eI 4 (r2 mJ (am 1) (cH Y4 (aD (r2 jX (aQ 0) (am 18)) (aD (am 3) (aD (bV 3) aV))))))
 (cW (eI 5 (r2 mJ (am 1) (r2 oP (cH Y4 (aD (r2 jX (aQ 0) (am 35)) (aD (am 4) (aD (bV 3) aV)))) (am 3))))
 (wY 2 (cH W7 (aD (r2 mJ (r2 fJ (r2 ci (r2 ci (aQ 2) (r1 xO (am 1))) (am 0)) (aQ 5)) (r2 fJ (aQ 4) (r2 ci (r2 ci (aQ 2) (r1 xO (am 1))) (am 1)))) (aD (r2 fJ (r2 ci (r2 ci (aQ 2) (r1 xO (am 1))) (am 1)) (aQ 5)) aV)))))
def GB(Y4:FD)(W7:FD):RS:=
 cW (qM 2 (oZ (aD (cH W7 (aD (r2 nF (r2 oP (aQ 0) (am 9)) (am 4)) (aD (r2 mJ (am 1) (r2 oP (r2 jX (aQ 0) (am 9)) (am 2))) aV))) aV)))
 (cW (lC (TN (aD (r2 nF (aQ 1) (am 1)) aV)) (cY 3) (yW Y4 W7))
 ((λE a=>(fM (bV 2)) E (sX 2 a))))
def EB(W7:FD):RS:=
 cW (eI 1 (r2 ci ((λa Q=>(oZ (aD (am 9) (aD (r2 Ax (am 10) (am 30)) aV))) a λds=>Q (.lst ds))) (r2 oP (r2 jX (aQ 0) (am 2)) (am 2))))
 (cW (eI 2 (cH W7 (aD (r2 nF (r2 oP (r2 fJ (r2 oP (r2 fJ (aQ 0) (am 48271)) (am 1000000007)) (am 69621)) (r2 mJ (r2 fJ (am 2) (aQ 1)) (am 1))) (aQ 1)) (aD (r2 mJ (am 1) (r2 oP (r2 jX (aQ 0) (am 4)) (am 4))) aV))))
 (cW (eI 3 (cH W7 (aD (r2 nF (r2 oP (aQ 0) (r2 mJ (r2 fJ (am 2) (aQ 1)) (am 1))) (aQ 1)) (aD (r2 mJ (am 1) (r2 oP (r2 jX (aQ 0) (am 16)) (am 3))) aV))))
 (fM (jH (aD (r2 nF (am 1) (r2 fJ (am 2) (r2 oP (aQ 0) (am 2)))) (aD (bV 2) (aD (bV 3) aV)))))))
def KH:RS:=
 cW (jU (dZ (r2 (pQ λi j=>decide (i<j)) (aQ 1) (r1 sB (aQ 0)))) (fM (r2 oP (r2 ci (aQ 0) (aQ 1)) (r2 mJ (r2 Ax (am 10) (am 60)) (am 7)))) gP)
 (fM (am 0))
def TF(BQ:FD)(BT:FD)(vL:FD):RS:=
 fM (jH (aD (cH BT (aD (ai 0 0) (aD (bV 1) aV))) (aD (cH BQ (aD (cH vL (aD (bV 1) aV)) (aD (ai 0 1) aV))) aV)))
def WZ(qg:FD):RS:=
 fM (cH qg (aD (bV 0) (aD (jH (aD (am 1) (aD (jH (aD (am 0) (aD (am 1) aV))) (aD (bV 1) aV)))) aV)))
def AS(X8:FD):RS:=
 cW (eI 3 (r2 fJ (r2 ci (aQ 0) (rC (.int 1))) (r2 ci (aQ 1) (rC (.int 1)))))
 (cW (eI 4 (r2 fJ (r2 ci (aQ 0) (rC (.int 0))) (r2 ci (aQ 1) (rC (.int 1)))))
 (cW (eI 5 (r2 fJ (r2 ci (aQ 1) (rC (.int 0))) (r2 ci (aQ 0) (rC (.int 1)))))
 (cW (jU (dZ (r2 (pQ λi j=>decide (i<j)) (aQ 2) (rC (.int 3)))) (cW (eI 6 (jH (aD (rC (.int 0)) (aD (rC (.int 0)) aV))))
 (cW (eI 7 (jH (aD (bV 3) (aD (bV 4) aV))))
 (cW (eI 8 (jH (aD (bV 3) (aD (r2 mJ (aQ 4) (aQ 5)) aV))))
 (cW (eI 9 (jH (aD (rC (.int 0)) (aD (bV 5) aV))))
 (cW (jU (dZ (r2 (sN χ) (aQ 2) (rC (.int 0)))) (fM ((λa Q=>(oZ (aD (cH X8 (aD (bV 3) (aD ((λa Q=>(oZ (aD (bV 6) (aD (bV 7) (aD (bV 8) (aD (bV 9) aV))))) a λds=>Q (.lst ds))) aV))) aV)) a λds=>Q (.lst ds)))) gP)
 (cW (jU (dZ (r2 (sN χ) (aQ 2) (rC (.int 1)))) (fM ((λa Q=>(oZ (aD (cH X8 (aD (bV 3) (aD ((λa Q=>(oZ (aD (bV 6) (aD (bV 7) (aD (bV 8) aV)))) a λds=>Q (.lst ds))) aV))) (aD (cH X8 (aD (bV 3) (aD ((λa Q=>(oZ (aD (bV 6) (aD (bV 8) (aD (bV 9) aV)))) a λds=>Q (.lst ds))) aV))) aV))) a λds=>Q (.lst ds)))) gP)
 (fM ((λa Q=>(oZ (aD (cH X8 (aD (bV 3) (aD ((λa Q=>(oZ (aD (bV 6) (aD (bV 7) (aD (bV 9) aV)))) a λds=>Q (.lst ds))) aV))) (aD (cH X8 (aD (bV 3) (aD ((λa Q=>(oZ (aD (bV 7) (aD (bV 8) (aD (bV 9) aV)))) a λds=>Q (.lst ds))) aV))) aV))) a λds=>Q (.lst ds)))))))))) gP)
 (cW (eI 10 ((λa Q=>(oZ (aD (jH (aD (bV 3) (aD (bV 4) aV))) (aD (jH (aD (bV 3) (aD (r2 mJ (aQ 4) (r2 fJ (rC (.int 3)) (aQ 5))) aV))) aV))) a λds=>Q (.lst ds))))
 (cW (eI 11 (cH X8 (aD (r2 fJ (rC (.int 3)) (aQ 3)) (aD ((λa Q=>(oZ (aD (jH (aD (rC (.int 0)) (aD (rC (.int 0)) aV))) (aD (r2 ci (aQ 10) (rC (.int 0))) (aD (r2 ci (aQ 10) (rC (.int 1))) (aD (jH (aD (rC (.int 0)) (aD (r2 fJ (rC (.int 3)) (aQ 5)) aV))) aV))))) a λds=>Q (.lst ds))) aV))))
 (fM ((λa Q=>(oZ (aD (bV 11) (aD (cH X8 (aD (r2 fJ (rC (.int 3)) (aQ 3)) (aD ((λa Q=>(oZ (aD (r2 ci (aQ 10) (rC (.int 0))) (aD (jH (aD (r2 fJ (rC (.int 3)) (aQ 3)) (aD (r2 fJ (rC (.int 3)) (aQ 4)) aV))) (aD (jH (aD (r2 fJ (rC (.int 3)) (aQ 3)) (aD (r2 mJ (r2 fJ (rC (.int 3)) (aQ 4)) (r2 fJ (rC (.int 3)) (aQ 5))) aV))) (aD (r2 ci (aQ 10) (rC (.int 1))) aV))))) a λds=>Q (.lst ds))) aV))) aV))) a λds=>Q (.lst ds)))))))))
def yQ(Y3:FD):RS:=
 wY 7 (jH (aD (bV 8) (aD (cH Y3 (aD (r2 mJ (r2 mJ (r2 jX (aQ 4) (am 52)) (r2 fJ (am 977) (aQ 3))) (r2 fJ (am 31) (r1 sB (aQ 7)))) aV)) aV)))
def yR(X3:FD)(Y5:FD)(W7:FD)(Y3:FD):RS:=
 cW (eI 4 (cH X3 (aD (bV 0) (aD (bV 3) aV))))
 (cW (eI 5 (r2 oP (aQ 4) (r1 sB (aQ 1))))
 (cW (jU (dZ (r2 (sN χ) (r2 oP (cH X3 (aD (bV 0) (aD (am 1) aV))) (am 2)) (am 1))) (eI 5 (r2 oP (r2 jX (cH X3 (aD (bV 0) (aD (am 1) aV))) (am 2)) (r1 sB (aQ 1)))) gP)
 (cW (eI 6 (cH W7 (aD (r2 mJ (am 1) (r2 oP (r2 jX (aQ 4) (am 7)) (am 6))) (aD (r2 mJ (am 1) (r2 oP (r2 jX (aQ 4) (am 11)) (am 2))) aV))))
 (cW (qM 7 (oZ aV))
 (cW (lC (riL (cH Y5 (aD (r2 ci (aQ 1) (aQ 5)) (aD (bV 6) (aD (r2 oP (r2 jX (aQ 4) (am 13)) (am 4)) aV))))) (cY 8) (yQ Y3))
 ((λE a=>(wY 2 (jH (aD (bV 5) (aD (bV 6) (aD (bV 7) aV))))) E (sX 7 a))))))))
def FZ(X3:FD)(Y5:FD)(W7:FD)(Y3:FD):RS:=
 cW (qM 2 (oZ aV))
 (cW (lC (Vw (aD (am 2) (aD (rCB Aw (aD (r1 sB (aQ 0)) (aD (am 7) aV))) aV))) (cY 3) (yR X3 Y5 W7 Y3))
 ((λE a=>(fM (bV 2)) E (sX 2 a))))
def NL:RS:=
 cW (Du (bV 0) (nX 3 (fW (cY 2) (fW (cY 3) (fW (cY 4) nW)))))
 (cW (eI 5 (r2 fJ (r2 mJ (r2 fJ (r2 fJ (aQ 2) (ai 1 0)) (ai 3 1)) (r2 fJ (ai 3 0) (ai 1 2))) (ai 4 1)))
 (cW (eI 6 (r2 fJ (r2 mJ (r2 fJ (r2 fJ (aQ 2) (ai 1 1)) (ai 4 1)) (r2 fJ (ai 4 0) (ai 1 2))) (ai 3 1)))
 (fM (jH (aD (bV 5) (aD (bV 6) (aD (r2 fJ (r2 fJ (ai 1 2) (ai 3 1)) (ai 4 1)) aV)))))))
def uO(Z5:FD)(X7:FD):RS:=
 cW (eI 5 (cH X7 (aD (bV 3) (aD (bV 1) aV))))
 (cW (jU (dZ (r2 (sN χ) (aQ 5) (am 0))) (fM (rC .non)) gP)
 (jU (dZ (r2 (sN χ) (aQ 5) (am 1))) (wY 2 (cH Z5 (aD (bV 4) (aD (bV 1) aV)))) gP))
def yU(Z5:FD)(X7:FD):RS:=
 cW (qM 2 (oZ aV))
 (cW (lC (riL (bV 0)) (nX 2 (fW (cY 3) (fW (cY 4) nW))) (uO Z5 X7))
 ((λE a=>(fM (bV 2)) E (sX 2 a))))
def XA(pC:FD):RS:=
 fM (cH pC (aD (r1 Ir ((λa Q=>(qL (riT (ai 0 1)) 2 [] (nX 2 (fW (cY 0) (fW (cY 1) nW))) (bV 1)) a λds=>Q (.lst ds)))) (aD (ai 0 0) aV)))
def wC(qx:FD)(c_:FD)(wJ:FD):RS:=
 cW (eI 5 (cH qx (aD (bV 2) (aD (jH (aD (am 0) (aD (ai 1 1) (aD (r2 fJ (r2 mJ (aQ 3) (am 1)) (ai 1 0)) aV)))) aV))))
 (cW (wY 4 (cH c_ (aD (jH (aD (ai 5 0) (aD (ai 0 1) aV))) (aD (cH wJ (aD (bV 1) (aD (jH (aD (r1 xO (aQ 3)) (aD (am 1) aV))) aV))) aV))))
 (cW (eI 2 (ai 5 1))
 (eI 3 (r2 mJ (aQ 3) (am 1)))))
def NO(qx:FD)(o3:FD)(c_:FD)(qy:FD)(v_:FD)(wJ:FD):RS:=
 cW (eI 2 (ai 0 0))
 (cW (eI 3 (cH o3 (aD (cH v_ (aD (cH qy (aD (bV 2) aV)) (aD (bV 1) aV))) aV)))
 (cW (qM 4 (oZ aV))
 (cW (DU (dZ (r2 (BG ζ) (aQ 2) (rC .non))) (wC qx c_ wJ))
 ((λE a=>(fM (bV 4)) E (sX 4 a))))))
def wB(Y6:FD):RS:=
 jU (tU (dZ (cH Y6 (aD (ai 2 0) (aD (jH (aD (am 0) (aD (am 1) aV))) (aD (bV 1) aV)))))) (fM (rC (.bl χ))) gP
def AY(Z8:FD)(ad:FD)(Y6:FD)(X4:FD):RS:=
 cW (jU (rOr (tU (dZ (r1 (JE "tuple") (bV 0)))) (rOr (dZ (r2 (sN ζ) (r1 sB (aQ 0)) (am 2))) (rOr (dZ (r2 dNe (ai 0 0) (aQ 1))) (tU (dZ (cH X4 (aD (ai 0 0) aV))))))) (fM (rC (.bl χ))) gP)
 (cW (jU (tU (dZ (cH ad (aD (ai 0 1) aV)))) (fM (rC (.bl χ))) gP)
 (cW (lC (riL (ai 0 1)) (cY 2) (wB Y6))
 (cW (eI 3 (cH Z8 (aD (ai 0 1) aV)))
 (fM (r2 (sN χ) (r2 fJ (ai 3 0) (ai 1 1)) (r2 fJ (r2 fJ (am 2) (ai 1 0)) (ai 3 1)))))))
def NP(c_:FD)(qO:FD):RS:=
 cW (DQ 2 ((λa Q=>(qL (riL (ai 3 2)) 1 [1] (cY 0) (cH c_ (aD (bV 0) (aD (bV 1) aV)))) a λds=>Q (.lst ds))))
 (eI 1 (cH qO (aD (bV 1) (aD (ai 3 1) aV))))
def Dx(c_:FD)(qO:FD):RS:=
 cW (eI 1 (jH (aD (am 0) (aD (am 1) aV))))
 (cW (qM 2 (oZ aV))
 (cW (lC (riL (bV 0)) (cY 3) (NP c_ qO))
 ((λE a=>(fM (jH (aD (r2 ci (ai 0 0) (am 0)) (aD (bV 1) (aD (bV 2) aV))))) E (sX 2 a)))))
def GI:RS:=
 Jt 1 (ai 2 0) (bV 2)
def TL(IC:FD):RS:=
 cW (Rw 1)
 (cW (lC (riL (bV 0)) (cY 2) GI)
 ((λE a=>(fM ((λa Q=>(qL (riL ((λa Q=>(Hm ((λa Q=>(Hl (bV 1)) a λds=>Q (.lst ds)))) a λds=>Q (.lst ds)))) 1 [1] (cY 0) (cH IC (aD (r2 Tu (bV 1) (bV 0)) aV))) a λds=>Q (.lst ds)))) E (sX 1 a))))
def GJ(di:FD):RS:=
 DQ 2 (cH di (aD (bV 3) (aD (ai 0 1) aV)))
def TM(di:FD):RS:=
 cW (qM 2 (oZ aV))
 (cW (lC (riL (ai 0 2)) (cY 3) (GJ di))
 ((λE a=>(fM (jH (aD (ai 0 1) (aD (bV 2) aV)))) E (sX 2 a))))
def NQ(c_:FD)(qO:FD)(jy:FD):RS:=
 cW (eI 5 (cH jy (aD (bV 4) (aD (bV 1) aV))))
 (cW (DQ 3 ((λa Q=>(qL (riL (ai 5 1)) 1 [2] (cY 0) (cH c_ (aD (bV 0) (aD (bV 1) aV)))) a λds=>Q (.lst ds))))
 (eI 2 (cH qO (aD (bV 2) (aD (ai 5 0) aV)))))
def Dy(c_:FD)(qO:FD)(yC:FD)(jy:FD):RS:=
 cW (eI 2 (jH (aD (am 0) (aD (am 1) aV))))
 (cW (qM 3 (oZ aV))
 (cW (lC (riL (cH yC (aD (bV 0) aV))) (cY 4) (NQ c_ qO jy))
 ((λE a=>(fM (jH (aD (bV 2) (aD (bV 3) aV)))) E (sX 3 a)))))
def AU(X6:FD):RS:=
 cW (eI 4 (cH X6 (aD (bV 1) (aD (bV 3) (aD (rC (.bl ζ)) aV)))))
 (cW (eI 5 (cH X6 (aD (bV 0) (aD (bV 3) (aD (rC (.bl ζ)) aV)))))
 (jU (OR (dZ (r2 (BG ζ) (aQ 4) (rC .non))) (OR (dZ (r2 (BG ζ) (aQ 5) (rC .non))) (dZ (r2 dNe (aQ 4) (aQ 5))))) (fM (rC (.bl χ))) gP))
def KI(X6:FD):RS:=
 cW (jU (dZ (r2 (BG χ) (aQ 2) (rC .non))) (fM (rC (.bl ζ))) gP)
 (cW (lC (riL (bV 2)) (cY 3) (AU X6))
 (fM (rC (.bl ζ))))
def AZ(di:FD):RS:=
 DQ 2 (cH di (aD (bV 3) (aD (ai 0 1) aV)))
def KL(di:FD):RS:=
 Jv (qM 2 (oZ aV))
 (Jv (lC (riL (ai 0 2)) (cY 3) (AZ di))
 ((λE a=>(fM (jH (aD (D5 (ai 0 1)) (aD (rFr 2) aV)))) E (J7 2 a))))
def GE(Y0:FD)(Z3:FD)(X6:FD)(X9:FD):RS:=
 cW (jU (dZ (r2 Oy (cH X6 (aD (ai 5 1) (aD (cH X9 (aD (bV 11) (aD (jH (aD (am 0) (aD (am 1) aV))) (aD (bV 6) aV)))) (aD (rC (.bl χ)) aV)))) ((λa Q=>(oZ (aD (am 1) (aD (rC .non) aV))) a λds=>Q (.lst ds))))) (fM (rC (.bl χ))) gP)
 (cW (Du (r2 ci (aQ 2) (r2 oP (aQ 11) (r1 sB (aQ 2)))) (nX 3 (fW (cY 8) (fW (cY 9) (fW (cY 10) nW)))))
 (jU (tU (dZ (cH Z3 (aD (ai 5 1) (aD (bV 7) (aD (cH Y0 (aD (bV 10) (aD (cH X9 (aD (bV 11) (aD (r2 ci (aQ 1) (aQ 8)) (aD (bV 9) aV)))) aV))) aV)))))) (fM (rC (.bl χ))) gP))
def GF(X5:FD):RS:=
 cW (eI 6 (cH X5 (aD (bV 6) (aD (bV 9) aV))))
 (eI 7 (r2 AN (aQ 7) (aQ 10)))
def TH(X5:FD)(Z9:FD)(X3:FD)(W7:FD)(Y0:FD)(Z3:FD)(aa:FD)(X6:FD)(X9:FD)(Z7:FD)(ID:FD):RS:=
 cW (eI 1 (cH aa (aD (r2 jX (cH X3 (aD (bV 0) (aD (am 0) aV))) (am 3)) (aD (r2 mJ (am 1) (r2 oP (cH X3 (aD (bV 0) (aD (am 0) aV))) (am 3))) aV))))
 (cW (eI 2 (cH Z9 (aD (bV 0) (aD (bV 1) aV))))
 (cW (qM 3 (qL (riL (bV 2)) 3 [] (nX 3 (fW (cY 0) (fW (cY 1) (fW (cY 2) nW)))) (jH (aD (bV 0) (aD (bV 1) (aD (r1 zW (aQ 2)) aV))))))
 (cW (eI 4 (r1 zW (aQ 1)))
 (cW ((λE a=>(eI 5 (cH ID (aD (bV 3) (aD (bV 4) aV)))) E (sX 3 a)))
 (cW (eI 6 (jH (aD (am 0) (aD (am 1) aV))))
 (cW (eI 7 ((λa Q=>(oZ aV) a λds=>Q (.lst ds))))
 (cW (lC (riL (bV 2)) (nX 3 (fW (cY 8) (fW (cY 9) (fW (cY 10) nW)))) (GF X5))
 (cW (eI 6 (cH W7 (aD (ai 6 0) (aD (ai 6 1) aV))))
 (cW (jU (rOr (tU (dZ (cH Z7 (aD (bV 5) (aD (bV 6) aV))))) (rOr (dZ (r2 Ox (aQ 3) (aQ 2))) (dZ (r2 Ox (aQ 4) (aQ 1))))) (fM (rC (.bl χ))) gP)
 (cW (jU (dZ (r2 Ku (aQ 2) ((λa Q=>(oZ aV) a λds=>Q (.lst ds))))) (fM (r2 Ku (ai 5 1) ((λa Q=>(oZ aV) a λds=>Q (.lst ds))))) gP)
 (cW (lC (riL (r2 AN ((λa Q=>(Jw (aQ 0) sH (DR (am 5))) a λds=>Q (.lst ds))) ((λa Q=>(oZ (aD (cH X3 (aD (bV 0) (aD (am 1) aV))) aV)) a λds=>Q (.lst ds))))) (cY 11) (GE Y0 Z3 X6 X9))
 (fM (rC (.bl ζ))))))))))))))
def G5{α:Type}(x:α)(xs:ω α):jm (x::xs) 0=ψ x:=by
 unfold jm n9;simp
def G6{α:Type}(x y:α)(xs:ω α):jm (x::y::xs) 1=ψ y:=by
 unfold jm n9;rw[Ω η,Ω (by simp only[bP];lia)];rfl
def G7{α:Type}(x y z:α)(xs:ω α):jm (x::y::z::xs) 2=ψ z:=by
 unfold jm n9;rw[Ω η,Ω (by simp only[bP];lia)];rfl
def Fl{α:Type}{xs:ω α}{i:Int}{j:Nat}{x:α}(h:i=(j:Int))(e:xs[j]?=ψ x):jm xs i=ψ x:=by
 subst h;exact Ij e
def Yp:dEq x y Q=(match fo 6 x y with |some b=>Q (.bl b) |none=>False):=rfl
def BL.const(h:i.natAbs<2 ^ n:=by decide):BL n i:=h
def SW(h:0<=j/\j<=1000000/\i.natAbs<2 ^ 64:=by decide):u5 i j:=⟨h⟩
def nG(h:j≠0:=by decide):u4 j:=⟨h⟩
def Jf(h:n<=1000):n<=sizeLine:=fR h η
def nU:ci (.tup (x::xs)) (.int 0) Q=Q x:=by simp only[ci,G5]
def iT:ci (.tup (x::y::xs)) (.int 1) Q=Q y:=by simp only[ci,G6]
def yG:ci (.tup (x::y::z::xs)) (.int 2) Q=Q z:=by simp only[ci,G7]
def zV(e:jm xs i=ψ x)(h:Q x):ci (.lst xs) (.int i) Q:=by simp only[ci,e];exact h
def YG(h0:0<=i)(h1:i<xs.length)(h:∀x,x∈xs->Q x):ci (.lst xs) (.int i) Q:=by
 have hj:i.toNat<xs.length:=ν
 exact zV (Fl (j:=i.toNat) ν (aG hj)) (h _ (pZ hj))
def uD{xs:ω D}{k:Nat}{x:D}{Q:D->Prop}(e:xs[k]?=ψ x):ci (.lst xs) (.int (k:Int)) Q=Q x:=by simp only[ci,Ij e]
def Av:ci (.lst (a0::r)) (.int 0) Q=Q a0:=uD (k:=0) rfl
def Ol:ci (.lst (a0::a1::r)) (.int 1) Q=Q a1:=uD (k:=1) rfl
def Om:ci (.lst (a0::a1::a2::r)) (.int 2) Q=Q a2:=uD (k:=2) rfl
def On:ci (.lst (a0::a1::a2::a3::r)) (.int 3) Q=Q a3:=uD (k:=3) rfl
def Oo:ci (.lst (a0::a1::a2::a3::a4::r)) (.int 4) Q=Q a4:=uD (k:=4) rfl
def Op:ci (.lst (a0::a1::a2::a3::a4::a5::r)) (.int 5) Q=Q a5:=uD (k:=5) rfl
def Oq:ci (.lst (a0::a1::a2::a3::a4::a5::a6::r)) (.int 6) Q=Q a6:=uD (k:=6) rfl
def Os:ci (.lst (a0::a1::a2::a3::a4::a5::a6::a7::r)) (.int 7) Q=Q a7:=uD (k:=7) rfl
def Ot:ci (.lst (a0::a1::a2::a3::a4::a5::a6::a7::a8::r)) (.int 8) Q=Q a8:=uD (k:=8) rfl
def Ou:ci (.lst (a0::a1::a2::a3::a4::a5::a6::a7::a8::a9::r)) (.int 9) Q=Q a9:=uD (k:=9) rfl
def Kw:ci (.lst (a0::a1::a2::a3::a4::a5::a6::a7::a8::a9::rn::r)) (.int 10) Q=Q rn:=uD (k:=10) rfl
def Kx:ci (.lst (a0::a1::a2::a3::a4::a5::a6::a7::a8::a9::rn::uh::r)) (.int 11) Q=Q uh:=uD (k:=11) rfl
def gQ(n:Nat)(ds:ω D):En:=ds.map (λd=>ae d)++fL n ξ
def cK(n:Nat)(h:N.length=ds.length+n):dW N ds=gQ n ds:=by
 unfold dW gQ;rw[h,Nat.add_sub_cancel_left]
def Zh:Gb "int" (.int i)=ψ ζ:=rfl
def Zf:Gb "bool" (.int i)=ψ χ:=rfl
def Zg:Gb "int" (.bl i)=ψ ζ:=rfl
def Ze:Gb "bool" (.bl i)=ψ ζ:=rfl
def Zi:Gb "tuple" (.tup xs)=ψ ζ:=rfl
def N6{α:Type}{x:α}:fL 0 x=[]:=rfl
def VF{α:Type}{x:α}:fL 1 x=[x]:=rfl
def Hr{α:Type}{x:α}:fL 2 x=[x,x]:=rfl
def Ea{α:Type}{x:α}:fL 3 x=[x,x,x]:=rfl
def Eb{α:Type}{x:α}:fL 4 x=[x,x,x,x]:=rfl
def Mu{α:Type}{x:α}:fL 5 x=[x,x,x,x,x]:=rfl
def D8{α:Type}{x:α}:fL 6 x=[x,x,x,x,x,x]:=rfl
def N9{α:Type}{x:α}:fL 7 x=[x,x,x,x,x,x,x]:=rfl
def O0{α:Type}{x:α}:fL 8 x=[x,x,x,x,x,x,x,x]:=rfl
def O3{α:Type}{x:α}:fL 9 x=[x,x,x,x,x,x,x,x,x]:=rfl
def N7{α:Type}{x:α}:fL 10 x=[x,x,x,x,x,x,x,x,x,x]:=rfl
def Ya{α:Type}{x:α}:fL 11 x=[x,x,x,x,x,x,x,x,x,x,x]:=rfl
def N8{α:Type}{x:α}:fL 12 x=[x,x,x,x,x,x,x,x,x,x,x,x]:=rfl
def sz2:Sz (0+1+1):=⟨η⟩
def sz3:Sz (0+1+1+1):=⟨η⟩
def sz4:Sz (0+1+1+1+1):=⟨η⟩
def sz1:Sz (0+1):=⟨η⟩
def sz0:Sz 0:=⟨η⟩
local macro_rules | `(tactic|nofun)=>do
 let a <- ("D5 Jv N5 S.fz Rw DQ H8 cW gP fM N4 jU eI qM D6 Du cY nX fW nW bV aQ rC r2 r1 dZ OR rOr tU SZ U1 Ry rIf aV aD jH oZ cH rCB sH DR Jw lC V0 riL riT TN Vw D9 qL yF zQ QT sX wY Ju D7 Hn My ZS AN zW QZ R8 dNe Hk O4 O5 mJ nF fJ jX oP Ax xO pQ sN BG Yp CQ nU iT yG Av Ol Om On Oo Op Oq Os Ot Ou Kw Kx UT Kv G9 Aw sB JE Zh Zf Zg Ze Zi S.val gQ N6 VF Hr Ea Eb Mu D8 N9 O0 O3 N7 Ya N8 aR bO aW bF bP dG aB aE aM aP eH xG Bool.or_true UG Bool.true_or fZ nH if_true if_false aS sz0 sz1 sz2 sz3 sz4 true_and decide_eq_true_eq Int.reduceToNat Int.reducePow Int.reduceMul Int.reduceSub Int.reduceAdd Int.reduceNeg".splitOn " ").toArray.mapM λx=>`(Lean.Parser.Tactic.simpLemma| $(Lean.mkIdent x.toName):term)
 `(tactic|simp only[$a,*])
local macro_rules | `(tactic|walk_at "side")=>`(tactic|first |exact SW |exact nG |exact(BL.const (n:=9000) η).divOk η |exact(BL.const (n:=300) η).mulOk (BL.const (n:=300) η))
local macro_rules | `(tactic|walk_at "sides")=>`(tactic|repeat (refine And.intro (by walk_at "side") ?_))
def IU(i:Int):(if i<0 then -i else i)=((i.natAbs:Nat):Int):=by split <;> lia
def WG(x y:Nat):((x:Nat):Int).fmod (y:Nat)=((x % y:Nat):Int):=by
 rw[Int.fmod_eq_emod_of_nonneg _ (vO y)];exact(Int.natCast_emod x y).symm
def BS:FD:=λds Q=>∃a b:Int,ds=[.int a,.int b]/\Q (.int (cO a b:Nat))
theorem MB(E:j8):∀(y x:Nat),E.nx [ae (.int (Nat.gcd x y:Nat)),ae (.int (0:Nat))] ->
  DU (dZ (r2 (pQ λi j=>decide (j<i)) (aQ 1) (am 0))) rJ E [ae (.int (x:Nat)),ae (.int (y:Nat))]:=by
 intro y
 induction y using OB with
 |ind y ih=>
  intro x h;cases vR y with
  |inl hy=>
   subst hy;refine⟨1,?_⟩;unfold pV;nofun;rw[υ η];rw[GV] at h;exact h
  |inr hy=>
   have h2:=ih (x % y) (lU x hy) y (by
    rw[zJ y,<-Nat.gcd_rec,zJ];exact h)
   obtain⟨n,hn⟩:=h2;refine⟨n+1,?_⟩;unfold pV rJ;nofun;rw[Ω ν];refine⟨⟨ν⟩,?_⟩;rw[WG];exact hn
abbrev τ(F:FD)(r:RS)(N:List Str):Prop:=∀ds Q,F ds Q->r {nx:=λ_=>Q .non,rt:=Q} (dW N ds)
def MR:τ BS AT ["_law_one","_law_other"]:=by
 rintro ds Q ⟨a,b,rfl,q⟩;rw[cK 0 rfl];unfold AT;nofun;rw[IU,IU];refine MB _ _ _ ?_;nofun;exact q
theorem FF(E:j8)(u v:Option S):∀(y x:Nat)(r:Option S),(∀r,E.nx [u,v,ae (.int (Nat.gcd x y:Nat)),ae (.int (0:Nat)),r]) ->
  DU (dZ (r2 (sN ζ) (aQ 3) (am 0))) pU E [u,v,ae (.int (x:Nat)),ae (.int (y:Nat)),r]:=by
 intro y
 induction y using OB with
 |ind y ih=>
  intro x r h;cases vR y with
  |inl hy=>
   subst hy;refine⟨1,?_⟩;unfold pV;nofun;rw[υ δ];rw[GV] at h;exact h r
  |inr hy=>
   obtain⟨n,hn⟩:=ih (x % y) (lU x hy) y (ae (.int ((x % y:Nat)))) (by
    rw[zJ y,<-Nat.gcd_rec,zJ];exact h)
   refine⟨n+1,?_⟩;unfold pV pU;nofun;rw[Ω θ];refine⟨⟨ν⟩,?_⟩;rw[WG];exact hn
def FG:τ BS xD ["one","other","larger","smaller","rest"]:=by
 rintro ds Q ⟨a,b,rfl,q⟩;rw[cK 3 rfl];unfold xD;nofun;rw[IU,IU];refine FF _ _ _ _ _ _ λr=>?_;nofun;exact q
abbrev fr(a b:Int):D:=.tup [.int a,.int b]
def PC(h:b≠0):0<(cO a b:Int):=by
 have:0<cO a b:=Int.gcd_pos_of_ne_zero_right a h;lia
def BL.gcd(hb:b≠0)(h:BL n b):BL n (cO a b:Int):=by
 refine h.le ?_;rw[Int.natAbs_natCast];exact xJ ν (Int.gcd_dvd_natAbs_right a b)
structure me(a b p q:Int):Prop where
 pos:0<q
 cop:cO p q=1
 worth:p*b=a*q
 lea:p.natAbs<=a.natAbs
 leb:q.natAbs<=b.natAbs
def YY(hb:0<b):me a b (a.fdiv (cO a b:Nat)) (b.fdiv (cO a b:Nat)):=by
 have hg:0<(cO a b:Int):=PC ν;have ea:((cO a b:Nat):Int)∣a:=nM ..;have eb:((cO a b:Nat):Int)∣b:=mP ..;rw[cS _ ν,cS _ ν];have e1:a / (cO a b:Int)*(cO a b:Int)=a:=uJ ea;have e2:b / (cO a b:Int)*(cO a b:Int)=b:=uJ eb;have hc:cO (a / (cO a b:Int)) (b / (cO a b:Int))=1:=wH ν;generalize (cO a b:Int)=g at *;generalize a / g=p at *;generalize b / g=q at *;subst e1 e2;refine⟨?_,hc,by rw[lI,dS q g],?_,?_⟩
 ·exact iH hb ν
 ·rw[iZ];exact kP _ ν
 ·rw[iZ];exact kP _ ν
def Ut(hb:b<0):me a b (a.fdiv (-(cO a b:Nat))) (b.fdiv (-(cO a b:Nat))):=by
 have h:=YY (a:=-a) (b:=-b) ν;have e:cO (-a) (-b)=cO a b:=by rw[Int.neg_gcd,Int.gcd_neg]
 rw[e] at h;have f:∀x g:Int,(-x).fdiv g=x.fdiv (-g):=λx g=>by
  have:=Int.neg_fdiv_neg (-x) g;rw[Int.neg_neg] at this;exact this.symm
 rw[f,f] at h;refine⟨h.pos,h.cop,?_,qz3 h.lea,qz3 h.leb⟩;have w:=h.worth;rw[Int.mul_neg,MZ] at w;exact Int.neg_inj.mp w
def pC:FD:=λds Q=>∃a b:Int,ds=[.int a,.int b]/\(b≠0/\BL 9000 b)/\∀p q,me a b p q->Q (fr p q)
def He:τ pC (Dw BS) ["top","bottom","divisor"]:=by
 rintro ds Q ⟨a,b,rfl,⟨h0,hb⟩,q⟩;rw[cK 1 rfl];unfold Dw;nofun;rw[υ h0];refine⟨a,b,rfl,?_⟩;have hg:=PC (a:=a) h0;have bg:=BL.gcd (a:=a) h0 hb;nofun;split
 ·rename_i e_;refine⟨bg.neg.divOk ν,bg.neg.divOk ν,q _ _ (Ut e_)⟩
 ·rename_i e_;refine⟨bg.divOk ν,bg.divOk ν,q _ _ (YY ν)⟩
def Xa(f:Int->Int->Int->Int->Int):FD:=λds Q=>∃a b c d:Int,ds=[fr a b,fr c d]/\(0<b/\0<d)/\(BL 4000 a/\BL 4000 b/\BL 4000 c/\BL 4000 d)/\∀p q,me (f a b c d) (b*d) p q->Q (fr p q)
abbrev qO:FD:=Xa λa b c d=>a*d+c*b
abbrev wJ:FD:=Xa λa b c d=>a*c
def Mr:τ qO (Jy pC) ["one","other"]:=by
 rintro ds Q ⟨a,b,c,d,rfl,⟨h1,h2⟩,⟨ba,bb,bc,bd⟩,q⟩;rw[cK 0 rfl];unfold Jy;nofun;refine⟨ba.mulOk bd,bc.mulOk bb,bb.mulOk bd,_,_,rfl,⟨rS (aJ h1 h2),(bb.mul bd).mono⟩,q⟩
def Hi:τ wJ (Dz pC) ["one","other"]:=by
 rintro ds Q ⟨a,b,c,d,rfl,⟨h1,h2⟩,⟨ba,bb,bc,bd⟩,q⟩;rw[cK 0 rfl];unfold Dz;nofun;refine⟨ba.mulOk bc,bb.mulOk bd,_,_,rfl,⟨rS (aJ h1 h2),(bb.mul bd).mono⟩,q⟩
def VO:FD:=λds Q=>∃a b:Int,ds=[.int a,.int b]/\(0<b/\BL 9000 b)/\∀p q,me a b p q->Q (fr p q)
def IE:FD:=λds Q=>∃a:Int,ds=[.int a]/\Q (.bl ζ)
def SY:τ IE GC ["_law_found"]:=by
 rintro ds Q ⟨a,rfl,q⟩;rw[cK 0 rfl];unfold GC;nofun;exact q
def fQ{a b:Int}(h:0<b):0<=a.fmod b/\a.fmod b<b:=⟨Int.fmod_nonneg_of_pos a h,Int.fmod_lt_of_pos a h⟩
def Ul:∀ds Q,Nk 63 ds Q->ds.length=1:=by rintro ds Q ⟨a,rfl,_⟩;rfl
theorem jG(J:ω D->En->Prop)
  (step:∀x xs a,J (x::xs) a->∀F:j8,F.rt=E.rt->F.bk=E.nx->(∀a',J xs a'->F.nx a')->(∀a',J xs a'->F.ct a')->g x a λa1=>t F a1) (last:∀a,J [] a->E.nx a):∀xs a,J xs a->Bk g t xs E a
 | [],a,h=>last a h
 |x::xs,a,h=>step x xs a h _ rfl rfl (λa' h'=>jG J step last xs a' h') λa' h'=>jG J step last xs a' h'
theorem Ar{α:Type}(R:En->Prop)(g9 f:α->D):∀(src:ω α){Q:ω D->Prop},(∀a∈src,∀c,R c->∀K:En->D->Prop,(∀c1,R c1->K c1 (f a))->g (g9 a) c λc1=>te c1 λd=>K c1 d) ->
  ∀(c:En)(acc:ω D),R c->Q (acc++src.map f)->yF g te (src.map g9) c acc Q
 | [],Q,_,c,acc,_,q=>by
  show Q acc;simpa using q
 |a::src,Q,step,c,acc,h,q=>by
  show g (g9 a) c λc'=>te c' λd=>yF g te (src.map g9) c' (acc++[d]) Q;refine step a dU c h (λc1 d=>yF g te (src.map g9) c1 (acc++[d]) Q) λc1 h1=>?_;exact Ar R g9 f src (λb hb=>step b (bH _ hb)) c1 _ h1 (by simpa using q)
def vW{α:Type}(R:En->Prop)(g9 f:α->D)(src:ω α)(step:∀a∈src,∀b,R b->∀K:En->D->Prop,(∀b1,R b1->K b1 (f a))->g (g9 a) b λb1=>te b1 λd=>K b1 d)
  (h:R b) (q:Q (src.map f)):yF g te (src.map g9) b [] Q:=Ar R g9 f src step b [] h (by simpa using q)
abbrev il(ns:ω Int):D:=.lst (ns.map .int)
abbrev pt(p:Int×Int):D:=.tup [.int p.1,.int p.2]
abbrev fv(ps:ω (Int×Int)):D:=.lst (ps.map pt)
def mX(h:n<=100000):Sz n:=⟨fR h η⟩
abbrev big:Int:=1000000000000000000000000000000000000000000000000000000000007
structure Drawn(m:Nat)(xs:List Int):Prop where
 len:xs.length=m
 lo:∀x∈xs,0<=x
 hi:∀x∈xs,x<big
def Hq{lo:Int}:(uG lo n).length=n:=by simp[uG]
def Ah{α:Type}{xs:ω α}{x:α}(h:xs.getLast? = ψ x):jm xs (-1)=ψ x:=by
 have gy:xs≠[]:=λe=>by rw[e] at h;cases h
 have hl:0<xs.length:=jT.mpr gy;unfold jm n9;rw[υ η,Ω ν];rw[List.getLast?_eq_getElem?] at h;show xs[((-1:Int)+(xs.length:Int)).toNat]?=ψ x;rw[<-h,qz6]
abbrev aff(p q r s ox oy:Int)(z:Int×Int):Int×Int:=(p*z.1+q*z.2+ox,r*z.1+s*z.2+oy)
def eO(R:En)(h1:∀K:En->Prop,K R->t {E with nx:=K} a)(h2:u E R):cW t u E a:=h1 (u E) h2
def dI(I:En->Prop)(h1:∀K:En->Prop,(∀a',I a'->K a')->t {E with nx:=K} a)(h2:∀a',I a'->u E a'):cW t u E a:=h1 (u E) h2
def Te:FD:=λds Q=>∃n:Int,ds=[.int n]/\∀s,1<=s->s<=1000000000->Q (.int s)
def Mo:τ Te AW ["_law_number"]:=by
 rintro ds Q ⟨n,rfl,q⟩;rw[cK 0 rfl];unfold AW;nofun;walk_at "sides";obtain⟨a0,a1⟩:=fQ (a:=n) (b:=3) η;obtain⟨b0,b1⟩:=fQ (a:=n.fdiv 3) (b:=12) η;obtain⟨c0,c1⟩:=fQ (a:=n.fdiv 3) (b:=1000000000) η;refine YG a0 (by simpa using a1) λx hx=>?_;simp only[aO,eM,or_false] at hx;rcases hx with rfl |rfl |rfl
 ·exact q _ η η
 ·exact q _ ν ν
 ·exact q _ ν ν
def KD:τ VO (yT BS) ["_law_top","_law_bottom","_law_most"]:=by
 rintro ds Q ⟨a,b,rfl,⟨h0,hb⟩,q⟩;rw[cK 1 rfl];unfold yT;nofun;refine⟨a,b,rfl,?_⟩;have hg:=PC (a:=a) (b:=b) ν;have bg:=BL.gcd (a:=a) (b:=b) ν hb;nofun;exact⟨bg.divOk ν,bg.divOk ν,q _ _ (YY h0)⟩
structure k8(share:Int)(cs:List (Int×Int))(m sh:Int)(ds:List (Int×Int))(j:Nat):Prop where
 mpos:0<m
 sh_eq:share=m*sh
 cs_eq:cs=ds.map λz=>(m*z.1,m*z.2)
 j_lt:j<ds.length
 least:∀z∈ds,∀w,ds[j]?=ψ w->HT.lexLt [z.1,z.2] [w.1,w.2]=χ
 cop:∀d:Nat,(d:Int)∣sh->(∀z∈ds,(d:Int)∣z.1/\(d:Int)∣z.2)->d=1
abbrev turned{α:Type}(j:Nat)(ds:ω α):ω α:=ds.drop j++ds.take j
def VN:FD:=λds Q=>∃(share:Int)(cs:ω (Int×Int)),ds=[.int share,fv cs]/\(0<share/\BL 100 share)/\(cs≠[]/\cs.length<=100) /\
 ∀m sh zs j,k8 share cs m sh zs j->Q (.tup [.int sh,.tup ((turned j zs).map pt)])
structure gj(share:Int)(zs:List (Int×Int))(g:Nat):Prop where
 pos:0<g
 sh:(g:Int)∣share
 all:∀z∈zs,(g:Int)∣z.1/\(g:Int)∣z.2
 most:∀d:Nat,(d:Int)∣share->(∀z∈zs,(d:Int)∣z.1/\(d:Int)∣z.2)->d∣g
def gj.bl(h:gj share zs g)(hs:0<share)(b:BL n share):BL n (g:Int):=by
 refine b.le ?_;have:=xH hs h.sh;lia
def gj.snoc(h:gj share zs g)(z:Int×Int):gj share (zs++[z]) (cO (cO g z.1:Nat) z.2):=by
 have d1:((cO (cO g z.1:Nat) z.2:Nat):Int)∣((cO g z.1:Nat):Int):=nM ..;have d2:((cO g z.1:Nat):Int)∣(g:Int):=nM ..;have d3:((cO g z.1:Nat):Int)∣z.1:=mP ..;have d4:((cO (cO g z.1:Nat) z.2:Nat):Int)∣z.2:=mP ..;have dg:=lH d1 d2;refine⟨?_,lH dg h.sh,λw hw=>?_,λd e1 e2=>?_⟩
 ·have:=h.pos;have h1:0<cO g z.1:=lD _ ν;exact lD _ ν
 ·rcases bQ.mp hw with h' |h'
  ·obtain⟨a,b⟩:=h.all w h';exact⟨lH dg a,lH dg b⟩
  ·rw[cJ.mp h'];exact⟨lH d1 d3,d4⟩
 ·obtain⟨a,b⟩:=e2 z δ;have:=h.most d e1 λw hw=>e2 w (dC _ hw);have h1:(d:Int)∣((cO g z.1:Nat):Int):=NW (by exact_mod_cast this) a
  exact_mod_cast NW h1 b
def WC{xs:ω D}{j:Nat}(h:j<=xs.length):cutD xs (ψ (j:Int)) ξ=xs.drop j:=by
 unfold cutD;rw[HT.sIx_nat,HT.sIx_none,OA h,oD δ]
def Ip{xs:ω D}{j:Nat}(h:j<=xs.length):cutD xs ξ (ψ (j:Int))=xs.take j:=by
 unfold cutD;rw[HT.sIx_nat,HT.sIx_none,OA h];simp
def YO(z w:Int×Int):fo 6 (pt z) (pt w)=ψ (decide (z=w)):=by
 obtain⟨a,b⟩:=z;obtain⟨c,d⟩:=w;simp only[fo,js];congr 1;by_cases h1:a=c <;> by_cases h2:b=d <;> simp[h1,h2]
def ZM:τ VN (NK BS) ["_law_share_here","_law_ring_here","_law_most","_law_x","_law_y","_law_corners","_law_at"]:=by
 rintro ds Q ⟨share,cs,rfl,⟨hs,bs⟩,⟨gy,hlen⟩,q⟩;rw[cK 5 rfl];unfold NK;simp only[gQ,Mu,aR,bO,aW,bF];refine eO [ae (.int share),ae (fv cs),ae (.int share),ξ,ξ,ξ,ξ] (λK hK=>?_) ?_
 ·nofun;exact hK
 refine dI (λc=>∃(g:Nat)(x y:Option S),gj share cs g/\c=[ae (.int share),ae (fv cs),ae (.int g),x,y,ξ,ξ]) (λK hK=>?_) ?_
 ·nofun;refine jG (λxs c=>∃(done rest:ω (Int×Int))(g:Nat)(x y:Option S),cs=done++rest/\xs=rest.map pt/\gj share done g/\c=[ae (.int share),ae (fv cs),ae (.int g),x,y,ξ,ξ]) ?_ ?_ _ _ ⟨[],cs,share.toNat,ξ,ξ,rfl,rfl,⟨ν,?_,δ,λd e1 _=>?_⟩,?_⟩
  ·rintro x xs c ⟨done,rest,g,u,v,e,ex,hg,rfl⟩ F _ _ hn _;cases rest with
   |nil=>cases ex
   |cons z rest=>
    cases ex;unfold DX;nofun;refine⟨_,_,rfl,_,_,rfl,?_⟩;exact hn _ ⟨done++[z],rest,_,_,_,by simpa using e,rfl,hg.snoc z,rfl⟩
  ·rintro c ⟨done,rest,g,u,v,e,ex,hg,rfl⟩;have:rest=[]:=(by simpa using ex.symm);subst this;rw[eH] at e;subst e;exact hK _ ⟨g,u,v,hg,rfl⟩
  ·have:(share.toNat:Int)=share:=ν;rw[this];exact pW _
  ·have:(share.toNat:Int)=share:=ν
   exact_mod_cast (by rw[this];exact e1:(d:Int)∣(share.toNat:Int))
  ·have:(share.toNat:Int)=share:=ν;rw[this]
 rintro c ⟨g,x,y,hg,rfl⟩;have gp:(0:Int)<g:=by have:=hg.pos;lia
 have gb:BL 9000 (g:Int):=(hg.bl hs bs).mono;obtain⟨zs,ez⟩:∃zs,zs=cs.map λz=>(z.1 / (g:Int),z.2 / (g:Int)):=⟨_,rfl⟩;have ec:cs=zs.map λz=>((g:Int)*z.1,(g:Int)*z.2):=by
  rw[ez,dF];symm
  conv=>rhs;rw[<-mR cs]
  refine kY λz hz=>?_;obtain⟨a,b⟩:=hg.all z hz;simp only[FH,id,jJ a,jJ b]
 refine dI (λc=>c=[ae (.int share),ae (fv cs),ae (.int g),x,y,ψ (.own (zs.map pt)),ξ]) (λK hK=>?_) ?_
 ·nofun;refine⟨mX θ,?_⟩;refine vW (λc=>∃a b,c=[a,b,ae (.int g)]) pt (λz=>pt (z.1 / (g:Int),z.2 / (g:Int))) cs ?_ ⟨_,_,rfl⟩ ?_
  ·rintro z hz c ⟨a,b,rfl⟩ K' k7;nofun;refine⟨gb.divOk ν,gb.divOk ν,?_⟩;rw[cS _ ν,cS _ ν];exact k7 _ ⟨_,_,rfl⟩
  ·refine hK _ ?_;rw[ez,dF];rfl
 rintro c rfl;have lz:zs.length=cs.length:=by rw[ez];simp
 have hz:zs≠[]:=by intro e;rw[e] at lz;exact gy (nO.mp lz.symm)
 refine dI (λc=>∃j:Nat,(j<zs.length/\∀z∈zs,∀w,zs[j]?=ψ w->HT.lexLt [z.1,z.2] [w.1,w.2]=χ)/\c=[ae (.int share),ae (fv cs),ae (.int g),x,y,ψ (.own (zs.map pt)),ae (.int j)]) (λK hK=>?_) ?_
 ·nofun;refine⟨⟨_,rfl⟩,zs.map λz=>[z.1,z.2],by rw[dF];rfl,by simpa using hz,λM hM hmin=>?_⟩;obtain⟨w,hw,rfl⟩:=bG.mp hM;have e_:zs.findIdx (λz=>decide (z=w))<zs.length:=List.findIdx_lt_length_of_exists ⟨w,hw,δ⟩;have hat:=List.findIdx_getElem (w:=e_);have zg:zs[zs.findIdx (λz=>decide (z=w))]=w:=by simpa using hat
  refine⟨zs.findIdx (λz=>decide (z=w)),⟨pt w,?_,?_⟩,λi d hi ed=>?_,λd hd=>?_,hK _ ⟨_,⟨e_,λz hz v ev=>?_⟩,rfl⟩⟩
  ·rw[cG,aG e_,zg];rfl
  ·show fo 6 (pt w) (pt w)=_;rw[YO];simp
  ·rw[cG] at ed;cases e:zs[i]? with
   |none=>rw[e] at ed;cases ed
   |some z=>
    rw[e] at ed;cases ed;show fo 6 (pt z) (pt w)=_;have hil:i<zs.length:=(cB.mp e).1;have:=List.not_of_lt_findIdx hi;rw[YO];have e2:zs[i]=z:=(by rw[aG hil] at e;exact eK e);rw[e2] at this;simpa using this
  ·obtain⟨z,_,rfl⟩:=bG.mp hd;exact⟨_,YO z w⟩
  ·rw[aG e_,zg] at ev;cases ev;exact hmin _ (bG.mpr ⟨z,hz,rfl⟩)
 rintro c ⟨j,⟨hj,w9⟩,rfl⟩;nofun;have lm:(zs.map pt).length=zs.length:=δ
 rw[WC ν,Ip ν];refine⟨gb.divOk ν,mX θ,?_⟩;rw[cS _ ν];have:=q g (share / g) zs j ⟨gp,(jJ hg.sh).symm,ec,hj,w9,λd e1 e2=>?_⟩
 ·rw[cI,List.map_drop,kB] at this;exact this
 ·have h1:((g*d:Nat):Int)∣share:=by
   rw[<-jJ hg.sh]
   push_cast
   exact AI (pW _) e1
  have h2:=hg.most (g*d) h1 λz hz=>by
   rw[ec] at hz;obtain⟨w,hw,rfl⟩:=bG.mp hz;obtain⟨a,b⟩:=e2 w hw
   push_cast
   exact⟨AI (pW _) a,AI (pW _) b⟩
  have h3:=xJ hg.pos h2;have h4:d≠0:=λe=>by
   subst e;simp at h2;have:=hg.pos;lia
  have h5:=hg.pos;rcases Nat.lt_or_ge 1 d with h |h
  ·have:g*2<=g*d:=FE _ h;lia
  ·lia
def BP(z:Pt):Prop:=BL 20000 z.1/\BL 20000 z.2
def zC:FD:=λds Q=>∃a b c:Pt,ds=[pt a,pt b,pt c]/\(BP a/\BP b/\BP c)/\Q (.int (bZ a b c))
def Ms:τ zC Jz ["one","middle","other","along","across"]:=by
 rintro ds Q ⟨a,b,c,rfl,⟨ba,bb,bc⟩,q⟩;rw[cK 2 rfl];unfold Jz;nofun;exact⟨(bb.1.sub ba.1).mulOk (bc.2.sub ba.2),(bb.2.sub ba.2).mulOk (bc.1.sub ba.1),q⟩
def Ez:FD:=λds Q=>∃ps:ω Pt,ds=[fv ps]/\(∀z∈ps,BP z)/\ps.length<=900/\Q (fv (uN ps))
def Nw{α:Type}(xs:ω α)(x:α):jm (xs++[x]) (-1)=ψ x:=by
 unfold jm n9;rw[υ η,Ω θ];have:((-1:Int)+((xs++[x]).length:Nat)).toNat=xs.length:=θ
 simp only[this,LG];simp
def Nx{α:Type}(xs:ω α)(x y:α):jm (xs++[x,y]) (-2)=ψ x:=by
 unfold jm n9;rw[υ η,Ω θ];have:((-2:Int)+((xs++[x,y]).length:Nat)).toNat=xs.length:=θ
 simp only[this,LG];simp
theorem RQ(E:j8)(u:Option S)(p:Pt)(hp:BP p):∀s:ω Pt,(∀z∈s,BP z)->E.nx [u,ψ (.own ((kN p s).reverse.map pt)),ae (pt p)] ->
  DU (OR (dZ (r2 (pQ λi j=>decide (j<i)) (r1 sB (aQ 1)) (am 1))) (dZ (r2 (pQ λi j=>decide (i<=j)) (cH zC (aD (r2 ci (aQ 1) (r1 xO (am 2))) (aD (r2 ci (aQ 1) (r1 xO (am 1))) (aD (bV 2) aV)))) (am 0)))) qG E [u,ψ (.own (s.reverse.map pt)),ae (pt p)]
 | [],_,h=>by
  refine⟨1,?_⟩;unfold pV;nofun;simp;exact h
 | [x],_,h=>by
  refine⟨1,?_⟩;unfold pV;nofun;simp;exact h
 |b::a::r,hs,h=>by
  have ea:((b::a::r).reverse.map pt)=(r.reverse.map pt)++[pt a,pt b]:=δ
  have eb:((b::a::r).reverse.map pt)=((a::r).reverse.map pt)++[pt b]:=δ
  have i2:=Nx (r.reverse.map pt) (pt a) (pt b);have i1:=Nw ((a::r).reverse.map pt) (pt b);rw[<-ea] at i2;rw[<-eb] at i1;by_cases ht:bZ a b p<=0
  ·have e:kN p (b::a::r)=kN p (a::r):=(by rw[kN,Ω ht]);rw[e] at h;obtain⟨n,hn⟩:=RQ E u p hp (a::r) (λz hz=>hs z (bH _ hz)) h;refine⟨n+1,?_⟩;unfold pV;generalize hW:pV (OR (dZ (r2 (pQ λi j=>decide (j<i)) (r1 sB (aQ 1)) (am 1))) (dZ (r2 (pQ λi j=>decide (i<=j)) (cH zC (aD (r2 ci (aQ 1) (r1 xO (am 2))) (aD (r2 ci (aQ 1) (r1 xO (am 1))) (aD (bV 2) aV)))) (am 0)))) qG n E=W at hn;nofun;rw[Ω θ];refine zV i2 (zV i1 ⟨a,b,p,rfl,⟨hs a δ,hs b δ,hp⟩,?_⟩);show if bZ a b p<=0 then _ else _;rw[Ω ht];unfold qG;nofun;refine⟨δ,?_⟩;rw[eb,kE];exact hn
  ·have e:kN p (b::a::r)=b::a::r:=(by rw[kN,υ ht]);rw[e] at h;refine⟨1,?_⟩;unfold pV;nofun;rw[Ω θ];refine zV i2 (zV i1 ⟨a,b,p,rfl,⟨hs a δ,hs b δ,hp⟩,?_⟩);show if bZ a b p<=0 then _ else _;rw[υ ht];exact h
def Cv(p:Pt)(s:ω Pt):(kN p s).length<=s.length:=(yO p s).length_le
def ON:τ Ez (GD zC) ["points","chain","point"]:=by
 rintro ds Q ⟨ps,rfl,hb,hl,q⟩;rw[cK 2 rfl];unfold GD;simp only[gQ,Hr,aR,bO,aW,bF];refine eO [ae (fv ps),ψ (.own []),ξ] (λK hK=>?_) ?_
 ·nofun;exact hK
 refine dI (λa=>∃x:Option S,a=[ae (fv ps),ψ (.own ((lB ps).reverse.map pt)),x]) (λK hK=>?_) ?_
 ·nofun;refine jG (λxs a=>∃(done rest:ω Pt)(x:Option S),ps=done++rest/\xs=rest.map pt/\a=[ae (fv ps),ψ (.own ((lB done).reverse.map pt)),x]) ?_ ?_ _ _ ⟨[],ps,ξ,rfl,rfl,rfl⟩
  ·rintro x xs a ⟨done,rest,u,e,ex,rfl⟩ F _ _ hn _;cases rest with
   |nil=>cases ex
   |cons z rest=>
    cases ex;have bd:∀w∈done,BP w:=λw hw=>hb w (by rw[e];simp[hw]);have bz:BP z:=hb z (by rw[e];simp);have ld:done.length<ps.length:=(by rw[e];simp);have sub:∀(L s:ω Pt),(∀q∈L.foldl (λs p=>p::kN p s) s,q∈L\/q∈s)/\(L.foldl (λs p=>p::kN p s) s).length<=L.length+s.length:=by
     intro L
     induction L with
     |nil=>intro s;exact⟨λq h=>cX h,δ⟩
     |cons y L ih=>
      intro s;obtain⟨i1,i2⟩:=ih (y::kN y s);refine⟨λq h=>?_,?_⟩
      ·rcases i1 q h with h |h
       ·exact dA (by simp[h])
       ·rcases aO.mp h with h |h
        ·exact dA (by simp[h])
        ·exact cX ((yO y s).subset h)
      ·have:=Cv y s;simp only[tZ,bP] at i2⊢;lia
    obtain⟨s1,s2⟩:=sub done [];unfold yX;simp only[cY,aM,aP];refine RQ _ _ z bz (lB done) (λw hw=>?_) ?_
    ·rcases s1 w hw with h |h
     ·exact bd w h
     ·cases h
    ·nofun;have l1:=Cv z (lB done);have l2:(lB done).length<=done.length:=(by simpa [lB] using s2);refine⟨⟨Jf θ⟩,hn _ ⟨done++[z],rest,ae (pt z),by simpa using e,rfl,?_⟩⟩;unfold lB;simp
  ·rintro a ⟨done,rest,u,e,ex,rfl⟩;have:rest=[]:=(by simpa using ex.symm);subst this;rw[eH] at e;subst e;exact hK _ ⟨u,rfl⟩
 rintro a ⟨x,rfl⟩;nofun;have e:cutD ((lB ps).reverse.map pt) ξ (ψ (-1))=(uN ps).map pt:=by
  unfold cutD uN;rw[List.map_dropLast];generalize (lB ps).reverse.map pt=xs;have h1:HT.sIx xs.length 0 ξ=0:=rfl;have h2:HT.sIx xs.length xs.length (ψ (-1))=xs.length-1:=by
   unfold HT.sIx;simp[qz6]
  rw[h1,h2,QI,zL,List.dropLast_eq_take]
 rw[e];exact q
def Um(z w:Pt):pS [z.1,z.2] [w.1,w.2]=decide (bB z w):=by
 unfold bB;simp only[pS];by_cases h:z.1=w.1
 ·rw[Ω h];by_cases h2:z.2=w.2
  ·rw[Ω h2];simp[h,h2]
  ·rw[υ h2];simp[h]
 ·rw[υ h];simp[h]
def yB:FD:=λds Q=>∃ps:ω Pt,ds=[fv ps]/\(∀z∈ps,BP z)/\ps.length<64/\∀D r:ω Pt,h_ D->(∀z,z∈D↔z∈ps)->(2<=D.length->r=FX D)->(D.length<=1->r.length<3)->r.length<=200->Q (fv r)
def ZN:τ yB (TJ Ez) ["points","rising"]:=by
 rintro ds Q ⟨ps,rfl,hb,hl,q⟩;rw[cK 1 rfl];unfold TJ;nofun;unfold TC TB;nofun;refine⟨ps.map λz=>[z.1,z.2],by rw[dF];rfl,by simpa using hl,λns h=>?_,λmss hs hm hlen=>?_⟩
 ·obtain⟨z,_,rfl⟩:=bG.mp h;simp
 obtain⟨L,hL⟩:∃L:ω Pt,mss=L.map λz=>[z.1,z.2]:=by
  have:∀ms∈mss,∃z:Pt,ms=[z.1,z.2]:=λms h=>by
   obtain⟨z,_,e⟩:=bG.mp ((hm ms).mp h);exact⟨z,e.symm⟩
  clear hs hm hlen
  induction mss with
  |nil=>exact⟨[],rfl⟩
  |cons m mss ih=>
   obtain⟨L,e⟩:=ih λms h=>this ms (bH _ h);obtain⟨z,e2⟩:=this m δ;exact⟨z::L,by rw[e,e2];rfl⟩
 subst hL;have inj:∀z w:Pt,[z.1,z.2]=[w.1,w.2]->z=w:=λz w h=>by simp at h;exact lV h.1 h.2
 have Fn:∀z,z∈L↔z∈ps:=λz=>by
  have:=hm [z.1,z.2];constructor
  ·intro h;obtain⟨w,hw,e⟩:=bG.mp (this.mp (bG.mpr ⟨z,h,rfl⟩));rw[<-inj _ _ e];exact hw
  ·intro h;obtain⟨w,hw,e⟩:=bG.mp (this.mpr (bG.mpr ⟨z,h,rfl⟩));rw[<-inj _ _ e];exact hw
 have wL:Fh L:=by
  unfold Fh;refine(pG.mp hs).imp λ{a b} h=>?_;rw[Um] at h;simpa using h
 have eL:D.lst (qS pB (qS (λz:Pt=>[z.1,z.2]) L))=fv L:=by rw[dF];rfl
 have lL:L.length<=63:=by simp at hlen;lia
 have bL:∀z∈L,BP z:=λz hz=>hb z ((Fn z).mp hz);obtain⟨D,HD⟩:=Po L wL;obtain⟨o1,o2⟩:=Bg wL HD.inc HD.mem;have h1:∀M:ω Pt,(uN M).length<=M.length:=λM=>by
  unfold uN;have:=Qa M;simp;lia
 rw[eL];refine⟨L,rfl,bL,ν,L.map pt,rfl,L.reverse,by rw[<-LA],λz hz=>bL z (qA.mp hz),θ,?_⟩;have a1:=h1 L;have a2:=h1 L.reverse;rw[uL] at a2;show Sz (((uN L).map pt).length+((uN L.reverse).map pt).length)/\Q (.lst ((uN L).map pt++(uN L.reverse).map pt));refine⟨⟨Jf θ⟩,?_⟩;rw[<-cI];exact q D (FX L) HD.inc (λz=>(HD.mem z).trans (Fn z)) o1 o2 (by unfold FX;simp;lia)
structure gk(share:Int)(cs:List Pt)(m sh:Int)(zs:List Pt):Prop where
 mpos:0<m
 sh_eq:share=m*sh
 cs_eq:cs=zs.map λz=>(m*z.1,m*z.2)
 cop:∀d:Nat,(d:Int)∣sh->(∀z∈zs,(d:Int)∣z.1/\(d:Int)∣z.2)->d=1
def xR(ha:0<a)(hb:0<b)(e:a*x=b*y):a / (cO a b:Nat)∣y:=by
 have hg:(0:Int)<(cO a b:Nat):=by
  have:=lD (a:=a) b ν;lia
 obtain⟨a',ea⟩:((cO a b:Nat):Int)∣a:=nM ..;obtain⟨b',eb⟩:((cO a b:Nat):Int)∣b:=mP ..;have e1:a / (cO a b:Nat)=a':=by
  have:a / ((cO a b:Nat):Int)=(((cO a b:Nat):Int)*a') / ((cO a b:Nat):Int):=Φ (· / ((cO a b:Nat):Int)) ea;rw[this,gJ _ ν]
 have e2:b / (cO a b:Nat)=b':=by
  have:b / ((cO a b:Nat):Int)=(((cO a b:Nat):Int)*b') / ((cO a b:Nat):Int):=Φ (· / ((cO a b:Nat):Int)) eb;rw[this,gJ _ ν]
 have cop:cO a' b'=1:=by
  have:=wH (i:=a) (j:=b) (by have:=hg;lia);rw[e1,e2] at this;exact this
 rw[e1];have h:a'*x=b'*y:=by
  have:((cO a b:Nat):Int)*(a'*x)=((cO a b:Nat):Int)*(b'*y):=by
   rw[<-lI,<-lI,<-ea,<-eb];exact e
  exact cV ν this
 have d:a'∣b'*y:=⟨x,h.symm⟩;have d2:a'.natAbs∣b'.natAbs*y.natAbs:=by rw[<-iZ];exact oS.mpr d
 exact oS.mp (sL (show Nat.Coprime a'.natAbs b'.natAbs from cop) d2)
def WQ{a b sh cf:Int}{zs qd:ω Pt}(ha:0<a)(hb:0<b)(e1:a*sh=b*cf)(e2:zs.map (λz=>(a*z.1,a*z.2))=qd.map λz=>(b*z.1,b*z.2))
  (cop:∀d:Nat,(d:Int)∣cf->(∀z∈qd,(d:Int)∣z.1/\(d:Int)∣z.2)->d=1):a∣b:=by
 have len:zs.length=qd.length:=by have:=Φ eW e2;simpa using this
 have hg:(0:Int)<(cO a b:Nat):=by
  have:=lD (a:=a) b ν;lia
 obtain⟨a',ea⟩:((cO a b:Nat):Int)∣a:=nM ..;have e0:a / (cO a b:Nat)=a':=by
  have:a / ((cO a b:Nat):Int)=(((cO a b:Nat):Int)*a') / ((cO a b:Nat):Int):=Φ (· / ((cO a b:Nat):Int)) ea;rw[this,gJ _ ν]
 have pa:0<a':=by
  apply fG.mp;intro hn;have:((cO a b:Nat):Int)*a'<=0:=eU ν hn;lia
 have one:=cop a'.toNat (by
  rw[FA ν,<-e0];exact xR ha hb e1) λz hz=>by
  rw[FA ν,<-e0];obtain⟨i,hi,rfl⟩:=eB hz;have jx:i<zs.length:=ν
  have ei:(zs.map λz=>(a*z.1,a*z.2))[i]?=(qd.map λz=>(b*z.1,b*z.2))[i]?:=by rw[e2]
  rw[cG,cG,aG hi,aG jx] at ei;simp only[qX,sA,fK] at ei;exact⟨xR ha hb ei.1,xR ha hb ei.2⟩
 have:a'=1:=ν
 rw[this,rN] at ea;rw[ea];exact mP ..
def NI{a b sh cf:Int}{zs qd:ω Pt}(ha:0<a)(hb:0<b)(e1:a*sh=b*cf)(e2:zs.map (λz=>(a*z.1,a*z.2))=qd.map λz=>(b*z.1,b*z.2))
  (c1:∀d:Nat,(d:Int)∣sh->(∀z∈zs,(d:Int)∣z.1/\(d:Int)∣z.2)->d=1) (c2:∀d:Nat,(d:Int)∣cf->(∀z∈qd,(d:Int)∣z.1/\(d:Int)∣z.2)->d=1):sh=cf/\zs=qd:=by
 have h1:=WQ ha hb e1 e2 c2;have h2:=WQ hb ha e1.symm e2.symm c1;have dq:a=b:=Int.le_antisymm (xH hb h1) (xH ha h2);subst dq;refine⟨cV ν e1,?_⟩;have len:zs.length=qd.length:=by have:=Φ eW e2;simpa using this
 apply KZ len;intro i hi jx;have ei:(zs.map λz=>(a*z.1,a*z.2))[i]?=(qd.map λz=>(a*z.1,a*z.2))[i]?:=by rw[e2]
 rw[cG,cG,aG hi,aG jx] at ei;simp only[qX,sA,fK] at ei;exact lV (cV ν ei.1) (cV ν ei.2)
def gk.same(h:gk share cs m sh zs)(h':gk xt cs' m' cf qd)(hk:0<k)(hk':0<k')(e1:k*share=k'*xt)(e2:cs.map (λz=>(k*z.1,k*z.2))=cs'.map λz=>(k'*z.1,k'*z.2)):sh=cf/\zs=qd:=by
 refine NI (a:=k*m) (b:=k'*m') (aJ hk h.mpos) (aJ hk' h'.mpos) ?_ ?_ h.cop h'.cop
 ·rw[lI,lI,<-h.sh_eq,<-h'.sh_eq];exact e1
 ·rw[h.cs_eq,h'.cs_eq,dF,dF] at e2;simp only[Function.comp_def,<-lI] at e2;exact e2
structure wf(ps:List Pt)(z:Pt)(T:List Pt):Prop where
 cvx:b_ (z::T)
 least:∀q∈T,¬bB q z
 mem:∀q∈z::T,q∈ps
 left:∀a b,az (z::T) a b->∀q∈ps,0<=bZ a b q
def Q9(ps:ω Pt):Prop:=∀D,h_ D->(∀z,z∈D↔z∈ps)->2<=D.length->(FX D).length<3
def rL:FD:=λds Q=>∃(share:Int)(ps:ω Pt),ds=[.int share,fv ps]/\(0<share/\BL 9000 share)/\(∀z∈ps,BP z)/\ps.length<64 /\
 ((∃z T,wf ps z T/\∀m sh zs,gk share (z::T) m sh zs->Q (.tup [.int sh,.tup (zs.map pt)]))\/(Q9 ps/\Q .non))
def ZO:τ rL (TK yB BS) ["share","points","corners","divisor","x","y"]:=by
 rintro ds Q ⟨share,ps,rfl,⟨hs,bs⟩,hb,hl,hq⟩;rw[cK 4 rfl];unfold TK;simp only[gQ,Eb,aR,bO,aW,bF];refine dI (λf=>∃r:ω Pt,r.length<=200/\((r.length<3/\Q .non)\/(3<=r.length/\∀m sh zs,gk share r m sh zs->Q (.tup [.int sh,.tup (zs.map pt)])))/\f=[ae (.int share),ae (fv ps),ae (fv r),ξ,ξ,ξ]) (λK hK=>?_) ?_
 ·nofun;refine⟨ps,rfl,hb,hl,λD r iD hm h2 h1 hr=>hK _ ⟨r,hr,?_,rfl⟩⟩;rcases hq with⟨z,T,R,q⟩ | ⟨fl,q⟩
  ·have sub:3<=D.length:=by
    have:=xT (z::T) D R.cvx.nodup λx hx=>(hm x).mpr (R.mem x hx);have:=R.cvx.len;lia
   have e:=AE (L:=ps) iD R.cvx R.least (λx hx=>(hm x).mpr (R.mem x hx)) λa b dq x hx=>R.left a b dq x ((hm x).mp hx);have er:=h2 ν;rw[e] at er;subst er;exact cX ⟨R.cvx.len,q⟩
  ·refine dA ⟨?_,q⟩;by_cases hd:2<=D.length
   ·rw[h2 hd];exact fl D iD hm hd
   ·exact h1 ν
 rintro f ⟨r,hr,hq,rfl⟩;rcases hq with⟨h3,q⟩ | ⟨h3,q⟩
 ·nofun;rw[Ω θ];exact q
 refine eO [ae (.int share),ae (fv ps),ae (fv r),ξ,ξ,ξ] (λK hK=>?_) ?_
 ·nofun;rw[υ θ];exact hK
 refine eO [ae (.int share),ae (fv ps),ae (fv r),ae (.int share),ξ,ξ] (λK hK=>?_) ?_
 ·nofun;exact hK
 refine dI (λf=>∃(g:Nat)(x y:Option S),gj share r g/\f=[ae (.int share),ae (fv ps),ae (fv r),ae (.int g),x,y]) (λK hK=>?_) ?_
 ·nofun;refine jG (λxs f=>∃(done rest:ω Pt)(g:Nat)(x y:Option S),r=done++rest/\xs=rest.map pt/\gj share done g/\f=[ae (.int share),ae (fv ps),ae (fv r),ae (.int g),x,y]) ?_ ?_ _ _ ⟨[],r,share.toNat,ξ,ξ,rfl,rfl,⟨ν,?_,δ,λd e1 _=>?_⟩,?_⟩
  ·rintro x xs f ⟨done,rest,g,u,v,e,ex,hg,rfl⟩ F _ _ hn _;cases rest with
   |nil=>cases ex
   |cons z rest=>
    cases ex;unfold GH;nofun;refine⟨_,_,rfl,_,_,rfl,?_⟩;exact hn _ ⟨done++[z],rest,_,_,_,by simpa using e,rfl,hg.snoc z,rfl⟩
  ·rintro f ⟨done,rest,g,u,v,e,ex,hg,rfl⟩;have:rest=[]:=(by simpa using ex.symm);subst this;rw[eH] at e;subst e;exact hK _ ⟨g,u,v,hg,rfl⟩
  ·have:(share.toNat:Int)=share:=ν;rw[this];exact pW _
  ·have:(share.toNat:Int)=share:=ν
   exact_mod_cast (by rw[this];exact e1:(d:Int)∣(share.toNat:Int))
  ·have:(share.toNat:Int)=share:=ν;rw[this]
 rintro f ⟨g,x,y,hg,rfl⟩;have gp:(0:Int)<g:=by have:=hg.pos;lia
 have gb:BL 9000 (g:Int):=hg.bl hs bs;obtain⟨zs,ez⟩:∃zs,zs=r.map λz=>(z.1 / (g:Int),z.2 / (g:Int)):=⟨_,rfl⟩;have ec:r=zs.map λz=>((g:Int)*z.1,(g:Int)*z.2):=by
  rw[ez,dF];symm
  conv=>rhs;rw[<-mR r]
  refine kY λz hz=>?_;obtain⟨a,b⟩:=hg.all z hz;simp only[FH,id,jJ a,jJ b]
 obtain⟨sh,es⟩:=hg.sh;have ediv:share.fdiv g=sh:=by
  rw[cS _ ν,es,gJ _ ν]
 nofun;refine⟨gb.divOk ν,?_⟩;refine⟨mX θ,?_⟩;refine vW (λf=>∃a b,f=[a,b,ae (.int g)]) pt (λz=>pt (z.1 / (g:Int),z.2 / (g:Int))) r ?_ ⟨_,_,rfl⟩ ?_
 ·rintro z hz f ⟨a,b,rfl⟩ K' k7;nofun;refine⟨gb.divOk ν,gb.divOk ν,?_⟩;rw[cS _ ν,cS _ ν];exact k7 _ ⟨_,_,rfl⟩
 ·have e:qS (λz:Pt=>pt (z.1 / (g:Int),z.2 / (g:Int))) r=zs.map pt:=by rw[ez,dF];rfl
  rw[ediv,e];refine q g sh zs ⟨gp,es,ec,λd h1 h2=>?_⟩;have:=hg.most (d*g) (by
   rw[es];push_cast;obtain⟨c,ec⟩:=h1;exact⟨c,by rw[ec];grind⟩) λz hz=>by
   rw[ec] at hz;obtain⟨w,hw,rfl⟩:=bG.mp hz;obtain⟨⟨c1,e1⟩,c2,e2⟩:=h2 w hw
   push_cast
   exact⟨⟨c1,by rw[e1];grind⟩,c2,by rw[e2];grind⟩
  have le:=xJ hg.pos this;have d0:d≠0:=by
   rintro rfl;rw[Nat.zero_mul] at this;have:=yD this;have:=hg.pos;lia
  apply Nat.le_antisymm ?_ ν;apply Nat.not_lt.mp;intro h;have:2*g<=d*g:=CF _ h;have:=hg.pos;lia
def gx{α:Type}(A B:ω α):Prop:=∃X Y,A=X++Y/\B=Y++X
def gx.refl{α:Type}(A:ω α):gx A A:=⟨A,[],δ,δ⟩
def gx.symm{α:Type}{A B:ω α}(h:gx A B):gx B A:=by obtain⟨X,Y,a,b⟩:=h;exact⟨Y,X,b,a⟩
def gx.trans{α:Type}{A B C:ω α}(h:gx A B)(k:gx B C):gx A C:=by
 obtain⟨X,Y,rfl,rfl⟩:=h;obtain⟨X',Y',e,rfl⟩:=k;rcases List.append_eq_append_iff.mp e with⟨W,e1,e2⟩ | ⟨W,e1,e2⟩
 ·-- X'=Y++W
  exact⟨W,Y'++Y,by rw[e2];simp,by rw[e1];simp⟩
 ·exact⟨X++X',W,by rw[e1];simp,by rw[e2];simp⟩
def gx.map{α β:Type}{A B:ω α}(f:α->β)(h:gx A B):gx (A.map f) (B.map f):=by
 obtain⟨X,Y,rfl,rfl⟩:=h;exact⟨X.map f,Y.map f,δ,δ⟩
def gx.mem{α:Type}{A B:ω α}(h:gx A B)(x:α):x∈A↔x∈B:=by
 obtain⟨X,Y,rfl,rfl⟩:=h;simp[or_comm]
def gx.nodup{α:Type}{A B:ω α}(h:gx A B)(n:A.Nodup):B.Nodup:=by
 obtain⟨X,Y,rfl,rfl⟩:=h;rw[jQ] at n⊢;exact⟨n.2.1,n.1,λa ha b hb e=>n.2.2 b hb a ha e.symm⟩
theorem gx.head{α:Type}{z:α}{S T:ω α}(h:gx (z::S) (z::T))(n:(z::S).Nodup):S=T:=by
 obtain⟨X,Y,e1,e2⟩:=h;cases X with
 |nil=>simp at e1 e2;rw[<-e1] at e2;exact(List.cons.inj e2).2.symm
 |cons x X=>
  cases Y with
  |nil=>simp at e1 e2;rw[e1.2,e2.2]
  |cons y Y=>
   simp at e1 e2;have h1:=(fS.mp n).1;rw[e1.2] at h1;exact Ψ (by rw[<-e2.1];simp) h1
def gx.least{S T:ω Pt}(h:gx (z::S) (w::T))(n:(z::S).Nodup)(l1:∀q∈S,¬bB q z)(l2:∀q∈T,¬bB q w):z::S=w::T:=by
 have hz:z∈w::T:=(h.mem z).mp δ;have hw:w∈z::S:=(h.mem w).mpr δ;have e:z=w:=by
  rcases aO.mp hz with e |hz
  ·exact e
  ·rcases aO.mp hw with e |hw
   ·exact e.symm
   ·rcases qY z w with h |h |h
    ·exact Ψ h (l2 z hz)
    ·exact h
    ·exact Ψ h (l1 w hw)
 subst e;rw[h.head n]
def b_.rot(h:gx A B)(c:b_ A):b_ B:=by obtain⟨X,Y,rfl,rfl⟩:=h;exact c.swap
def wV(cs:ω Pt)(gy:cs≠[]):∃z T,gx cs (z::T)/\∀q∈T,¬bB q z:=by
 have:∃z∈cs,∀q∈cs,¬bB q z:=by
  induction cs with
  |nil=>exact Ψ rfl gy
  |cons c cs ih=>
   by_cases hc:cs=[]
   ·subst hc;exact⟨c,δ,λq hq=>by simp at hq;subst hq;exact vA⟩
   ·obtain⟨z,hz,hl⟩:=ih hc;rcases qY c z with h |h |h
    ·refine⟨c,δ,λq hq=>?_⟩;rcases aO.mp hq with rfl |hq
     ·exact vA
     ·exact λk=>hl q hq (rP k h)
    ·subst h;refine⟨c,δ,λq hq=>?_⟩;rcases aO.mp hq with rfl |hq
     ·exact vA
     ·exact hl q hq
    ·refine⟨z,by simp[hz],λq hq=>?_⟩;rcases aO.mp hq with rfl |hq
     ·exact vF h
     ·exact hl q hq
 obtain⟨z,hz,hl⟩:=this;obtain⟨X,Y,rfl⟩:=oB hz;exact⟨z,Y++X,⟨X,z::Y,rfl,rfl⟩,λq hq=>hl q (by simp at hq⊢;rcases hq with h |h <;> simp[h])⟩
abbrev scl(k:Int)(z:Pt):Pt:=(k*z.1,k*z.2)
def EF(hk:0<k):bB (scl k a) (scl k b)↔bB a b:=by
 unfold bB scl;dsimp only;rw[EZ hk,EZ hk];constructor
 ·rintro (h | ⟨h,h'⟩)
  ·exact dA h
  ·exact cX ⟨cV ν h,h'⟩
 ·rintro (h | ⟨h,h'⟩)
  ·exact dA h
  ·exact cX ⟨by rw[h],h'⟩
def KM(hk:0<k)(h:scl k a=scl k b):a=b:=by
 simp only[scl,fK] at h;exact lV (cV ν h.1) (cV ν h.2)
def Ef(k:Int)(a b c:Pt):bZ (scl k a) (scl k b) (scl k c)=k*k*bZ a b c:=by unfold bZ scl;dsimp only;grind
def b_.unscl(hk:0<k)(h:b_ (cs.map (scl k))):b_ cs:=by
 refine⟨by simpa using h.len,?_,λa b dq q hq n1 n2=>?_⟩
 ·exact BW (scl k) (λa b hn e=>hn (by rw[e])) h.nodup
 ·have c:az (cs.map (scl k)) (scl k a) (scl k b):=by
   obtain⟨l,r,e⟩:=dq;refine⟨l.map (scl k),r.map (scl k),?_⟩;rw[<-kB,<-cI,e];simp
  have:=h.strict _ _ c (scl k q) (cT hq) (λe=>n1 (KM hk e)) λe=>n2 (KM hk e);rw[Ef] at this;exact iH (by rw[dS];exact this) (aJ hk hk)
def Nm:FD:=λds Q=>∃a b:Int,ds=[.int a,.int b]/\(0<a/\0<b)/\(BL 8000 a/\BL 8000 b)/\∀l,0<l->a∣l->b∣l->l<=a*b->Q (.int l)
def DN:τ Nm (wD BS) ["one","other"]:=by
 rintro ds Q ⟨a,b,rfl,⟨ha,hb⟩,⟨ba,bb⟩,q⟩;rw[cK 0 rfl];unfold wD;nofun;refine⟨a,b,rfl,?_⟩;have hg:=PC (a:=a) (b:=b) ν;have bg:=BL.gcd (a:=a) (b:=b) ν bb;nofun;have b2:BL 8000 (b.fdiv (cO a b:Nat)):=bb.fdiv;refine⟨(bg.mono).divOk ν,ba.mulOk b2,?_⟩;obtain⟨c,ec⟩:((cO a b:Nat):Int)∣b:=mP ..;obtain⟨d,ed⟩:((cO a b:Nat):Int)∣a:=nM ..;have e1:b.fdiv (cO a b:Nat)=c:=by
  rw[cS _ ν];have:b / ((cO a b:Nat):Int)=(((cO a b:Nat):Int)*c) / ((cO a b:Nat):Int):=Φ (· / ((cO a b:Nat):Int)) ec;rw[this,gJ _ ν]
 rw[e1];generalize hG:((cO a b:Nat):Int)=g at *;have pc:0<c:=by
  apply fG.mp;intro hn;have:g*c<=0:=eU ν hn;lia
 refine q _ (aJ ha pc) (wK ..) ⟨d,by rw[ed,ec];grind⟩ ?_;rw[ec];have:0<=a*((g-1)*c):=bT ν (bT ν ν);have e:a*(g*c)=a*c+a*((g-1)*c):=ε
 lia
abbrev mv(k r w:Int)(z:Pt):Pt:=(k*z.1+r,k*z.2+w)
structure ri(ap:Int)(cs:List Pt)(sign p q u v:Int)(sh:Int)(zs:List Pt):Prop where
 ex:∃(κ s r w m:Int)(z:Pt)(T:ω Pt),(0<κ/\s=κ*ap/\s<=ap*q*v)/\(r*q=p*s/\w*v=u*s)/\gx (cs.map (mv (sign*κ) r w)) (z::T)/\(∀q∈T,¬bB q z)/\b_ (z::T)/\gk s (z::T) m sh zs
def BT:FD:=λds Q=>∃(ap sign p q u v:Int)(cs:ω Pt),ds=[.tup [.int ap,.tup (cs.map pt)],.tup [.int sign,.tup [.int p,.int q],.tup [.int u,.int v]]]/\(0<ap/\0<q/\0<v/\(sign=1\/sign = -1)) /\
 (BL 2000 ap/\BL 2000 q/\BL 2000 v/\BL 7000 p/\BL 7000 u)/\(∀z∈cs,BL 7000 z.1/\BL 7000 z.2)/\b_ cs/\cs.length<64/\∀sh zs,ri ap cs sign p q u v sh zs->Q (.tup [.int sh,.tup (zs.map pt)])
def Ji(k r w:Int)(a b c:Pt):bZ (mv k r w a) (mv k r w b) (mv k r w c)=k*k*bZ a b c:=by unfold bZ mv;dsimp only;grind
def Zv(hk:k≠0)(h:mv k r w a=mv k r w b):a=b:=by
 simp only[mv,fK] at h;have h1:k*a.1=k*b.1:=ν
 have h2:k*a.2=k*b.2:=ν
 exact lV (cV hk h1) (cV hk h2)
def E8{k:Int}(h:k≠0):0<k*k:=by
 rcases GO h with h |h
 ·have:=aJ (a:=-k) (b:=-k) ν ν
  rwa [Int.neg_mul_neg] at this
 ·exact aJ h h
def Al(h0:0<a)(h:a<=b)(hb:BL n b):BL n a:=hb.le ν
def Dq:τ BT (XB rL Nm) ["piece","move","dx","dy","share","scale","right","up"]:=by
 rintro ds Q ⟨ap,sign,p,q,u,v,cs,rfl,⟨h0,hq,hv,hs⟩,⟨b0,bq,bv,bp,bu⟩,bc,cv,hl,hQ⟩;rw[cK 6 rfl];unfold XB;simp only[gQ,D8,aR,bO,aW,bF];generalize hP:D.tup [.int ap,.tup (cs.map pt)]=PD;generalize hM:D.tup [.int sign,.tup [.int p,.int q],.tup [.int u,.int v]]=MD;refine dI (λf=>f=[ae PD,ae MD,ae (.tup [.int p,.int q]),ξ,ξ,ξ,ξ,ξ]) (λK hK=>?_) ?_
 ·rw[<-hP,<-hM] at hK⊢;nofun;exact hK _ rfl
 rintro f rfl;refine dI (λf=>f=[ae PD,ae MD,ae (.tup [.int p,.int q]),ae (.tup [.int u,.int v]),ξ,ξ,ξ,ξ]) (λK hK=>?_) ?_
 ·rw[<-hP,<-hM] at hK⊢;nofun;exact hK _ rfl
 rintro f rfl;refine dI (λf=>∃s:Int,(0<s/\ap∣s/\q∣s/\v∣s/\s<=ap*q*v)/\f=[ae PD,ae MD,ae (.tup [.int p,.int q]),ae (.tup [.int u,.int v]),ae (.int s),ξ,ξ,ξ]) (λK hK=>?_) ?_
 ·rw[<-hP,<-hM] at hK⊢;nofun;refine⟨ap,q,rfl,⟨h0,hq⟩,⟨b0.mono,bq.mono⟩,λl l0 l1 l2 l3=>?_⟩;refine⟨l,v,rfl,⟨l0,hv⟩,⟨(Al l0 l3 (b0.mul bq)).mono,bv.mono⟩,λs s0 s1 s2 s3=>?_⟩;refine hK _ ⟨s,⟨s0,lH l1 s1,lH l2 s1,s2,?_⟩,rfl⟩;exact zE s3 (aX l3 ν)
 rintro f ⟨s,⟨s0,⟨g,e1⟩,⟨cq,e2⟩,⟨tu,e3⟩,s4⟩,rfl⟩;have bs:BL 6000 s:=Al s0 s4 ((b0.mul bq).mul bv);have pk:0<g:=by
  apply fG.mp;intro hn;have:ap*g<=0:=eU ν hn;lia
 have d1:s.fdiv ap=g:=by rw[cS _ ν,e1,gJ _ ν]
 have d2:s.fdiv q=cq:=by rw[cS _ ν,e2,gJ _ ν]
 have d3:s.fdiv v=tu:=by rw[cS _ ν,e3,gJ _ ν]
 have bk:BL 6000 g:=by rw[<-d1];exact bs.fdiv
 have bcq:BL 6000 cq:=by rw[<-d2];exact bs.fdiv
 have bcv:BL 6000 tu:=by rw[<-d3];exact bs.fdiv
 have bsg:BL 1 sign:=by rcases hs with rfl |rfl <;> exact BL.const η
 refine dI (λf=>f=[ae PD,ae MD,ae (.tup [.int p,.int q]),ae (.tup [.int u,.int v]),ae (.int s),ae (.int (sign*g)),ξ,ξ]) (λK hK=>?_) ?_
 ·rw[<-hP,<-hM] at hK⊢;nofun;rw[d1];exact⟨(b0.mono).divOk ν,bsg.mulOk bk,hK _ rfl⟩
 rintro f rfl;refine dI (λf=>f=[ae PD,ae MD,ae (.tup [.int p,.int q]),ae (.tup [.int u,.int v]),ae (.int s),ae (.int (sign*g)),ae (.int (p*cq)),ξ]) (λK hK=>?_) ?_
 ·rw[<-hP,<-hM] at hK⊢;nofun;rw[d2];exact⟨(bq.mono).divOk ν,bp.mulOk bcq,hK _ rfl⟩
 rintro f rfl;refine dI (λf=>f=[ae PD,ae MD,ae (.tup [.int p,.int q]),ae (.tup [.int u,.int v]),ae (.int s),ae (.int (sign*g)),ae (.int (p*cq)),ae (.int (u*tu))]) (λK hK=>?_) ?_
 ·rw[<-hP,<-hM] at hK⊢;nofun;rw[d3];exact⟨(bv.mono).divOk ν,bu.mulOk bcv,hK _ rfl⟩
 rintro f rfl;rw[<-hP];have Z':=bsg.mul bk;nofun;refine⟨mX θ,?_⟩;refine vW (λf=>∃a b,f=[a,b,ae (.int (sign*g)),ae (.int (p*cq)),ae (.int (u*tu))]) pt (λz=>pt (mv (sign*g) (p*cq) (u*tu) z)) cs ?_ ⟨_,_,rfl⟩ ?_
 ·rintro z hz f ⟨a,b,rfl⟩ K' k7;nofun;obtain⟨z1,z2⟩:=bc z hz;exact⟨Z'.mulOk z1,Z'.mulOk z2,k7 _ ⟨_,_,rfl⟩⟩
 have hk0:sign*g≠0:=by rcases hs with rfl |rfl <;> lia
 have cv2:b_ (cs.map (mv (sign*g) (p*cq) (u*tu))):=cv.map (E8 hk0) (Ji _ _ _) λa b h=>Zv hk0 h;obtain⟨z,T,rot,least⟩:=wV (cs.map (mv (sign*g) (p*cq) (u*tu))) (by intro e;have:=cv2.len;rw[e] at this;simp at this);have cz:=b_.rot rot cv2;refine⟨s,cs.map (mv (sign*g) (p*cq) (u*tu)),by show _=[D.int s,.lst (qS pt (qS (mv (sign*g) (p*cq) (u*tu)) cs))];rw[dF];rfl,⟨s0,bs.mono⟩,λw hw=>?_,by simpa using hl,dA ⟨z,T,⟨cz,least,λa ha=>(rot.mem a).mpr ha,λa b dq c hc=>cz.side dq ((rot.mem c).mp hc)⟩,λm sh zs N=>hQ sh zs ⟨g,s,p*cq,u*tu,m,z,T,⟨pk,by rw[e1];exact dS ..,s4⟩,⟨by rw[e2];grind,by rw[e3];grind⟩,rot,least,cz,N⟩⟩⟩;obtain⟨x,hx,rfl⟩:=bG.mp hw;obtain⟨x1,x2⟩:=bc x hx;exact⟨((Z'.mul x1).add (bp.mul bcq)).mono,((Z'.mul x2).add (bu.mul bcv)).mono⟩
abbrev gF(F:Int)(t:H3):Pt:=(t.1*(F / t.2.2),t.2.1*(F / t.2.2))
structure db(F:Int)(t:H3):Prop where
 w:0<t.2.2
 f:0<F / t.2.2
 e:F / t.2.2*t.2.2=F
def db.of(hF:0<F)(hw:0<t.2.2)(hd:t.2.2∣F):db F t:=by
 have e:=uJ hd;refine⟨hw,?_,e⟩;apply fG.mp;intro h;have:F / t.2.2*t.2.2<=0:=dP h ν;lia
def YR(hp:db F p)(hq:db F q)(hr:db F r):F*bZ (gF F p) (gF F q) (gF F r)=(F / p.2.2*(F / q.2.2)*(F / r.2.2))*gO p q r:=by
 have e1:=hp.e;have e2:=hq.e;have e3:=hr.e;unfold bZ gF gO;dsimp only;generalize F / p.2.2=f1 at *;generalize F / q.2.2=f2 at *;generalize F / r.2.2=f3 at *;grind
def Fy(hp:db F p)(hq:db F q)(hr:db F r):0<F / p.2.2*(F / q.2.2)*(F / r.2.2):=aJ (aJ hp.f hq.f) hr.f
def oH{a b:Int}(ha:0<a)(h:0<a*b):0<b:=by
 apply fG.mp;intro hb;have:a*b<=0:=eU ν hb;lia
def FT{a b:Int}(ha:0<a)(h:0<=a*b):0<=b:=by
 apply fP.mp;intro hb;have:0<a*(-b):=aJ ha ν;have:a*(-b) = -(a*b):=Int.mul_neg ..;lia
theorem Pm.w_pos(h:Pm L cs t):0<t.2.2:=by
 cases h with
 |corner hu h=>exact(by decide:(0:Int)<1)
 |cross hc h=>have:=HW h;lia
def Cj(h:ie (l.map f) a b):∃p q,GY l p q/\a=f p/\b=f q:=by
 obtain⟨x,y,e⟩:=h;obtain⟨l1,l2,rfl,e1,e2⟩:=oC.mp e;obtain⟨p,l3,rfl,e3,e4⟩:=kG.mp e2;obtain⟨q,l4,rfl,e5,e6⟩:=kG.mp e4;exact⟨p,q,⟨l1,l4,rfl⟩,e3.symm,e5.symm⟩
theorem L7(hp:p∈P):∃q∈P,GY (P++P.take 1) p q:=by
 obtain⟨X,Y,rfl⟩:=oB hp;cases Y with
 |cons q Y=>exact⟨q,δ,X,Y++(X++p::q::Y).take 1,δ⟩
 |nil=>
  cases X with
  |nil=>exact⟨p,δ,[],[],δ⟩
  |cons x X=>exact⟨x,δ,x::X,[],δ⟩
def Wl(a b:Pt):bZ a a b=0:=by unfold bZ;grind
def Ps(c:b_ cs)(fj:∃w∈cs,0<af L w)(fu:∃w∈cs,af L w<0)(h:pf L cs P)(hF:0<F)(jt:∀t∈P,db F t):b_ (P.map (gF F)):=by
 have inj:∀p∈P,∀q∈P,gF F p=gF F q->p=q:=by
  intro p hp q hq e;apply bK;intro ne;obtain⟨q',xg,hn⟩:=L7 hp;have A:=h.adj p q' hn;by_cases e':q'=q
  ·subst e';have:∃r∈P,r≠p/\r≠q':=by
    apply bK;intro z6;have:=len_sub P [p,q'] h.nodup λx hx=>by
     apply bK;intro ou;simp at ou;exact z6 ⟨x,hx,ou.1,ou.2⟩
    have:=h.len;simp at *;lia
   obtain⟨r,hr,r1,r2⟩:=this;have s:=HH c fj fu A (h.pm r hr) r1 r2;have t:=YR (jt p hp) (jt q' xg) (jt r hr);rw[e,Wl] at t;have:=aJ (Fy (jt p hp) (jt q' xg) (jt r hr)) s;lia
  ·have s:=HH c fj fu A (h.pm q hq) (Ne.symm ne) (Ne.symm e');have t:=YR (jt p hp) (jt q' xg) (jt q hq);rw[<-e,Sr] at t;have:=aJ (Fy (jt p hp) (jt q' xg) (jt q hq)) s;lia
 refine⟨by simpa using h.len,?_,λa b dq q hq n1 n2=>?_⟩
 ·unfold nE;rw[pG];refine List.Pairwise.imp_of_mem ?_ h.nodup;intro a b ha hb hn e;exact hn (inj a ha b hb e)
 ·have hab':ie ((P++P.take 1).map (gF F)) a b:=by rw[cI,kB];exact dq
  obtain⟨p,p',hn,rfl,rfl⟩:=Cj hab';obtain⟨r,hr,rfl⟩:=bG.mp hq;have mem:p∈P/\p'∈P:=by
   obtain⟨x,y,e⟩:=hn;have sub:∀t,t∈P++P.take 1->t∈P:=λt ht=>by
    rcases bQ.mp ht with h |h
    ·exact h
    ·exact kH h
   exact⟨sub p (by rw[e];simp),sub p' (by rw[e];simp)⟩
  have s:=HH c fj fu (h.adj p p' hn) (h.pm r hr) (λe=>n1 (by rw[e])) λe=>n2 (by rw[e]);have t:=YR (jt p mem.1) (jt p' mem.2) (jt r hr);have u:=aJ (Fy (jt p mem.1) (jt p' mem.2) (jt r hr)) s;rw[<-t] at u;exact oH hF u
def MV(c:b_ cs)(fj:∃w∈cs,0<af L w)(h:pf L cs P):(P.filter λt=>decide (t.2.2≠1)).length<=2:=by
 obtain⟨p,q,hp,hq,_⟩:=h.line;have:=len_sub (P.filter λt=>decide (t.2.2≠1)) [p,q] (h.nodup.filter _) λx hx=>by
  obtain⟨hx,hw⟩:=jE.mp hx;simp only[decide_eq_true_eq] at hw;have pm:=h.pm x hx;have z:f_ L x=0:=by
   cases pm with
   |corner hu h=>exact Ψ rfl hw
   |cross hc h=>exact BO h
  rcases XJ c fj pm z with k |k
  ·rw[Bh c k hp];simp
  ·rw[WF c k hq];simp
 simpa using this
def iC:ω H3->Int
 | []=>1
 |t::P=>t.2.2*iC P
theorem KC:∀(A B:ω H3),iC (A++B)=iC A*iC B
 | [],B=>by simp[iC]
 |a::A,B=>by show a.2.2*iC (A++B)=a.2.2*iC A*iC B;rw[KC A B];grind
theorem vC:∀(P:ω H3),iC P=iC (P.filter λt=>decide (t.2.2≠1))
 | []=>rfl
 |t::P=>by
  rw[sS];by_cases h:t.2.2=1
  ·rw[υ (by simp[h])];show t.2.2*iC P=_;rw[h,Int.one_mul];exact vC P
  ·rw[Ω (by simp[h])];show t.2.2*iC P=t.2.2*_;rw[vC P]
theorem MP:∀(P:ω H3),∀t∈P,t.2.2∣iC P
 | [],t,h=>by simp at h
 |a::P,t,h=>by
  rcases aO.mp h with rfl |h
  ·exact wK ..
  ·exact lH (MP P t h) (Int.dvd_mul_left ..)
theorem MQ:∀(P:ω H3),(∀t∈P,0<t.2.2)->0<iC P
 | [],_=>by simp[iC]
 |a::P,h=>aJ (h a δ) (MQ P λt ht=>h t (by simp[ht]))
def c6(x y:Pt):Int:=x.1*y.2-x.2*y.1
def Ss(o x y:Pt):bZ o x y=c6 x y+c6 o x-c6 o y:=by unfold bZ c6;grind
theorem WV(o:Pt):∀(a:Pt)(l:ω Pt),fg (bZ o) a l=fg c6 a l+c6 o a-c6 o (kU a l)
 |a,[]=>by show(0:Int)=0+c6 o a-c6 o a;lia
 |a,b::l=>by
  show bZ o a b+fg (bZ o) b l=c6 a b+fg c6 b l+c6 o a-c6 o (kU b l);rw[WV o b l,Ss];lia
theorem zU(o:Pt)(l:ω Pt):hV (bZ o) l=hV c6 l:=by
 cases l with
 |nil=>rfl
 |cons z T=>
  show fg (bZ o) z (T++[z])=fg c6 z (T++[z]);rw[WV,mW];lia
theorem Jq{α β:Type}(f:β->β->Int)(g:α->β):∀(a:α)(l:ω α),fg f (g a) (l.map g)=fg (λx y=>f (g x) (g y)) a l
 |a,[]=>rfl
 |a,b::l=>by
  show f (g a) (g b)+fg f (g b) (l.map g)=f (g a) (g b)+_;rw[Jq f g b l]
def CN{α β:Type}(f:β->β->Int)(g:α->β)(l:ω α):hV f (l.map g)=hV (λx y=>f (g x) (g y)) l:=by
 cases l with
 |nil=>rfl
 |cons z T=>
  show fg f (g z) (T.map g++[g z])=fg _ z (T++[z]);rw[<-Jq f g z (T++[z])];simp
theorem WU{α:Type}{f g:α->α->Int}:∀(a:α)(l:ω α),Run (λx y=>f x y=g x y) a l->fg f a l=fg g a l
 |a,[],_=>rfl
 |a,b::l,h=>by
  show f a b+fg f b l=g a b+fg g b l;rw[h.1,WU b l h.2]
def Fs(h:∀a b,az cs a b->f a b=g a b):hV f cs=hV g cs:=by
 cases cs with
 |nil=>rfl
 |cons z T=>exact WU z (T++[z]) (Hs z (T++[z]) λa b dq=>h a b dq)
theorem Jp{α:Type}(f g:α->α->Int):∀(a:α)(l:ω α),fg (λx y=>f x y+g x y) a l=fg f a l+fg g a l
 |a,[]=>rfl
 |a,b::l=>by
  show f a b+g a b+fg _ b l=(f a b+fg f b l)+(g a b+fg g b l);rw[Jp f g b l];lia
def Oi{α:Type}(f g:α->α->Int)(l:ω α):hV (λx y=>f x y+g x y) l=hV f l+hV g l:=by
 cases l with
 |nil=>rfl
 |cons z T=>exact Jp f g z (T++[z])
theorem Jr{α:Type}(k:Int)(f:α->α->Int):∀(a:α)(l:ω α),fg (λx y=>k*f x y) a l=k*fg f a l
 |a,[]=>by show(0:Int)=k*0;lia
 |a,b::l=>by
  show k*f a b+fg _ b l=k*(f a b+fg f b l);rw[Jr k f b l,Int.mul_add]
theorem QX{α:Type}(k:Int)(f:α->α->Int)(l:ω α):hV (λx y=>k*f x y) l=k*hV f l:=by
 cases l with
 |nil=>show(0:Int)=k*0;lia
 |cons z T=>exact Jr k f z (T++[z])
def vX(k:Int)(l:ω Pt):hV c6 (l.map (scl k))=k*k*hV c6 l:=by
 rw[CN,<-QX];congr 1;funext x y;unfold c6 scl;dsimp only;grind
def zT{f:Pt->Pt->Int}{A B:ω Pt}(h:gx A B):hV f A=hV f B:=by
 obtain⟨X,Y,rfl,rfl⟩:=h;exact At f X Y
section
variable{L:br}{cs:ω Pt}
def m6(L:br)(G:Int)(x:Pt):Prop:=L.a*x.1+L.b*x.2=L.k*G
theorem DM(dq:L.a≠0\/L.b≠0)(hx:m6 L G x)(hy:m6 L G y)(hz:m6 L G z):bZ x y z=0:=by
 unfold m6 at *;rcases dq with h |h
 ·refine cV h ?_;have e1:L.a*(y.1-x.1) = -(L.b*(y.2-x.2)):=ε
  have e2:L.a*(z.1-x.1) = -(L.b*(z.2-x.2)):=ε
  have:L.a*bZ x y z=(L.a*(y.1-x.1))*(z.2-x.2)-(L.a*(z.1-x.1))*(y.2-x.2):=by unfold bZ;grind
  rw[this,e1,e2];grind
 ·refine cV h ?_;have e1:L.b*(y.2-x.2) = -(L.a*(y.1-x.1)):=ε
  have e2:L.b*(z.2-x.2) = -(L.a*(z.1-x.1)):=ε
  have:L.b*bZ x y z=(L.b*(z.2-x.2))*(y.1-x.1)-(L.b*(y.2-x.2))*(z.1-x.1):=by unfold bZ;grind
  rw[this,e1,e2];grind
theorem SR(ft:db G t)(h:f_ L t=0):m6 L G (gF G t):=by
 have e:=ft.e;unfold m6 gF;unfold f_ at h;dsimp only;generalize G / t.2.2=f at *;grind
def RN(G:Int)(u:Pt):gF G (aq u)=scl G u:=by
 refine lV ?_ ?_
 ·show u.1*(G / 1)=G*u.1;rw[IF,dS]
 ·show u.2*(G / 1)=G*u.2;rw[IF,dS]
theorem Jd(hG:0<G)(u:Pt):db G (aq u):=db.of hG (by show(0:Int)<1;decide) ⟨G,by show G=1*G;lia⟩
def HK(L:br)(G:Int)(o:Pt)(u v:Pt):Int:=
 if af L u<=0 then(if af L v<=0 then bZ o (scl G u) (scl G v) else if af L u<0 then bZ o (scl G u) (gF G (jO L u v)) else 0)
 else(if af L v<0 then bZ o (gF G (jO L u v)) (scl G v) else 0)
theorem Od(hG:0<G)(ho:m6 L G o)(dq:L.a≠0\/L.b≠0)(jt:∀t,Pm L cs t->db G t):∀l u w v,pi L cs l u w->az cs w v->fg (λp q=>bZ o (gF G p) (gF G q)) l (f9 L w v)=(if af L w<=0 then HK L G o u w else 0)+(if af L v<=0 then 0 else HK L G o w v):=by
 intro l u w v hs hc;have ex0:∀{t},h9 L cs t->m6 L G (gF G t):=λh=>SR (jt _ h.pm.1) h.pm.2;have z0:∀{x:Pt},af L x=0->m6 L G (scl G x):=λ{x} h=>by rw[<-RN];exact SR (Jd hG x) (by rw[nJ];exact h)
 rcases hs.2 with⟨hw,hl⟩ | ⟨hw,hl⟩ | ⟨hw,hl⟩
 ·have d:bZ o (gF G l) (scl G w)=HK L G o u w:=by
   unfold HK;rcases hl with⟨hu,rfl⟩ | ⟨hu,rfl⟩
   ·rw[Ω hu,Ω ν,RN]
   ·rw[υ ν,Ω hw]
  rw[Ω (by lia:af L w<=0),<-d];unfold f9;rw[Ω (by lia:af L w<=0)];by_cases hv:af L v<=0
  ·rw[Ω hv,υ (λh=>by rcases h8 h with⟨_,k⟩ | ⟨k,_⟩ <;> lia)];show bZ o (gF G l) (gF G (aq w))+0=_;rw[RN]
  ·rw[υ hv,Ω (oY (dA ⟨hw,ν⟩))];show bZ o (gF G l) (gF G (aq w))+(bZ o (gF G (aq w)) (gF G (jO L w v))+0)=_;unfold HK;rw[Ω (by lia:af L w<=0),υ hv,Ω hw,RN];lia
 ·have d:bZ o (gF G l) (scl G w)=HK L G o u w:=by
   unfold HK;rcases hl with⟨hu,rfl⟩ | ⟨hu,h⟩
   ·rw[Ω hu,Ω ν,RN]
   ·rw[υ ν,υ ν];exact DM dq ho (ex0 h) (z0 hw)
  rw[Ω (by lia:af L w<=0),<-d];unfold f9;rw[Ω (by lia:af L w<=0),υ (by rw[hw];lia)];show bZ o (gF G l) (gF G (aq w))+0=_;rw[RN];by_cases hv:af L v<=0
  ·rw[Ω hv]
  ·rw[υ hv];unfold HK;rw[Ω (by lia:af L w<=0),υ hv,υ ν]
 ·rw[υ (by lia:¬af L w<=0)];unfold f9;rw[υ (by lia:¬af L w<=0)];by_cases hv:af L v<0
  ·have hx:=oY (x:=af L w) (y:=af L v) (cX ⟨hw,hv⟩);rw[Ω hx,Ω ν];show bZ o (gF G l) (gF G (jO L w v))+0=0+0;rw[DM dq ho (ex0 hl) (SR (jt _ (Pm.cross hc hx)) (BO hx))]
  ·rw[υ (λh=>by rcases h8 h with⟨k,_⟩ | ⟨_,k⟩ <;> lia)];unfold HK;rw[υ (by lia:¬af L w<=0),υ hv];split <;> rfl
def og(L:br):br:=⟨-L.a,-L.b,-L.k⟩
theorem LO(u:Pt):af (og L) u = -af L u:=by unfold af og;dsimp only;grind
def Ws(u v:Pt):jO (og L) u v=jO L u v:=by unfold jO;rw[LO,LO,QG,QG]
theorem A0(h:m6 L G x):m6 (og L) G x:=by unfold m6 og at *;dsimp only;grind
theorem WB(hx:af L u*af L v<0)(ft:db G (jO L u v)):bZ o (scl G u) (gF G (jO L u v))+bZ o (gF G (jO L u v)) (scl G v)=bZ o (scl G u) (scl G v):=by
 have e:=ft.e;have e2:(jO L u v).2.2=((af L v).natAbs:Int)+(af L u).natAbs:=by unfold jO xN aq;dsimp only;lia
 have e3:(jO L u v).1=((af L v).natAbs:Int)*u.1+(af L u).natAbs*v.1:=rfl;have e4:(jO L u v).2.1=((af L v).natAbs:Int)*u.2+(af L u).natAbs*v.2:=rfl;unfold gF scl bZ;dsimp only;rw[e3,e4];generalize G / (jO L u v).2.2=f at *;rw[e2] at e;generalize ((af L v).natAbs:Int)=α at *;generalize ((af L u).natAbs:Int)=β at *;subst e;grind
theorem Ks(hG:0<G)(ho:m6 L G o)(dq:L.a≠0\/L.b≠0)(jt:∀t,Pm L cs t->db G t)(hc:az cs u v):HK L G o u v+HK (og L) G o u v=bZ o (scl G u) (scl G v):=by
 have z0:∀{x:Pt},af L x=0->m6 L G (scl G x):=λ{x} h=>by rw[<-RN];exact SR (Jd hG x) (by rw[nJ];exact h)
 unfold HK;rw[LO,LO,Ws];rcases fN (af L u) 0 with hu |hu |hu
 ·rcases fN (af L v) 0 with hv |hv |hv
  ·rw[Ω ν,Ω ν,υ ν,υ ν];lia
  ·rw[Ω ν,Ω ν,υ ν,υ ν];lia
  ·have hx:=oY (x:=af L u) (y:=af L v) (dA ⟨hu,hv⟩);rw[Ω ν,υ ν,Ω ν,υ ν,Ω ν];exact WB hx (jt _ (Pm.cross hc hx))
 ·rcases fN (af L v) 0 with hv |hv |hv
  ·rw[Ω ν,Ω ν,Ω ν,υ ν,υ ν];lia
  ·rw[Ω ν,Ω ν,Ω ν,Ω ν,DM dq ho (z0 hu) (z0 hv)];rfl
  ·rw[Ω ν,υ ν,υ ν,Ω ν,Ω ν];lia
 ·rcases fN (af L v) 0 with hv |hv |hv
  ·have hx:=oY (x:=af L u) (y:=af L v) (cX ⟨hu,hv⟩);rw[υ ν,Ω ν,Ω ν,υ ν,Ω ν,Int.add_comm];exact WB hx (jt _ (Pm.cross hc hx))
  ·rw[υ ν,υ ν,Ω ν,Ω ν];lia
  ·rw[υ ν,υ ν,Ω ν,Ω ν];lia
theorem Fg:∀(X:ω Pt)(u v:Pt),ie X u v->∀t∈f9 L u v,t∈Pl L X
 | [],u,v,h,t,ht=>by obtain⟨a,b,e⟩:=h;simp at e
 | [x],u,v,h,t,ht=>by
  obtain⟨a,b,e⟩:=h;have:=Φ eW e;simp at this;lia
 |x::y::X,u,v,h,t,ht=>by
  rw[Pl];obtain⟨a,b,e⟩:=h;cases a with
  |nil=>
   simp at e;obtain⟨rfl,rfl,_⟩:=e;exact dC _ ht
  |cons a0 a=>
   simp at e;exact bD _ (Fg (y::X) u v ⟨a,b,e.2⟩ t ht)
theorem Pm.mem(c:b_ cs)(h:Pm L cs t):t∈Pl L (cs++cs.take 1):=by
 cases h with
 | @corner u hu h=>
  obtain⟨_,v,_,hv,_⟩:=QY c hu;refine Fg _ u v hv _ ?_;unfold f9;rw[Ω h];simp
 | @cross u v hc h=>
  refine Fg _ u v hc _ ?_;unfold f9;rw[Ω h];simp
theorem Xd(fj:∃w∈cs,0<af L w)(fu:∃w∈cs,af L w<0):L.a≠0\/L.b≠0:=by
 apply bK;intro h;have h1:L.a=0:=bK λk=>h (dA k);have h2:L.b=0:=bK λk=>h (cX k);obtain⟨w,_,hw⟩:=fj;obtain⟨v,_,hv⟩:=fu;unfold af at hw hv;rw[h1,h2] at hw hv;simp at hw hv;lia
theorem Pu(ft:db F t):gF (F*H) t=scl H (gF F t):=by
 have e:F*H / t.2.2=F / t.2.2*H:=by
  have:F*H=F / t.2.2*H*t.2.2:=by
   have:=ft.e;generalize F / t.2.2=f at *;subst this;grind
  rw[this,Int.mul_ediv_cancel _ (by have:=ft.w;lia)]
 unfold gF scl;dsimp only;rw[e];refine lV ?_ ?_ <;> (dsimp only;grind)
def Bi(hF:0<F)(hH:0<H)(ft:db F t):db (F*H) t:=
 db.of (aJ hF hH) ft.w (lH ⟨F / t.2.2,by rw[dS];exact ft.e.symm⟩ (wK ..))
theorem WH(c:b_ cs)(fj:∃w∈cs,0<af L w)(fu:∃w∈cs,af L w<0)(hG:0<G)(ho:m6 L G o)(jt:∀t,Pm L cs t->db G t):hV c6 ((Pl L (cs++cs.take 1)).map (gF G))=hV (HK L G o) cs:=by
 obtain⟨P',rot,cut,sum⟩:=CM c fj fu;have dq:=Xd fj fu;have e:=sum _ _ _ (Od hG ho dq jt);have e1:hV c6 ((Pl L (cs++cs.take 1)).map (gF G))=hV c6 (P'.map (gF G)):=zT (by
  obtain⟨X,Y,a,b⟩:=rot;exact⟨X.map (gF G),Y.map (gF G),by rw[a,cI],by rw[b,cI]⟩)
 rw[e1,<-zU o,CN,e];congr 1;funext u v;split <;> lia
theorem Nv(c:b_ cs)(fj:∃w∈cs,0<af L w)(fu:∃w∈cs,af L w<0)(h1:0<F1)(h2:0<F2)(uj:∀t∈Pl L (cs++cs.take 1),db F1 t)(uk:∀t∈Pl (og L) (cs++cs.take 1),db F2 t):
  F2*F2*hV c6 ((Pl L (cs++cs.take 1)).map (gF F1))+F1*F1*hV c6 ((Pl (og L) (cs++cs.take 1)).map (gF F2))=F1*F2*(F1*F2)*hV c6 cs:=by
 have z9:∃w∈cs,0<af (og L) w:=by obtain⟨w,hw,k⟩:=fu;exact⟨w,hw,by rw[LO];lia⟩
 have zy:∃w∈cs,af (og L) w<0:=by obtain⟨w,hw,k⟩:=fj;exact⟨w,hw,by rw[LO];lia⟩
 obtain⟨P',rot,cut,_⟩:=CM c fj fu;obtain⟨p,q,hp,hq,_⟩:=cut.line;have fA:∀t,Pm L cs t->db (F1*F2) t:=λt ht=>Bi h1 h2 (uj t (ht.mem c));have fB:∀t,Pm (og L) cs t->db (F1*F2) t:=λt ht=>by rw[dS];exact Bi h2 h1 (uk t (ht.mem c))
 have hG:=aJ h1 h2;have ho:=SR (fA p hp.pm.1) hp.pm.2;have a1:=WH c fj fu hG ho fA;have a2:=WH c z9 zy hG (A0 ho) fB;have s:hV (HK L (F1*F2) (gF (F1*F2) p)) cs+hV (HK (og L) (F1*F2) (gF (F1*F2) p)) cs=F1*F2*(F1*F2)*hV c6 cs:=by
  rw[<-Oi,<-vX,<-zU (gF (F1*F2) p),CN];exact Fs λu v yc=>Ks hG ho (Xd fj fu) fA yc
 have m1:(Pl L (cs++cs.take 1)).map (gF (F1*F2))=((Pl L (cs++cs.take 1)).map (gF F1)).map (scl F2):=by
  rw[dF];exact kY λt ht=>Pu (uj t ht)
 have m2:(Pl (og L) (cs++cs.take 1)).map (gF (F1*F2))=((Pl (og L) (cs++cs.take 1)).map (gF F2)).map (scl F1):=by
  rw[dF];refine kY λt ht=>?_;rw[dS F1 F2];exact Pu (uk t ht)
 rw[m1,vX] at a1;rw[m2,vX] at a2;rw[a1,a2];exact s
end
def XV:FD:=λds Q=>∃(x:D)(a b:D)(t:ω D),ds=[x]/\(x = .tup (a::b::t)\/x = .lst (a::b::t))/\t.length<=1000/\Q (.lst (lF (λu v=>D.tup [u,v]) (a::b::t) (b::t++[a])))
def OQ:τ XV GG ["ones"]:=by
 rintro ds Q ⟨x,a,b,t,rfl,hx,hl,q⟩;rw[cK 0 rfl];unfold GG;have c1:cutD (a::b::t) (ψ 1) ξ=b::t:=WC (j:=1) δ;have c2:cutD (a::b::t) ξ (ψ 1)=[a]:=Ip (j:=1) δ;have s1:HT.sIx (a::b::t).length 0 (ψ 1)=1:=by rw[show(ψ (1:Int))=ψ ((1:Nat):Int) from rfl,HT.sIx_nat];simp
 have s2:HT.sIx (a::b::t).length (a::b::t).length (ψ 1)=1:=by rw[show(ψ (1:Int))=ψ ((1:Nat):Int) from rfl,HT.sIx_nat];simp
 rcases hx with rfl |rfl
 ·simp only[gQ,fM,Hn,aQ,r2,ZS,DR,sH,rC,AN,aR,bO,FC,eH,aB,S.val];refine⟨λh=>by rw[s1] at h;exact Ψ h.1 η,λh=>by rw[s2] at h;have:=h.2;simp at this,?_⟩;rw[c1,c2];refine⟨δ,mX θ,_,_,rfl,rfl,δ,q⟩
 ·simp only[gQ,fM,Hn,aQ,r2,ZS,DR,sH,rC,AN,aR,bO,FC,eH,aB,S.val];rw[c1,c2];refine⟨mX θ,_,_,rfl,rfl,δ,q⟩
abbrev cr(a b:Int×Int):Int:=a.1*b.2-a.2*b.1
def chain(a:Int×Int):ω (Int×Int)->Int
 | []=>0
 |b::r=>cr a b+chain b r
def Ae(n:Nat)(zs:ω (Int×Int)):Prop:=∀z∈zs,BL n z.1/\BL n z.2
namespace K12
end K12
structure jh where
 a:Int
 b:Int
 c:Int
abbrev ln(l:jh):D:=.tup [.int l.a,.int l.b,.int l.c]
def jh.BLn(n:Nat)(l:jh):Prop:=BL n l.a/\BL n l.b/\BL n l.c
abbrev exc(l:jh)(p:Int×Int)(s:Int):Int:=l.a*p.1+l.b*p.2-l.c*s
def BR:FD:=λds Q=>∃(l:jh)(p:Int×Int)(s:Int),ds=[ln l,pt p,.int s]/\(l.BLn 100000/\BL 100000 p.1/\BL 100000 p.2/\BL 100000 s)/\Q (.int (exc l p s))
def Di:τ BR WY ["line","point","share"]:=by
 rintro ds Q ⟨l,p,s,rfl,⟨⟨b1,b2,b3⟩,b4,b5,b6⟩,q⟩;rw[cK 0 rfl];unfold WY;nofun;exact⟨b1.mulOk b4,b2.mulOk b5,b3.mulOk b6,q⟩
abbrev wk(z:Int×Int)(t:ω (Int×Int)):ω ((Int×Int)×(Int×Int)):=QK (z::t) (t++[z])
def Ts(h:w∈wk z t):w.1∈z::t/\w.2∈z::t:=by
 obtain⟨w1,w2⟩:=w;have m:=uA h;refine⟨m.1,?_⟩;rcases bQ.mp m.2 with h |h
 ·exact bH _ h
 ·rw[cJ.mp h];exact dU
abbrev h3(t:H3):D:=.tup [.int t.1,.int t.2.1,.int t.2.2]
abbrev oO(l:jh)(sh:Int):br:=⟨l.a,l.b,l.c*sh⟩
def rG(l:jh)(sh:Int)(z:Pt):af (oO l sh) z=exc l z sh:=rfl
def LM(h:BL n i):BL n (i.natAbs:Int):=by unfold BL at *;simpa using h
def XO:FD:=λds Q=>∃(L:br)(u v:Pt),ds=[pt u,.int (af L u),pt v,.int (af L v)]/\(BL 2000 u.1/\BL 2000 u.2/\BL 2000 v.1/\BL 2000 v.2)/\(BL 2000 (af L u)/\BL 2000 (af L v))/\Q (h3 (jO L u v))
def Wr(L:br)(u v:Pt):h3 (jO L u v) = .tup [.int (u.1*((af L v).natAbs:Int)+v.1*((af L u).natAbs:Int)),.int (u.2*((af L v).natAbs:Int)+v.2*((af L u).natAbs:Int)),.int (((af L u).natAbs:Int)+((af L v).natAbs:Int))]:=by
 have e1:(jO L u v).1=u.1*((af L v).natAbs:Int)+v.1*((af L u).natAbs:Int):=by unfold jO xN aq;dsimp only;rw[dS,dS v.1]
 have e2:(jO L u v).2.1=u.2*((af L v).natAbs:Int)+v.2*((af L u).natAbs:Int):=by unfold jO xN aq;dsimp only;rw[dS,dS v.2]
 have e3:(jO L u v).2.2=((af L u).natAbs:Int)+((af L v).natAbs:Int):=by unfold jO xN aq;dsimp only;lia
 show D.tup [.int (jO L u v).1,.int (jO L u v).2.1,.int (jO L u v).2.2]=_;rw[e1,e2,e3]
def VC:τ XO NM ["one","one_excess","other","other_excess","near","far"]:=by
 rintro ds Q ⟨L,u,v,rfl,⟨b1,b2,b3,b4⟩,⟨c1,c2⟩,q⟩;rw[cK 2 rfl];rw[Wr] at q;have a1:=LM c1;have a2:=LM c2;unfold NM;nofun;have ab:∀i:Int,(if i<0 then -i else i)=(i.natAbs:Int):=λi=>by split <;> lia
 simp only[ab];exact⟨b1.mulOk a2,b3.mulOk a1,b2.mulOk a2,b4.mulOk a1,q⟩
def Wu{α β:Type}(f:α->D)(g:β->D)(xs:ω α):∀(ys:ω β),lF (λu v=>D.tup [u,v]) (xs.map f) (ys.map g)=(QK xs ys).map λw=>D.tup [f w.1,g w.2]:=by
 induction xs with
 |nil=>intro ys;simp
 |cons x xs ih=>
  intro ys;cases ys with
  |nil=>simp
  |cons y ys=>simp[ih]
def LN(L:br)(ws:ω (Pt×Pt)):ω H3:=ws.flatMap λw=>f9 L w.1 w.2
theorem Ie(L:br):∀(r:ω Pt)(a z:Pt),Pl L (a::(r++[z]))=LN L (QK (a::r) (r++[z]))
 | [],a,z=>by simp[Pl,LN]
 |b::r,a,z=>by
  have ih:=Ie L r b z;show f9 L a b++Pl L (b::(r++[z]))=f9 L a b++LN L (QK (b::r) (r++[z]));rw[ih]
abbrev g9(L:br)(z:Pt):D:=.tup [pt z,.int (af L z)]
def QD:FD:=λds Q=>∃(L:br)(z u:Pt)(r:ω Pt),ds=[.tup ((z::u::r).map pt),il ((z::u::r).map (af L))]/\(∀w∈z::u::r,BL 2000 w.1/\BL 2000 w.2/\BL 2000 (af L w))/\r.length<=900/\Q (.lst ((Pl L ((z::u::r)++(z::u::r).take 1)).map h3))
def Tm(L:br)(u v:Pt):(f9 L u v).length<=2:=by
 unfold f9;split <;> split <;> simp
theorem Am(L:br):∀ws,(LN L ws).length<=2*ws.length
 | []=>by simp[LN]
 |w::ws=>by
  have:=Am L ws;have:=Tm L w.1 w.2;unfold LN at *;rw[IJ,bR,bP];lia
def Kl(L:br)(ws:ω (Pt×Pt))(w:Pt×Pt):LN L (ws++[w])=LN L ws++f9 L w.1 w.2:=by unfold LN;simp
def HR:τ QD (yY XO XV) ["corners","excesses","points","one","other"]:=by
 rintro ds Q ⟨L,z,u,r,rfl,hB,hl,q⟩;rw[cK 3 rfl];unfold yY;have eP:Pl L ((z::u::r)++(z::u::r).take 1)=LN L (wk z (u::r)):=Ie L (u::r) z z;rw[eP] at q;have lc:(wk z (u::r)).length=r.length+2:=δ
 simp only[gQ,Ea,aW,bF];generalize hA:D.tup ((z::u::r).map pt)=A;generalize hX:il ((z::u::r).map (af L))=X;simp only[aR,bO,aW,bF];refine eO [ae A,ae X,ψ (.own []),ξ,ξ] (λK hK=>?_) ?_
 ·nofun;exact hK
 refine dI (λc=>∃a b:Option S,c=[ae A,ae X,ψ (.own ((LN L (wk z (u::r))).map h3)),a,b]) (λK hK=>?_) ?_
 ·rw[<-hA,<-hX] at hK⊢;simp only[lC,riL,cH,aD,aV,Hn,aQ,aB,aE,S.val];refine⟨_,_,rfl,rfl,δ,?_⟩;have e1:lF (λa b=>D.tup [a,b]) ((z::u::r).map pt) (((z::u::r).map (af L)).map D.int)=(z::u::r).map (g9 L):=by
   rw[dF,List.zipWith_map,List.zipWith_self];rfl
  rw[e1];refine⟨_,g9 L z,g9 L u,r.map (g9 L),rfl,cX rfl,θ,?_⟩;have e2:lF (λa b=>D.tup [a,b]) (g9 L z::g9 L u::r.map (g9 L)) (g9 L u::r.map (g9 L)++[g9 L z])=(wk z (u::r)).map λw=>D.tup [g9 L w.1,g9 L w.2]:=by
   rw[<-Wu (g9 L) (g9 L)];simp
  rw[e2];refine jG (λxs c=>∃(done rest:ω (Pt×Pt))(a b:Option S),wk z (u::r)=done++rest/\xs=rest.map (λw=>D.tup [g9 L w.1,g9 L w.2])/\c=[ae (.tup ((z::u::r).map pt)),ae (il ((z::u::r).map (af L))),ψ (.own ((LN L done).map h3)),a,b]) ?_ ?_ _ _ ⟨[],wk z (u::r),ξ,ξ,rfl,rfl,rfl⟩
  ·rintro x xs c ⟨done,rest,a,b,e,ex,rfl⟩ F _ _ hn _;cases rest with
   |nil=>cases ex
   |cons w rest=>
    cases ex;have mw:=Ts (z:=z) (t:=u::r) (w:=w) (by rw[e];simp);obtain⟨p1,p2,p3⟩:=hB _ mw.1;obtain⟨q1,q2,q3⟩:=hB _ mw.2;have ld:done.length<r.length+2:=(by rw[<-lc,e];simp);have lb:=Am L done;generalize hA':D.tup ((z::u::r).map pt)=A' at *;generalize hX':il ((z::u::r).map (af L))=X' at *;have fin:∀c,c=[ae A',ae X',ψ (.own ((LN L (done++[w])).map h3)),ae (g9 L w.1),ae (g9 L w.2)]->F.nx c:=λc h=>hn _ ⟨done++[w],rest,ae (g9 L w.1),ae (g9 L w.2),by simpa using e,rfl,h⟩;rw[Kl] at fin;unfold f9 at fin;unfold uR;nofun;by_cases h1:af L w.1<=0
    ·rw[Ω h1] at fin⊢;refine⟨mX θ,p3.mulOk q3,?_⟩;by_cases h2:af L w.1*af L w.2<0
     ·rw[Ω h2] at fin⊢;refine⟨L,w.1,w.2,rfl,⟨p1,p2,q1,q2⟩,⟨p3,q3⟩,mX θ,fin _ δ⟩
     ·rw[υ h2] at fin⊢;exact fin _ δ
    ·rw[υ h1] at fin⊢;refine⟨p3.mulOk q3,?_⟩;by_cases h2:af L w.1*af L w.2<0
     ·rw[Ω h2] at fin⊢;refine⟨L,w.1,w.2,rfl,⟨p1,p2,q1,q2⟩,⟨p3,q3⟩,mX θ,fin _ δ⟩
     ·rw[υ h2] at fin⊢;exact fin _ δ
  ·rintro c ⟨done,rest,a,b,e,ex,rfl⟩;have:rest=[]:=(by simpa using ex.symm);subst this;rw[eH] at e;rw[e] at hK;exact hK _ ⟨a,b,rfl⟩
 rintro c ⟨a,b,rfl⟩;nofun;exact q
abbrev pc(sh:Int)(zs:ω Pt):D:=.tup [.int sh,.tup (zs.map pt)]
abbrev KN(L:br)(cs:ω Pt):ω H3:=Pl L (cs++cs.take 1)
structure ji(L:br)(sh:Int)(cs:List Pt)(cf:Int)(zs:List Pt):Prop where
 ex:∃(F m:Int)(z:Pt)(T:ω Pt),0<F/\(∀t∈KN L cs,db F t)/\gx ((KN L cs).map (gF F)) (z::T)/\(∀q∈T,¬bB q z)/\b_ (z::T)/\gk (sh*F) (z::T) m cf zs/\(BL 4003 F/\zs.length<=cs.length+2)
inductive dz(L:br)(sh:Int)(cs:List Pt):D->Prop
 |whole (h:∀z∈cs,af L z<=0):dz L sh cs (pc sh cs)
 |nothing (h:∀z∈cs,0<=af L z) (n:¬ ∀z∈cs,af L z<=0):dz L sh cs .non
 |part (hp:∃z∈cs,0<af L z) (hn:∃z∈cs,af L z<0) {cf:Int} {zs:List Pt} (h:ji L sh cs cf zs):dz L sh cs (pc cf zs)
def Fc:FD:=λds Q=>∃(l:jh)(sh:Int)(cs:ω Pt),ds=[pc sh cs,ln l]/\(0<sh/\BL 2000 sh/\l.BLn 10000)/\(∀w∈cs,BL 2000 w.1/\BL 2000 w.2/\BL 2000 (exc l w sh))/\(b_ cs/\cs.length<60)/\∀d,dz (oO l sh) sh cs d->Q d
theorem IZ:∀(P:ω H3),(∀t∈P,BL n t.2.2)->BL (n*P.length+1) (iC P)
 | [],_=>BL.mono (m:=1) (BL.const η) ν
 |t::P,h=>by
  have a:=(h t δ).mul (IZ P λx hx=>h x (by simp[hx]));exact a.mono (by rw[bP,Nat.mul_add,Nat.mul_one];lia)
theorem M6(hB:∀w∈cs,BL 2000 w.1/\BL 2000 w.2/\BL 2000 (af L w))(h:Pm L cs t):BL 4001 t.1/\BL 4001 t.2.1/\BL 2001 t.2.2:=by
 cases h with
 | @corner u hu h=>
  obtain⟨a,b,_⟩:=hB u hu;exact⟨a.mono,b.mono,(BL.const (n:=1) (i:=1) η).mono⟩
 | @cross u v hc h=>
  obtain⟨a,b,c⟩:=hB u hc.mem.1;obtain⟨a',b',c'⟩:=hB v hc.mem.2;have c:=LM c;have c':=LM c';refine⟨((c'.mul a).add (c.mul a')).mono,((c'.mul b).add (c.mul b')).mono,?_⟩;have e:(jO L u v).2.2=((af L u).natAbs:Int)+((af L v).natAbs:Int):=by unfold jO xN aq;dsimp only;lia
  rw[e];exact(c.add c').mono
theorem RL{α:Type}(p:α->Bool):∀l:ω α,l.length=(l.filter p).length+(l.filter λx=>!p x).length
 | []=>rfl
 |x::l=>by
  have:=RL p l;rw[sS,sS];cases h:p x <;> simp <;> lia
def XF(c:b_ cs)(hp:∃z∈cs,0<af L z)(h:pf L cs P):P.length<=cs.length+2:=by
 have h2:=MV c hp h;have h1:=len_sub (P.filter λt=>!decide (t.2.2≠1)) (cs.map aq) (h.nodup.filter _) λx hx=>by
  obtain⟨hx,hw⟩:=jE.mp hx;simp only[ne_eq,decide_not,Bool.not_not,decide_eq_true_eq] at hw;have pm:=h.pm x hx;cases pm with
  | @corner u hu h=>exact cT hu
  |cross hc h=>have:=HW h;lia
 have e:=RL (λt:H3=>decide (t.2.2≠1)) P;rw[aY] at h1;lia
def MS:τ Fc (EC BR QD rL) ["piece","line","share","excesses","points","factor","point","grown"]:=by
 rintro ds Q ⟨l,sh,cs,rfl,⟨h0,b0,bl⟩,hB,⟨cv,hl⟩,q⟩;rw[cK 6 rfl];unfold EC;obtain⟨z0,u0,r0,vf⟩:∃z u r,cs=z::u::r:=by
  have:=cv.len
  match cs,this with
  |z::u::r,_=>exact⟨z,u,r,rfl⟩
 have cne:cs.map (λz=>exc l z sh)≠[]:=by rw[vf];simp
 simp only[gQ,D8,aW,bF];generalize hP:pc sh cs=PD;generalize hL:ln l=LD;simp only[aR,bO,aW,bF];refine dI (λd=>d=[ae PD,ae LD,ae (.int sh),ξ,ξ,ξ,ξ,ξ]) (λK hK=>?_) ?_
 ·rw[<-hP] at hK⊢;nofun;exact hK _ rfl
 rintro d rfl;refine dI (λd=>d=[ae PD,ae LD,ae (.int sh),ψ (.own ((cs.map λz=>exc l z sh).map D.int)),ξ,ξ,ξ,ξ]) (λK hK=>?_) ?_
 ·rw[<-hP,<-hL] at hK⊢;simp only[qM,qL,riT,r2,aQ,rC,iT,zQ,QT,aB,aE,aR,bO,VF,aW,bF,S.val];refine⟨mX θ,?_⟩;refine vW (λd=>∃a,d=[a,ae (ln l),ae (.int sh)]) pt (λz=>D.int (exc l z sh)) cs ?_ ⟨ξ,rfl⟩ ?_
  ·rintro z hz d ⟨a,rfl⟩ K' k7;obtain⟨z1,z2,_⟩:=hB z hz;nofun;exact⟨l,z,sh,rfl,⟨⟨bl.1.mono,bl.2.1.mono,bl.2.2.mono⟩,z1.mono,z2.mono,b0.mono⟩,k7 _ ⟨ae (pt z),rfl⟩⟩
  ·refine hK _ ?_;rw[dF];rfl
 rintro d rfl;by_cases hw:∀z∈cs,exc l z sh<=0
 ·have fin:=q _ (dz.whole hw);refine dI (λd=>False) (λK hK=>?_) (λd h=>h.elim);nofun;refine⟨_,rfl,cne,λM m1 m2=>?_⟩;obtain⟨z,hz,rfl⟩:=bG.mp m1;dsimp only;rw[Ω (hw z hz),<-hP];exact fin
 refine eO [ae PD,ae LD,ae (.int sh),ψ (.own ((cs.map λz=>exc l z sh).map D.int)),ξ,ξ,ξ,ξ] (λK hK=>?_) ?_
 ·nofun;refine⟨_,rfl,cne,λM m1 m2=>?_⟩;dsimp only;rw[υ (λh=>hw λz hz=>zE (m2 _ (cT hz)) h)];exact hK
 by_cases hg:∀z∈cs,0<=exc l z sh
 ·have fin:=q _ (dz.nothing hg hw);refine dI (λd=>False) (λK hK=>?_) (λd h=>h.elim);nofun;refine⟨_,rfl,cne,λM m1 m2=>?_⟩;obtain⟨z,hz,rfl⟩:=bG.mp m1;dsimp only;rw[Ω (hg z hz)];exact fin
 refine eO [ae PD,ae LD,ae (.int sh),ψ (.own ((cs.map λz=>exc l z sh).map D.int)),ξ,ξ,ξ,ξ] (λK hK=>?_) ?_
 ·nofun;refine⟨_,rfl,cne,λM m1 m2=>?_⟩;dsimp only;rw[υ (λh=>hg λz hz=>zE h (m2 _ (cT hz)))];exact hK
 have hp:∃z∈cs,0<af (oO l sh) z:=bK λk=>hw λz hz=>fP.mp λh=>k ⟨z,hz,h⟩;have hn:∃z∈cs,af (oO l sh) z<0:=bK λk=>hg λz hz=>fP.mp λh=>k ⟨z,hz,h⟩;obtain⟨P',rot,cut,_⟩:=CM cv hp hn;have iI:gx (KN (oO l sh) cs) P':=rot;have lP':=XF cv hp cut;generalize x6:KN (oO l sh) cs=SP at *;have lSP:SP.length=P'.length:=by obtain⟨X,Y,e1,e2⟩:=iI;rw[e1,e2];simp;lia
 have sr:∀t∈SP,Pm (oO l sh) cs t:=λt ht=>cut.pm t ((iI.mem t).mp ht);have M_:∀t∈SP,BL 4001 t.1/\BL 4001 t.2.1/\BL 2001 t.2.2:=λt ht=>M6 (L:=oO l sh) (λw hw=>hB w hw) (sr t ht);have ma:0<iC SP:=MQ SP λt ht=>(sr t ht).w_pos;have r6:∀t∈SP,db (iC SP) t:=λt ht=>db.of ma (sr t ht).w_pos (MP SP t ht);have ub:BL 4003 (iC SP):=by
  rw[vC];have l2:(SP.filter λt=>decide (t.2.2≠1)).length<=2:=by
   have:=MV cv hp cut;obtain⟨X,Y,e1,e2⟩:=iI;rw[e2] at this;rw[e1];rw[lS,bR] at this⊢;lia
  refine(IZ _ λt ht=>(M_ t (jE.mp ht).1).2.2).mono ?_;lia
 refine dI (λd=>d=[ae PD,ae LD,ae (.int sh),ae (il (cs.map λz=>exc l z sh)),ae (.lst (SP.map h3)),ξ,ξ,ξ]) (λK hK=>?_) ?_
 ·rw[<-hP] at hK⊢;nofun;subst vf;refine⟨oO l sh,z0,u0,r0,rfl,hB,by simp at hl;lia,?_⟩;show K _;rw[show Pl (oO l sh) ((z0::u0::r0)++(z0::u0::r0).take 1)=SP from x6];exact hK _ rfl
 rintro d rfl;refine eO [ae PD,ae LD,ae (.int sh),ae (il (cs.map λz=>exc l z sh)),ae (.lst (SP.map h3)),ae (.int 1),ξ,ξ] (λK hK=>?_) ?_
 ·nofun;exact hK
 refine dI (λd=>∃a:Option S,d=[ae PD,ae LD,ae (.int sh),ae (il (cs.map λz=>exc l z sh)),ae (.lst (SP.map h3)),ae (.int (iC SP)),a,ξ]) (λK hK=>?_) ?_
 ·nofun;refine jG (λxs d=>∃(done rest:ω H3)(a:Option S),SP=done++rest/\xs=rest.map h3/\d=[ae PD,ae LD,ae (.int sh),ae (il (cs.map λz=>exc l z sh)),ae (.lst (SP.map h3)),ae (.int (iC done)),a,ξ]) ?_ ?_ _ _ ⟨[],SP,ξ,rfl,rfl,rfl⟩
  ·rintro x xs d ⟨done,rest,a,e,ex,rfl⟩ E _ _ uq _;cases rest with
   |nil=>cases ex
   |cons t rest=>
    cases ex;have bt:=(M_ t (by rw[e];simp)).2.2;have bd:=IZ done λx hx=>(M_ x (by rw[e];simp[hx])).2.2;have ld:done.length<=64:=(by have:=Φ eW e;simp at this;lia);have e2:iC (done++[t])=iC done*t.2.2:=(by rw[KC];show _*(t.2.2*1)=_;rw[rN]);unfold xC;nofun;refine⟨bd.mulOk bt ν,uq _ ⟨done++[t],rest,ae (h3 t),by simpa using e,rfl,by rw[e2]⟩⟩
  ·rintro d ⟨done,rest,a,e,ex,rfl⟩;have:rest=[]:=(by simpa using ex.symm);subst this;rw[eH] at e;subst e;exact hK _ ⟨a,rfl⟩
 rintro d ⟨a,rfl⟩;refine dI (λd=>d=[ae PD,ae LD,ae (.int sh),ae (il (cs.map λz=>exc l z sh)),ae (.lst (SP.map h3)),ae (.int (iC SP)),a,ψ (.own ((SP.map (gF (iC SP))).map pt))]) (λK hK=>?_) ?_
 ·simp only[qM,qL,riL,bV,zQ,QT,aB,aE,aR,bO,Ea,aW,bF,S.val];refine⟨mX θ,?_⟩;refine vW (λd=>∃a b c,d=[a,b,c,ae (.int (iC SP))]) h3 (λt=>pt (gF (iC SP) t)) SP ?_ ⟨ξ,ξ,ξ,rfl⟩ ?_
  ·rintro t ht d ⟨a,b,c,rfl⟩ K' k7;obtain⟨t1,t2,t3⟩:=M_ t ht;have tw:=(sr t ht).w_pos;have bq:BL 4003 ((iC SP).fdiv t.2.2):=ub.fdiv;nofun;refine⟨(t3.mono).divOk ν,t1.mulOk bq,(t3.mono).divOk ν,t2.mulOk bq,?_⟩;rw[cS _ ν];exact k7 _ ⟨ae (.int t.1),ae (.int t.2.1),ae (.int t.2.2),rfl⟩
  ·refine hK _ ?_;rw[dF];rfl
 rintro d rfl;nofun;refine⟨b0.mulOk ub,?_⟩;have wu:∀t∈P',db (iC SP) t:=λt ht=>r6 t ((iI.mem t).mpr ht);have cvP:=Ps cv hp hn cut ma wu;have yx:b_ (SP.map (gF (iC SP))):=b_.rot ((iI.map (gF (iC SP))).symm) cvP;obtain⟨z,T,rt,least⟩:=wV (SP.map (gF (iC SP))) (by intro e;have:=yx.len;rw[e] at this;simp at this);have cz:=b_.rot rt yx;refine⟨sh*iC SP,SP.map (gF (iC SP)),rfl,⟨aJ h0 ma,(b0.mul ub).mono⟩,λw hw=>?_,θ,dA ⟨z,T,⟨cz,least,λa ha=>(rt.mem a).mpr ha,λa b dq c hc=>cz.side dq ((rt.mem c).mp hc)⟩,λm cf zs N=>q _ (dz.part hp hn ⟨iC SP,m,z,T,ma,?_,?_,least,cz,N,ub,?_⟩)⟩⟩
 ·obtain⟨t,ht,rfl⟩:=bG.mp hw;obtain⟨t1,t2,t3⟩:=M_ t ht;have bq:BL 4003 (iC SP / t.2.2):=by
   have:BL 4003 ((iC SP).fdiv t.2.2):=ub.fdiv
   rwa [cS _ (by have:=(sr t ht).w_pos;lia)] at this
  exact⟨(t1.mul bq).mono,(t2.mul bq).mono⟩
 ·rw[x6];exact r6
 ·rw[x6];exact rt
 ·have e1:=Φ eW N.cs_eq;have e2:(z::T).length=SP.length:=by obtain⟨X,Y,a1,a2⟩:=rt;have:=Φ eW a1;rw[a2];simp at this⊢;lia
  rw[e2,aY] at e1;lia
def rg(cs:ω Pt)(i:Nat):Pt:=cs.getD (i % cs.length) (0,0)
def MT(h:0<cs.length)(i:Nat):cs[i % cs.length]?=ψ (rg cs i):=by
 unfold rg;rw[eD,aG (lU _ h)];rfl
def xV(h:0<cs.length)(i:Nat):rg cs i∈cs:=eY (MT h i)
def GK(h:i<cs.length):cs[i]?=ψ (rg cs i):=by
 have:=MT (cs:=cs) ν i
 rwa [hU h] at this
def Gm(h1:l[i]?=ψ a)(h2:l[i+1]?=ψ b):ie l a b:=by
 obtain⟨l1,e1⟩:=cB.mp h1;obtain⟨l2,e2⟩:=cB.mp h2;refine⟨l.take i,l.drop (i+2),?_⟩
 conv=>lhs;rw[<-oV i l]
 rw[gR l1,gR l2,e1,e2]
def Ga(h:ie l a b):∃i,l[i]?=ψ a/\l[i+1]?=ψ b:=by
 obtain⟨x,y,e⟩:=h;refine⟨x.length,?_,?_⟩
 ·rw[e,dR ν];simp
 ·rw[e,dR ν];simp
def Ft(h:0<cs.length)(i:Nat):az cs (rg cs i) (rg cs (i+1)):=by
 have hj:=lU i h;refine Gm (i:=i % cs.length) ?_ ?_
 ·rw[dN hj];exact MT h i
 ·have g:=MT h (i+1);by_cases hl:i % cs.length+1<cs.length
  ·rw[dN hl,<-g];congr 1;rw[NA];by_cases h1:cs.length=1
   ·lia
   ·rw[show 1 % cs.length=1 from hU ν,hU hl]
  ·rw[dR ν,show i % cs.length+1-cs.length=0 by lia,GT,Ω ν,<-g];congr 1;rw[NA];by_cases h1:cs.length=1
   ·rw[h1];lia
   ·rw[show 1 % cs.length=1 from hU ν,show i % cs.length+1=cs.length by lia,Nat.mod_self]
def HU(i:Nat):rg cs (i+cs.length)=rg cs i:=by unfold rg;rw[IN]
def Tr(h:az cs a b):∃k,k<cs.length/\a=rg cs (k+(cs.length-1))/\b=rg cs k:=by
 obtain⟨i,h1,h2⟩:=Ga h;have l2:i+1<(cs++cs.take 1).length:=(cB.mp h2).1;rw[bR,nQ] at l2;have hi:i<cs.length:=ν
 have fj:0<cs.length:=ν
 rw[dN hi,GK hi] at h1;have h1:rg cs i=a:=eK h1;by_cases hl:i+1<cs.length
 ·rw[dN hl,GK hl] at h2;refine⟨i+1,hl,?_,(eK h2).symm⟩;rw[show i+1+(cs.length-1)=i+cs.length by lia,HU,h1]
 ·rw[dR ν,show i+1-cs.length=0 by lia,GT,Ω ν,GK fj] at h2;refine⟨0,fj,?_,(eK h2).symm⟩;rw[show 0+(cs.length-1)=i by lia,h1]
def Au(h:0<cs.length)(k:Nat):az cs (rg cs (k+(cs.length-1))) (rg cs k):=by
 have:=Ft h (k+(cs.length-1))
 rwa [show k+(cs.length-1)+1=k+cs.length by lia,HU] at this
def ZT(n:cs.Nodup)(h:0<cs.length)(e:rg cs i=rg cs j):i % cs.length=j % cs.length:=by
 refine(List.getElem?_inj (lU i h) n).mp ?_;rw[MT h i,MT h j,e]
def Gh(h:0<d)(hd:d<n):(i+d) % n≠i % n:=by
 have h0:=lU i (show 0<n by lia);rw[NA,hU hd];rcases Nat.lt_or_ge (i % n+d) n with h' |h'
 ·rw[hU h'];lia
 ·rw[Nat.mod_eq_sub_mod h',hU ν];lia
def b_.bend_rg(c:b_ cs)(i:Nat):0<bZ (rg cs i) (rg cs (i+1)) (rg cs (i+2)):=by
 have h3:=c.len;refine c.strict _ _ (Ft ν i) _ (xV ν _) (λe=>?_) λe=>?_
 ·exact Gh (i:=i) (d:=2) ν ν (ZT c.nodup ν e)
 ·exact Gh (i:=i+1) (d:=1) ν ν (ZT c.nodup ν e)
theorem Kj:∀(l:ω Pt),∃M:Int,0<M/\∀p∈l,-M<p.2/\p.2<M
 | []=>⟨1,η,δ⟩
 |p::l=>by
  obtain⟨M,h,hM⟩:=Kj l;refine⟨M+p.2.natAbs+1,ν,λq hq=>?_⟩;rcases aO.mp hq with rfl |hq
  ·lia
  ·have:=hM q hq;lia
def Ca(c:b_ cs)(h1:az cs t u)(h2:az cs u v)(nt:t≠v)(e1:bB u t)(e2:bB u v):∀w∈cs,¬bB w u:=by
 obtain⟨M,hM,hb⟩:=Kj cs;have mono:∀p∈cs,∀q∈cs,bB p q->af ⟨2*M,1,0⟩ p<af ⟨2*M,1,0⟩ q:=by
  intro p hp q hq hl;have b1:=hb p hp;have b2:=hb q hq;unfold af;dsimp only;rcases hl with h | ⟨h,h'⟩
  ·have:2*M*(q.1-p.1-1) ≥ 0:=bT ν ν;have e:2*M*(q.1-p.1-1)=2*M*q.1-2*M*p.1-2*M:=ε;lia
  ·rw[h];lia
 have mu:=(az.mem h1).2;have mt:=(az.mem h1).1;have mv:=(az.mem h2).2;have lb:=WN (L:=⟨2*M,1,0⟩) c h1 h2 nt (aK (mono u mu t mt e1)) (aK (mono u mu v mv e2));intro w hw hl;have:=mono w hw u mu hl;have:=lb w hw;lia
def Lc(c:b_ (z::T))(least:∀q∈T,¬bB q z)(hk:k<(z::T).length):(bB (rg (z::T) (k+((z::T).length-1))) (rg (z::T) (k+((z::T).length-2)))/\bB (rg (z::T) (k+((z::T).length-1))) (rg (z::T) k))↔k=1:=by
 have h3:=c.len;have z0:rg (z::T) 0=z:=by have:=GK (cs:=z::T) (i:=0) ν;simp at this;exact this.symm
 have sj:∀i,i % (z::T).length≠0->bB z (rg (z::T) i):=by
  intro i hi;have m:=xV (cs:=z::T) ν i;have ne:rg (z::T) i≠z:=λe=>hi (by
   have:=ZT c.nodup ν (i:=i) (j:=0) (by rw[e,z0])
   rwa [Nat.zero_mod] at this)
  rcases qY z (rg (z::T) i) with h |h |h
  ·exact h
  ·exact Ψ h.symm ne
  ·rcases aO.mp m with e |m
   ·exact Ψ e ne
   ·exact Ψ h (least _ m)
 generalize hn:(z::T).length=n at *;constructor
 ·rintro⟨a,b⟩;have c1:az (z::T) (rg (z::T) (k+(n-2))) (rg (z::T) (k+(n-1))):=by
   have:=Ft (cs:=z::T) ν (k+(n-2))
   rwa [show k+(n-2)+1=k+(n-1) by lia] at this
  have c2:az (z::T) (rg (z::T) (k+(n-1))) (rg (z::T) k):=by
   have:=Au (cs:=z::T) ν k
   rwa [hn] at this
  have nt:rg (z::T) (k+(n-2))≠rg (z::T) k:=λe=>by
   have:=ZT c.nodup ν e;rw[hn] at this;exact Gh ν ν this
  have ll:=Ca c c1 c2 nt a b z δ;apply bK;intro hk1;refine ll (sj _ ?_);intro e;by_cases h0:k=0
  ·subst h0;rw[hU ν] at e;lia
  ·rw[show k+(n-1)=(k-1)+n by lia,IN,hU ν] at e;lia
 ·rintro rfl;have e1:rg (z::T) (1+(n-1))=z:=by rw[show 1+(n-1)=0+(z::T).length by lia,HU,z0]
  rw[e1];exact⟨sj _ (by rw[hU ν];lia),sj _ (by rw[hU ν];lia)⟩
section
variable{L:br}{cs zs:ω Pt}{sh cf:Int}
structure ig(L:br)(sh:Int)(cs:List Pt)(cf:Int)(zs:List Pt):Prop where
 pos:0<cf
 cvx:b_ zs
 first:∃z T,zs=z::T/\∀q∈T,¬bB q z
 cop:∀d:Nat,(d:Int)∣cf->(∀z∈zs,(d:Int)∣z.1/\(d:Int)∣z.2)->d=1
 corner:∀z∈zs,∃(t:H3)(k f:Int),Pm L cs t/\0<k/\0<f/\k*(sh*z.1)=f*t.1/\k*(sh*z.2)=f*t.2.1/\k*cf=f*t.2.2
 side:∀a b,az zs a b->∃(t1 t2:H3)(κ μ:Int),qo L cs t1 t2/\0<κ/\0<μ/\∀X Y W,κ*gO (aq a) (aq b) (cf*X,cf*Y,W)=μ*gO t1 t2 (sh*X,sh*Y,W)
 line:∃(a b:Pt)(t1 t2:H3)(κ μ:Int),az zs a b/\h9 L cs t1/\Entry L cs t2/\0<κ/\0<μ/\∀X Y W,κ*gO (aq a) (aq b) (cf*X,cf*Y,W)=μ*gO t1 t2 (sh*X,sh*Y,W)
 area:∃F m:Int,0<F/\0<m/\m*cf=sh*F/\m*m*hV c6 zs=hV c6 ((KN L cs).map (gF F))/\∀t∈KN L cs,db F t
 len:zs.length<=cs.length+2
def EL(h:gx A B)(k:az B a b):az A a b:=by
 obtain⟨X,Y,rfl,rfl⟩:=h;exact JD k
def JC(h:az l a b):az (l.map f) (f a) (f b):=by
 obtain⟨x,y,e⟩:=h;refine⟨x.map f,y.map f,?_⟩;rw[<-kB,<-cI,e];simp
theorem Kd(fp:db F p)(fq:db F q)(ea:scl m a=gF F p)(eb:scl m b=gF F q)(es:m*cf=sh*F)(X Y W:Int):m*m*gO (aq a) (aq b) (cf*X,cf*Y,W)=(F / p.2.2*(F / q.2.2))*gO p q (sh*X,sh*Y,W):=by
 have e1:=fp.e;have e2:=fq.e;unfold scl gF at ea eb;simp only[fK] at ea eb;obtain⟨a1,a2⟩:=ea;obtain⟨b1,b2⟩:=eb;generalize F / p.2.2=f1 at *;generalize F / q.2.2=f2 at *;have l:m*m*gO (aq a) (aq b) (cf*X,cf*Y,W)=(m*a.1)*((m*b.2)*W-(m*cf)*Y)-(m*a.2)*((m*b.1)*W-(m*cf)*X)+(m*cf)*((m*b.1)*Y-(m*b.2)*X):=by unfold gO aq;dsimp only;grind
 rw[l,a1,a2,b1,b2,es];unfold gO;dsimp only;have g1:(p.1*f1)*((q.2.1*f2)*W-sh*F*Y)=f1*f2*(p.1*(q.2.1*W-q.2.2*(sh*Y))):=by rw[<-e2];grind
 have g2:(p.2.1*f1)*((q.1*f2)*W-sh*F*X)=f1*f2*(p.2.1*(q.1*W-q.2.2*(sh*X))):=by rw[<-e2];grind
 have g3:sh*F*((q.1*f2)*Y-(q.2.1*f2)*X)=f1*f2*(p.2.2*(q.1*(sh*Y)-q.2.1*(sh*X))):=by rw[<-e1];grind
 rw[g1,g2,g3];grind
theorem ji.facts(c:b_ cs)(hp:∃z∈cs,0<af L z)(hn:∃z∈cs,af L z<0)(h0:0<sh)(h:ji L sh cs cf zs):ig L sh cs cf zs:=by
 obtain⟨F,m,z,T,hF,jt,rot,least,cz,N,_,hl⟩:=h;obtain⟨P',iI,cut,_⟩:=CM c hp hn;have iI:gx (KN L cs) P':=iI;have mm:∀t∈P',db F t:=λt ht=>jt t ((iI.mem t).mpr ht);have mp:=N.mpos;have es:=N.sh_eq;have ec:z::T=zs.map (scl m):=N.cs_eq;have sF:0<sh*F:=aJ h0 hF;have pos:0<cf:=by rw[es] at sF;exact oH mp sF
 have xq:gx (P'.map (gF F)) (z::T):=((iI.map (gF F)).symm).trans rot;have F_:∀p q,GY (P'++P'.take 1) p q->p∈P'/\q∈P':=λp q ⟨x,y,e⟩=>by
  have sub:∀t,t∈P'++P'.take 1->t∈P':=λt ht=>by
   rcases bQ.mp ht with h |h
   ·exact h
   ·exact kH h
  exact⟨sub p (by rw[e];simp),sub q (by rw[e];simp)⟩
 refine⟨pos,b_.unscl mp (by rw[<-ec];exact cz),?_,N.cop,?_,?_,?_,⟨F,m,hF,mp,es.symm,?_,jt⟩,hl⟩
 ·cases zs with
  |nil=>simp at ec
  |cons z' T'=>
   simp only[aR,gW] at ec;refine⟨z',T',rfl,λq hq e_=>?_⟩;refine least (scl m q) (by rw[ec.2];exact cT hq) ?_;rw[ec.1];exact(EF mp).mpr e_
 ·intro x hx;have m1:scl m x∈z::T:=by rw[ec];exact cT hx
  obtain⟨t,ht,e⟩:=bG.mp ((xq.mem _).mpr m1);have ft:=mm t ht;have ee:=ft.e;have ff:=ft.f;unfold scl gF at e;simp only[fK] at e;refine⟨t,m,sh*(F / t.2.2),cut.pm t ht,mp,aJ h0 ff,?_,?_,?_⟩
  ·have:=e.1;grind
  ·have:=e.2;grind
  ·rw[<-es,lI,ee]
 ·intro a b dq;have k1:az (z::T) (scl m a) (scl m b):=by rw[ec];exact JC dq
  have k2:ie ((P'++P'.take 1).map (gF F)) (scl m a) (scl m b):=by
   have:=EL xq k1;rw[cI,kB];exact this
  obtain⟨p,q,z_,ea,eb⟩:=Cj k2;obtain⟨HE,H_⟩:=F_ p q z_;exact⟨p,q,m*m,_,cut.adj p q z_,aJ mp mp,aJ (mm p HE).f (mm q H_).f,λX Y W=>Kd (mm p HE) (mm q H_) ea eb es.symm X Y W⟩
 ·obtain⟨p,q,hx,hy,z_⟩:=cut.line;obtain⟨HE,H_⟩:=F_ p q z_;have k1:az (P'.map (gF F)) (gF F p) (gF F q):=by
   obtain⟨x,y,e⟩:=z_;refine⟨x.map (gF F),y.map (gF F),?_⟩;rw[<-kB,<-cI,e];simp
  have k2:az (zs.map (scl m)) (gF F p) (gF F q):=by rw[<-ec];exact EL xq.symm k1
  have k3:ie ((zs++zs.take 1).map (scl m)) (gF F p) (gF F q):=by rw[cI,kB];exact k2
  obtain⟨a,b,dq,ea,eb⟩:=ZC k3;exact⟨a,b,p,q,m*m,_,dq,hx,hy,aJ mp mp,aJ (mm p HE).f (mm q H_).f,λX Y W=>Kd (mm p HE) (mm q H_) ea.symm eb.symm es.symm X Y W⟩
 ·rw[<-vX,<-ec];exact(zT rot).symm
theorem Kz(p q:H3)(h1:k*r.1=f*t.1)(h2:k*r.2.1=f*t.2.1)(h3:k*r.2.2=f*t.2.2):k*gO p q r=f*gO p q t:=by
 have l:k*gO p q r=p.1*(q.2.1*(k*r.2.2)-q.2.2*(k*r.2.1))-p.2.1*(q.1*(k*r.2.2)-q.2.2*(k*r.1))+p.2.2*(q.1*(k*r.2.1)-q.2.1*(k*r.1)):=by unfold gO;grind
 rw[l,h1,h2,h3];unfold gO;grind
theorem ig.left(c:b_ cs)(h:ig L sh cs cf zs)(hz:z∈zs)(hc:az cs u v):0<=gO (aq u) (aq v) (sh*z.1,sh*z.2,cf):=by
 obtain⟨t,k,f,pm,hk,hf,e1,e2,e3⟩:=h.corner z hz;have e:=Kz (aq u) (aq v) (r:=(sh*z.1,sh*z.2,cf)) e1 e2 e3;have p:=Vl c pm hc;exact FT hk (by rw[e];exact bT ν p)
theorem ig.value(h:ig L sh cs cf zs)(hz:z∈zs):f_ L (sh*z.1,sh*z.2,cf)<=0:=by
 obtain⟨t,k,f,pm,hk,hf,e1,e2,e3⟩:=h.corner z hz;have e:k*f_ L (sh*z.1,sh*z.2,cf)=f*f_ L t:=by
  have l:k*f_ L (sh*z.1,sh*z.2,cf)=L.a*(k*(sh*z.1))+L.b*(k*(sh*z.2))-L.k*(k*cf):=by unfold f_;dsimp only;grind
  rw[l,e1,e2,e3];unfold f_;grind
 have:=pm.exc_le;apply fP.mp;intro hp;have h1:=aJ hk hp;have h2:f*f_ L t<=0:=eU ν this;lia
theorem ig.inside(c:b_ cs)(hn:∃z∈cs,af L z<0)(h:ig L sh cs cf zs){X Y W:Int}(hr:∀u v,az cs u v->0<gO (aq u) (aq v) (sh*X,sh*Y,W))(he:f_ L (sh*X,sh*Y,W)<0):∀a b,az zs a b->0<gO (aq a) (aq b) (cf*X,cf*Y,W):=by
 intro a b dq;obtain⟨t1,t2,d,g,A,hk,hm,e⟩:=h.side a b dq;have:=Fi c hn A hr he;exact oH hk (by rw[e];exact aJ hm this)
theorem Gs(c:b_ cs)(hp:∃z∈cs,0<af L z)(hn:∃z∈cs,af L z<0)(h0:0<sh)(h1:ig L sh cs s1 z1)(h2:ig (og L) sh cs s2 z2):(hV c6 z1*(s2*s2)+hV c6 z2*(s1*s1))*(sh*sh)=hV c6 cs*(s1*s1)*(s2*s2):=by
 obtain⟨F1,m1,f1,p1,e1,a1,uj⟩:=h1.area;obtain⟨F2,m2,f2,p2,e2,a2,uk⟩:=h2.area;have A:=Nv c hp hn f1 f2 uj uk;rw[<-a1,<-a2] at A;have k1:(0:Int)<m1*m1*(m2*m2):=aJ (aJ p1 p1) (aJ p2 p2);refine cV (a:=m1*m1*(m2*m2)) ν ?_;have r:m1*m1*(m2*m2)*(hV c6 cs*(s1*s1)*(s2*s2))=hV c6 cs*((m1*s1)*(m1*s1))*((m2*s2)*(m2*s2)):=ε
 have l:m1*m1*(m2*m2)*((hV c6 z1*(s2*s2)+hV c6 z2*(s1*s1))*(sh*sh))=(m1*m1*hV c6 z1*((m2*s2)*(m2*s2))+m2*m2*hV c6 z2*((m1*s1)*(m1*s1)))*(sh*sh):=ε
 rw[r,l,e1,e2];have l2:(m1*m1*hV c6 z1*(sh*F2*(sh*F2))+m2*m2*hV c6 z2*(sh*F1*(sh*F1)))*(sh*sh)=(F2*F2*(m1*m1*hV c6 z1)+F1*F1*(m2*m2*hV c6 z2))*(sh*sh*(sh*sh)):=ε
 rw[l2,A];grind
end
abbrev lo(x:Int):Pt:=(x,x*x)
abbrev hi(top x:Int):Pt:=(x,top-x*x)
def Ag(p q r s ox oy:Int)(a b c:Pt):bZ (aff p q r s ox oy a) (aff p q r s ox oy b) (aff p q r s ox oy c)=(p*s-q*r)*bZ a b c:=by
 unfold bZ aff;dsimp only;grind
def Ih{p q r s ox oy:Int}(hd:0<p*s-q*r)(a b:Pt)(h:aff p q r s ox oy a=aff p q r s ox oy b):a=b:=by
 unfold aff at h;simp only[fK] at h;obtain⟨h1,h2⟩:=h;have e1:(p*s-q*r)*(a.1-b.1)=0:=ε
 have e2:(p*s-q*r)*(a.2-b.2)=0:=ε
 have k1:=(tY.mp e1).resolve_left ν;have k2:=(tY.mp e2).resolve_left ν;exact lV ν ν
def JQ(z w:Pt):HT.lexLt [z.1,z.2] [w.1,w.2]=decide (bB z w):=by
 unfold bB;simp only[HT.lexLt];by_cases h:z.1=w.1
 ·rw[Ω h];by_cases h2:z.2=w.2
  ·rw[Ω h2];simp[h,h2]
  ·rw[υ h2];simp[h]
 ·rw[υ h];simp[h]
def HV{α:Type}(j:Nat)(xs:ω α):gx xs (turned j xs):=⟨xs.take j,xs.drop j,by rw[oV],rfl⟩
def TZ{α β:Type}(j:Nat)(f:α->β)(xs:ω α):turned j (xs.map f)=(turned j xs).map f:=by unfold turned;simp
def k8.norm{cs:ω Pt}{ds:ω Pt}(h:k8 share cs m sh ds j):gk share (turned j cs) m sh (turned j ds):=by
 refine⟨h.mpos,h.sh_eq,?_,λd h1 h2=>h.cop d h1 λz hz=>h2 z (((HV j ds).mem z).mp hz)⟩
 conv=>lhs;rw[h.cs_eq]
 exact TZ j _ ds
def k8.first{cs:ω Pt}{ds:ω Pt}(h:k8 share cs m sh ds j):∃w T,turned j cs=w::T/\∀x∈T,¬bB x w:=by
 obtain⟨z,T,e⟩:∃z T,turned j ds=z::T:=by
  have hj:=h.j_lt;refine⟨ds[j],ds.drop (j+1)++ds.take j,?_⟩;show ds.drop j++ds.take j=_;rw[gR hj];rfl
 have ez:ds[j]?=ψ z:=by
  have:(turned j ds)[0]?=ψ z:=by rw[e];rfl
  have hj:=h.j_lt;unfold turned at this;rw[dN θ,GS] at this;simpa using this
 refine⟨scl m z,T.map (scl m),?_,λx hx=>?_⟩
 ·conv=>lhs;rw[h.cs_eq]
  rw[TZ,e];rfl
 ·obtain⟨y,hy,rfl⟩:=bG.mp hx;rw[EF h.mpos];have:=h.least y (((HV j ds).mem y).mpr (by rw[e];simp[hy])) z ez;rw[JQ] at this;simpa using this
theorem tT:∀(xs:ω D),(∀x∈xs,f x x=ψ ζ)->js f xs xs=ψ ζ
 | [],_=>rfl
 |x::xs,h=>by
  simp only[js,h x δ,tT xs λy hy=>h y (by simp[hy])];rfl
def JI(n:Nat)(i:Int):fo (n+1) (.int i) (.int i)=ψ ζ:=by simp[fo]
def JJ(n:Nat)(z:Pt):fo (n+2) (pt z) (pt z)=ψ ζ:=by
 show js (fo (n+1)) _ _=_;refine tT _ λx hx=>?_;simp only[aO,eM,or_false] at hx;rcases hx with rfl |rfl <;> exact JI n _
def Bl(xs:ω D)(J:Nat->En->Prop)(step:∀i x a,xs[i]?=ψ x->J i a->∀F:j8,F.rt=E.rt->F.bk=E.nx->(∀a',J (i+1) a'->F.nx a')->(∀a',J (i+1) a'->F.ct a')->g x a λa1=>t F a1)
  (last:∀a,J xs.length a->E.nx a) (a:En) (h:J 0 a):Bk g t xs E a:=by
 refine jG (λys a=>∃i,i<=xs.length/\ys=xs.drop i/\J i a) ?_ ?_ xs a ⟨0,gH _,rfl,h⟩
 ·rintro x ys a ⟨i,hi,e,hJ⟩ F f1 f2 f3 f4;have e_:i<xs.length:=by
   apply Nat.not_le.mp;intro hn;rw[List.drop_of_length_le hn] at e;cases e
  rw[gR e_] at e;cases e;exact step i _ a (aG e_) hJ F f1 f2 (λa' h=>f3 a' ⟨i+1,ν,rfl,h⟩) λa' h=>f4 a' ⟨i+1,ν,rfl,h⟩
 ·rintro a ⟨i,hi,e,hJ⟩;have:i=xs.length:=by
   have:=Φ eW e;simp at this;lia
  subst this;exact last a hJ
def Ho{lo:Int}(h:(uG lo n)[i]?=ψ x):x = .int (lo+i)/\i<n:=by
 unfold uG at h;rw[cG] at h;by_cases hi:i<n
 ·rw[uK hi] at h;cases h;exact⟨rfl,hi⟩
 ·rw[iX (by simpa using hi)] at h;cases h
def JM(lo:Int)(n:Nat)(J:Nat->En->Prop)(step:∀i a,i<n->J i a->∀F:j8,F.rt=E.rt->F.bk=E.nx->(∀a',J (i+1) a'->F.nx a')->(∀a',J (i+1) a'->F.ct a')->g (.int (lo+i)) a λa1=>t F a1)
  (last:∀a,J n a->E.nx a) (a:En) (h:J 0 a):Bk g t (uG lo n) E a:=by
 refine Bl _ J (λi x a e hJ=>?_) (λa h=>last a (by rwa [Hq] at h)) a h;obtain⟨rfl,hi⟩:=Ho e;exact step i a hi hJ
def XR:FD:=λds Q=>∃n b p:Int,ds=[.int n,.int b,.int p]/\(0<b/\BL 9000 b)/\(0<=p/\p<=1000)/\∀x,0<=x->x<b->Q (.int x)
def SX:τ XR GA ["_law_number","_law_base","_law_place","_law_k"]:=by
 rintro ds Q ⟨n,b,p,rfl,⟨b0,b1⟩,⟨p0,p1⟩,q⟩;rw[cK 1 rfl];unfold GA;simp only[gQ,VF,aR,bO,aW,bF];refine dI (λc=>∃(m:Int)(o:Option S),c=[ae (.int m),ae (.int b),ae (.int p),o]) (λK hK=>?_) ?_
 ·nofun;refine⟨⟨ν,ν⟩,?_⟩;refine jG (λ_ c=>∃(m:Int)(o:Option S),c=[ae (.int m),ae (.int b),ae (.int p),o]) ?_ ?_ _ _ ⟨n,ξ,rfl⟩
  ·rintro x xs c ⟨m,o,rfl⟩ F _ _ hn _;unfold yS;nofun;exact⟨b1.divOk ν,hn _ ⟨m.fdiv b,ae x,rfl⟩⟩
  ·rintro c ⟨m,o,rfl⟩;exact hK _ ⟨m,o,rfl⟩
 rintro c ⟨m,o,rfl⟩;nofun;obtain⟨a0,a1⟩:=fQ (a:=m) b0;exact⟨⟨ν⟩,q _ a0 a1⟩
abbrev i8(x y w:Int):D:=.tup [.int x,.int y,.int w]
def YA{cs:ω Pt}{k j:Nat}(hk:k<cs.length)(hj:j<=cs.length):jm (cs.map pt) (0+(k:Int)-(j:Int))=ψ (pt (rg cs (k+(cs.length-j)))):=by
 unfold jm n9;rw[aY];by_cases h:j<=k
 ·rw[Ω ν,Ω ν];have e:(0+(k:Int)-(j:Int)).toNat=k-j:=ν
  rw[e];show(cs.map pt)[k-j]?=_;rw[cG,GK ν,show k+(cs.length-j)=(k-j)+cs.length by lia,HU];rfl
 ·rw[υ ν,Ω ν];have e:(0+(k:Int)-(j:Int)+(cs.length:Int)).toNat=k+(cs.length-j):=ν
  rw[e];show(cs.map pt)[k+(cs.length-j)]?=_;rw[cG,GK ν];rfl
def CS{cs:ω Pt}{k:Nat}(hk:k<cs.length){Q:D->Prop}:ci (.tup (cs.map pt)) (.int (0+(k:Int))) Q=Q (pt (rg cs k)):=by
 have:=YA hk (j:=0) ν;simp only[Int.natCast_zero,Int.sub_zero,zL,HU] at this;simp only[ci,this]
def JP{cs:ω Pt}{k:Nat}(hk:k<cs.length){Q:D->Prop}:ci (.tup (cs.map pt)) (.int (0+(k:Int)-1)) Q=Q (pt (rg cs (k+(cs.length-1)))):=by
 have:=YA hk (j:=1) ν;simp only[Int.natCast_one] at this;simp only[ci,this]
def Br{cs:ω Pt}{k:Nat}(hk:k<cs.length)(h2:2<=cs.length){Q:D->Prop}:ci (.tup (cs.map pt)) (.int (0+(k:Int)-2)) Q=Q (pt (rg cs (k+(cs.length-2)))):=by
 have:=YA hk (j:=2) ν;have e:((2:Nat):Int)=2:=rfl;rw[e] at this;simp only[ci,this]
theorem Bs:∀{i:Nat},i<=zs.length->kU (rg zs (zs.length-1)) (zs.take i)=rg zs (i+(zs.length-1))
 | 0,_=>by rw[uW];rfl
 |j+1,h=>by
  rw[nS,GK ν];show kU _ (zs.take j++[rg zs j])=_;rw[mW,show j+1+(zs.length-1)=j+zs.length by lia,HU]
def Rq(f:Pt->Pt->Int)(h:i<zs.length):fg f (rg zs (zs.length-1)) (zs.take (i+1))=fg f (rg zs (zs.length-1)) (zs.take i)+f (rg zs (i+(zs.length-1))) (rg zs i):=by
 rw[nS,GK h,tG,Bs ν];show _+(f _ _+0)=_;rw[uU]
def Vr(f:Pt->Pt->Int)(h:0<zs.length):fg f (rg zs (zs.length-1)) zs=hV f zs:=by
 refine WD f (X:=zs.take (zs.length-1)) ?_
 conv=>lhs;rw[<-sU (l:=zs),show zs.length=(zs.length-1)+1 by lia]
 rw[nS,GK ν];rfl
def XU:FD:=λds Q=>∃a b c:Pt,ds=[pt a,pt b,pt c]/\(BP a/\BP b/\BP c)/\Q (.int (bZ a b c))
def VD:τ XU KK ["_law_one","_law_two","_law_three","_law_ahead"]:=by
 rintro ds Q ⟨a,b,c,rfl,⟨ba,bb,bc⟩,q⟩;rw[cK 1 rfl];unfold KK;nofun;have e:(b.1-a.1)*(c.2-b.2)-(b.2-a.2)*(c.1-b.1)=bZ a b c:=by unfold bZ;grind
 refine⟨(bb.1.sub ba.1).mulOk (bc.2.sub bb.2),(bb.2.sub ba.2).mulOk (bc.1.sub bb.1),?_⟩;rw[e];exact q
abbrev No(m:Int):Int:=(if 0<m then 1 else 0)-(if m<0 then 1 else 0)
abbrev fe(sh X Y W:Int)(a b:Pt):Int:=gO (aq a) (aq b) (sh*X,sh*Y,W)
def IB:FD:=λds Q=>∃(sh:Int)(cs:ω Pt)(X Y W:Int),ds=[pc sh cs,i8 X Y W]/\(BL 9000 sh/\Ae 9000 cs/\1<=cs.length/\cs.length<=100)/\(BL 9000 X/\BL 9000 Y/\BL 9000 W) /\
 ∀M,(∃a b,az cs a b/\M=fe sh X Y W a b)->(∀a b,az cs a b->M<=fe sh X Y W a b)->Q (.int (No M))
def ZU(sh X Y W:Int)(a b:Pt):(b.1-a.1)*(Y*sh-a.2*W)-(b.2-a.2)*(X*sh-a.1*W)=fe sh X Y W a b:=by unfold fe gO aq;dsimp only;grind
def OP:τ IB EA ["_law_piece","_law_spot","_law_share_here","_law_corners","_law_least","_law_k","_law_one","_law_x","_law_y","_law_side"]:=by
 rintro ds Q ⟨sh,cs,X,Y,W,rfl,⟨bs,hS,l1,l2⟩,⟨bX,bY,bW⟩,q⟩;rw[cK 8 rfl];unfold EA;simp only[gQ,O0,aR,bO,aW,bF];generalize hP:pc sh cs=PD;generalize hT:i8 X Y W=TD;have pos:0<cs.length:=ν
 refine dI (λf=>f=[ae PD,ae TD,ae (.int sh),ae (.tup (cs.map pt)),ξ,ξ,ξ,ξ,ξ,ξ]) (λK hK=>?_) ?_
 ·rw[<-hP] at hK⊢;nofun;exact hK _ rfl
 rintro f rfl;refine eO [ae PD,ae TD,ae (.int sh),ae (.tup (cs.map pt)),ae .non,ξ,ξ,ξ,ξ,ξ] (λK hK=>?_) ?_
 ·nofun;exact hK
 refine dI (λf=>∃(M:Int)(a b c d e:Option S),((∃a b,az cs a b/\M=fe sh X Y W a b)/\∀a b,az cs a b->M<=fe sh X Y W a b)/\f=[ae PD,ae TD,ae (.int sh),ae (.tup (cs.map pt)),ae (.int M),a,b,c,d,e]) (λK hK=>?_) ?_
 ·simp only[lC,TN,aD,aV,r1,sB,aQ,aB,aE,S.val,aY];refine⟨by constructor <;> lia,?_⟩;have nn:(((cs.length:Nat):Int)).toNat=cs.length:=ν
  simp only[nn];refine JM 0 cs.length (λi f=>∃(lo:D)(a b c d e:Option S),((i=0/\lo = .non)\/(∃M k0:Int×Nat,k0.2<i/\M.1=fe sh X Y W (rg cs (k0.2+(cs.length-1))) (rg cs k0.2)/\(∀k,k<i->M.1<=fe sh X Y W (rg cs (k+(cs.length-1))) (rg cs k))/\lo = .int M.1))/\f=[ae PD,ae TD,ae (.int sh),ae (.tup (cs.map pt)),ae lo,a,b,c,d,e]) ?_ ?_ _ ⟨.non,ξ,ξ,ξ,ξ,ξ,dA ⟨rfl,rfl⟩,rfl⟩
  ·rintro i f hi ⟨lo,a,b,c,d,e,hlo,rfl⟩ F _ _ hn _;obtain⟨p1,p2⟩:=hS _ (xV pos (i+(cs.length-1)));obtain⟨q1,q2⟩:=hS _ (xV pos i);unfold xB;subst hT;obtain⟨u,hu⟩:∃u,u=rg cs (i+(cs.length-1)):=⟨_,rfl⟩;have bx:=(bX.mul bs).sub (p1.mul bW);have ro:=(bY.mul bs).sub (p2.mul bW);have e1:∀{Q:D->Prop},ci (.tup (cs.map pt)) (.int (0+(i:Int)-1)) Q=Q (pt u):=λ{Q}=>(by rw[hu];exact JP hi);rw[<-hu] at p1 p2 bx ro;simp only[cY,aP,aM];refine dI (λf=>f=[ae PD,ae (i8 X Y W),ae (.int sh),ae (.tup (cs.map pt)),ae lo,ae (.int (0+(i:Int))),ae (pt u),c,d,e]) (λK' k7=>?_) ?_
   ·simp only[eI,r2,aQ,rC,S.val,nF,aE,aB,e1,aP,aM];exact k7 _ rfl
   rintro f rfl;refine dI (λf=>f=[ae PD,ae (i8 X Y W),ae (.int sh),ae (.tup (cs.map pt)),ae lo,ae (.int (0+(i:Int))),ae (pt u),ae (.int (X*sh-u.1*W)),d,e]) (λK' k7=>?_) ?_
   ·simp only[eI,r2,aQ,rC,S.val,nF,fJ,nU,yG,aE,aB,aP,aM];exact⟨bX.mulOk bs,p1.mulOk bW,k7 _ rfl⟩
   rintro f rfl;refine dI (λf=>f=[ae PD,ae (i8 X Y W),ae (.int sh),ae (.tup (cs.map pt)),ae lo,ae (.int (0+(i:Int))),ae (pt u),ae (.int (X*sh-u.1*W)),ae (.int (Y*sh-u.2*W)),e]) (λK' k7=>?_) ?_
   ·simp only[eI,r2,aQ,rC,S.val,nF,fJ,iT,yG,aE,aB,aP,aM];exact⟨bY.mulOk bs,p2.mulOk bW,k7 _ rfl⟩
   rintro f rfl;refine dI (λf=>f=[ae PD,ae (i8 X Y W),ae (.int sh),ae (.tup (cs.map pt)),ae lo,ae (.int (0+(i:Int))),ae (pt u),ae (.int (X*sh-u.1*W)),ae (.int (Y*sh-u.2*W)),ae (.int (fe sh X Y W u (rg cs i)))]) (λK' k7=>?_) ?_
   ·simp only[eI,r2,aQ,rC,S.val,nF,fJ,CS hi,nU,iT,aE,aB,aP,aM];refine⟨(q1.sub p1).mulOk ro,(q2.sub p2).mulOk bx,?_⟩;rw[ZU];exact k7 _ rfl
   rintro f rfl;subst hu;nofun;have mk:∀(M:Int)(k0:Nat)(a b c d e:Option S),k0<i+1->M=fe sh X Y W (rg cs (k0+(cs.length-1))) (rg cs k0)->(∀k,k<i+1->M<=fe sh X Y W (rg cs (k+(cs.length-1))) (rg cs k))->F.nx [ae PD,ae (i8 X Y W),ae (.int sh),ae (.tup (cs.map pt)),ae (.int M),a,b,c,d,e]:=
    λM k0 a b c d e h1 h2 h3=>hn _ ⟨_,a,b,c,d,e,cX ⟨(M,0),(0,k0),h1,h2,h3,rfl⟩,rfl⟩
   have le:∀{M:Int},M<=fe sh X Y W (rg cs (i+(cs.length-1))) (rg cs i)->(∀k,k<i->M<=fe sh X Y W (rg cs (k+(cs.length-1))) (rg cs k))->∀k,k<i+1->M<=fe sh X Y W (rg cs (k+(cs.length-1))) (rg cs k):=λh h' k hk=>by
    rcases GX (mS hk) with h0 |rfl
    ·exact h' k h0
    ·exact h
   rcases hlo with⟨h0,rfl⟩ | ⟨M,k0,h1,h2,h3,rfl⟩
   ·subst h0;simp only[if_true];exact mk _ 0 _ _ _ _ _ (Nat.zero_lt_succ _) rfl (le (rM _) λk hk=>Ψ hk (oM k))
   ·simp only[aS,if_false];split
    ·rename_i e_;exact mk _ i _ _ _ _ _ (qB i) rfl (le (rM _) λk hk=>zE (aK e_) (h3 k hk))
    ·rename_i e_;exact mk _ k0.2 _ _ _ _ _ (jR h1) h2 (le (fP.mp e_) h3)
  ·rintro f ⟨lo,a,b,c,d,e,hlo,rfl⟩;rcases hlo with⟨h0,rfl⟩ | ⟨M,k0,h1,h2,h3,rfl⟩
   ·lia
   ·refine hK _ ⟨M.1,a,b,c,d,e,⟨⟨_,_,Au pos k0.2,h2⟩,λx y hxy=>?_⟩,rfl⟩;obtain⟨k,hk,rfl,rfl⟩:=Tr hxy;exact h3 k hk
 rintro f ⟨M,a,b,c,d,e,⟨m1,m2⟩,rfl⟩;have fin:=q M m1 m2;nofun;exact fin
def QC:FD:=λds Q=>∃(sh:Int)(zs:ω Pt),ds=[pc sh zs]/\1<=sh/\3<=zs.length/\Q (.bl ζ)
def AD:τ QC (sQ IE) ["_law_piece","_law_corner"]:=by
 rintro ds Q ⟨sh,zs,rfl,h1,h3,q⟩;rw[cK 1 rfl];unfold sQ;simp only[gQ,VF,aR,bO,aW,bF];refine eO [ae (pc sh zs),ξ] (λK hK=>?_) ?_
 ·nofun;refine⟨sh,rfl,?_⟩;nofun;rw[υ ν];exact hK
 refine eO [ae (pc sh zs),ξ] (λK hK=>?_) ?_
 ·nofun;rw[υ θ];exact hK
 refine dI (λa=>True) (λK hK=>?_) ?_
 ·nofun;refine jG (λxs a=>∃(rest:ω Pt)(x:Option S),xs=rest.map pt/\a=[ae (pc sh zs),x]) ?_ ?_ _ _ ⟨zs,ξ,rfl,rfl⟩
  ·rintro x xs a ⟨rest,u,ex,rfl⟩ F _ _ hn _;cases rest with
   |nil=>cases ex
   |cons z rest=>
    cases ex;unfold qT;nofun;exact⟨_,rfl,_,rfl,hn _ ⟨rest,ae (pt z),rfl,rfl⟩⟩
  ·rintro a _;exact hK _ trivial
 rintro a _;nofun;exact q
structure c7(sh:Int)(zs:List Pt):Prop where
 pos:0<sh
 cvx:b_ zs
 first:∃z T,zs=z::T/\∀q∈T,¬bB q z
 cop:∀d:Nat,(d:Int)∣sh->(∀z∈zs,(d:Int)∣z.1/\(d:Int)∣z.2)->d=1
def Nl:FD:=λds Q=>∃(sh:Int)(zs:ω Pt),ds=[pc sh zs]/\c7 sh zs/\(∀z∈zs,BP z)/\zs.length<=100/\Q (.bl ζ)
def KE:τ Nl (yV BS QC XU) ["_law_piece","_law_share_here","_law_corners","_law_most","_law_falls","_law_k"]:=by
 rintro ds Q ⟨sh,zs,rfl,ip,hB,hl,q⟩;have h3:=ip.cvx.len;have pos:0<zs.length:=ν
 rw[cK 5 rfl];unfold yV;simp only[gQ,Mu,aR,bO,aW,bF];generalize hP:pc sh zs=PD;refine eO [ae PD,ξ,ξ,ξ,ξ,ξ] (λK hK=>?_) ?_
 ·nofun;refine⟨sh,zs,by rw[hP],by have:=ip.pos;lia,h3,?_⟩;nofun;exact hK
 refine dI (λc=>c=[ae PD,ae (.int sh),ae (.tup (zs.map pt)),ξ,ξ,ξ]) (λK hK=>?_) ?_
 ·rw[<-hP] at hK⊢;nofun;exact hK _ rfl
 rintro c rfl;refine eO [ae PD,ae (.int sh),ae (.tup (zs.map pt)),ae (.int sh),ξ,ξ] (λK hK=>?_) ?_
 ·nofun;exact hK
 refine eO [ae PD,ae (.int sh),ae (.tup (zs.map pt)),ae (.int sh),ae (.int 0),ξ] (λK hK=>?_) ?_
 ·nofun;exact hK
 refine dI (λc=>∃(a:Option S),c=[ae PD,ae (.int sh),ae (.tup (zs.map pt)),ae (.int 1),ae (.int 1),a]) (λK hK=>?_) ?_
 ·simp only[lC,TN,aD,aV,r1,sB,aQ,aB,aE,S.val,aY];refine⟨by constructor <;> lia,?_⟩;have nn:(((zs.length:Nat):Int)).toNat=zs.length:=ν
  have sn:(sh.toNat:Int)=sh:=by have:=ip.pos;lia
  simp only[nn];refine JM 0 zs.length (λi c=>∃(g:Nat)(a:Option S),gj sh (zs.take i) g/\c=[ae PD,ae (.int sh),ae (.tup (zs.map pt)),ae (.int g),ae (.int (if 2<=i then 1 else 0)),a]) ?_ ?_ _ ⟨sh.toNat,ξ,⟨by have:=ip.pos;lia,?_,δ,λd e1 _=>?_⟩,by rw[sn];rfl⟩
  ·rintro i c hi ⟨g,a,hg,rfl⟩ F hrt _ hn _;have p0:=hB _ (xV pos i);have p1:=hB _ (xV pos (i+(zs.length-1)));have p2:=hB _ (xV pos (i+(zs.length-2)));have tp:0<bZ (rg zs (i+(zs.length-2))) (rg zs (i+(zs.length-1))) (rg zs i):=by
    have:=ip.cvx.bend_rg (i+(zs.length-2))
    rwa [show i+(zs.length-2)+1=i+(zs.length-1) by lia,show i+(zs.length-2)+2=i+zs.length by lia,HU] at this
   have ff:(bB (rg zs (i+(zs.length-1))) (rg zs (i+(zs.length-2)))/\bB (rg zs (i+(zs.length-1))) (rg zs i))↔i=1:=by
    obtain⟨z,T,e,least⟩:=ip.first;have cv:=ip.cvx;subst e;exact Lc cv least hi
   have hg':gj sh (zs.take (i+1)) (cO (cO g (rg zs i).1:Nat) (rg zs i).2):=by
    rw[nS,GK hi];exact hg.snoc _
   have fin:∀v:Int,v=(if 2<=i+1 then 1 else 0)->F.nx [ae PD,ae (.int sh),ae (.tup (zs.map pt)),ae (.int (cO (cO g (rg zs i).1:Nat) (rg zs i).2:Nat)),ae (.int v),ae (.int (0+(i:Int)))]:=λv hv=>hn _ ⟨_,ae (.int (0+(i:Int))),hg',by rw[hv]⟩;unfold uQ;simp only[cY,aP,aM];refine dI (λc=>c=[ae PD,ae (.int sh),ae (.tup (zs.map pt)),ae (.int (cO (cO g (rg zs i).1:Nat) (rg zs i).2:Nat)),ae (.int (if 2<=i then 1 else 0)),ae (.int (0+(i:Int)))]) (λK' k7=>?_) ?_
   ·simp only[eI,cH,aD,aV,r2,bV,aQ,rC,S.val,CS hi,nU,iT,aE,aB,aP,aM];exact⟨_,_,rfl,_,_,rfl,k7 _ rfl⟩
   rintro c rfl;refine dI (λc=>c=[ae PD,ae (.int sh),ae (.tup (zs.map pt)),ae (.int (cO (cO g (rg zs i).1:Nat) (rg zs i).2:Nat)),ae (.int (if 2<=i then 1 else 0)),ae (.int (0+(i:Int)))]) (λK' k7=>?_) ?_
   ·simp only[jU,dZ,cH,aD,aV,r2,aQ,rC,gP,S.val,nF,pQ,CS hi,JP hi,Br hi (show 2<=zs.length by lia),aE,aB];refine⟨_,_,_,rfl,⟨p2,p1,p0⟩,?_⟩;dsimp only;rw[υ (by simp only[decide_eq_true_eq];lia)];exact k7 _ rfl
   rintro c rfl;simp only[jU,OR,dZ,eI,gP,r2,aQ,rC,S.val,nF,mJ,Tv,CS hi,JP hi,Br hi (show 2<=zs.length by lia),aE,aB,aP,aM];refine⟨[_,_],[_,_],rfl,rfl,?_⟩;rw[JQ];by_cases h1:bB (rg zs (i+(zs.length-1))) (rg zs (i+(zs.length-2)))
   ·simp only[h1,decide_true,if_true];refine⟨[_,_],[_,_],rfl,rfl,?_⟩;rw[JQ];by_cases h2:bB (rg zs (i+(zs.length-1))) (rg zs i)
    ·simp only[h2,decide_true,if_true];have:=ff.mp ⟨h1,h2⟩;subst this;exact fin _ δ
    ·simp only[h2,decide_false,if_false,aS];have:i≠1:=λe=>h2 (ff.mpr e).2;refine fin _ ?_;by_cases h4:2<=i
     ·rw[Ω h4,Ω ν]
     ·rw[υ h4,υ ν]
   ·simp only[h1,decide_false,if_false,aS];have:i≠1:=λe=>h1 (ff.mpr e).1;refine fin _ ?_;by_cases h4:2<=i
    ·rw[Ω h4,Ω ν]
    ·rw[υ h4,υ ν]
  ·rintro c ⟨g,a,hg,rfl⟩;rw[sU] at hg;have:=ip.cop g hg.sh hg.all;subst this;refine hK _ ⟨a,?_⟩;rw[Ω ν];rfl
  ·rw[sn];exact pW _
  ·exact_mod_cast (by rw[sn];exact e1:(d:Int)∣(sh.toNat:Int))
 rintro c ⟨a,rfl⟩;obtain⟨z,T,e,least⟩:=ip.first;subst e;nofun;refine⟨(z::T).map λp=>[p.1,p.2],by rw[dF];rfl,δ,λM m1 m2=>?_⟩;obtain⟨p,hp,rfl⟩:=bG.mp m1;have ep:z=p:=by
  rcases aO.mp hp with h |h
  ·exact h.symm
  ·have h1:=least p h;have h2:=m2 [z.1,z.2] δ;rw[JQ] at h2;simp only[decide_eq_false_iff_not] at h2;rcases qY z p with k |k |k
   ·exact Ψ k h2
   ·exact k
   ·exact Ψ k h1
 subst ep;have ee:fo 6 (pt z) (pt z)=ψ ζ:=by rw[YO];simp
 rw[show pB [z.1,z.2]=pt z from rfl]
 first
  | (rw[ee];exact q)
  | (show(match fo 6 (pt z) (pt z) with |some b=>Q (.bl b) |none=>False);rw[ee];exact q)
def ig.isPc(h:ig L sh cs cf zs):c7 cf zs:=⟨h.pos,h.cvx,h.first,h.cop⟩
def Il:BL (n+1) 0:=(BL.const (n:=1) (i:=0) η).mono ν
theorem Oa:∀(l:ω Pt)(a:Pt),(BL n a.1/\BL n a.2)->Ae n l->BL (2*n+1+l.length) (fg c6 a l)
 | [],a,_,_=>Il
 |b::l,a,ha,hl=>by
  obtain⟨b1,b2⟩:=hl b δ;have ih:=Oa l b ⟨b1,b2⟩ λz hz=>hl z (by simp[hz]);have c:BL (2*n+1) (c6 a b):=((ha.1.mul b2).sub (ha.2.mul b1)).mono ν;refine(c.add ih).mono ?_;rw[bP];lia
theorem Yk{zs:ω Pt}(h:Ae n zs):BL (2*n+1+zs.length) (hV c6 zs):=by
 cases zs with
 |nil=>exact Il
 |cons z T=>
  have:=Oa (T++[z]) z (h z δ) λw hw=>h w (by simp at hw⊢;rcases hw with k |k <;> simp[k]);rw[bR] at this;exact this
namespace K33
abbrev P2:=Int×Int
abbrev Mv:=Int×P2×P2
def ju(m:Mv):D:=.tup [.int m.1,pt m.2.1,pt m.2.2]
def J5(h:x∈[D.int 9,D.int 1000000000000000000000000000000]):∃f:Int,x = .int f/\0<=f/\BL 200 f:=by
 rcases aO.mp h with rfl |h
 ·exact⟨9,rfl,η,BL.const η⟩
 ·rcases aO.mp h with rfl |h
  ·exact⟨_,rfl,η,BL.const η⟩
  ·cases h
structure jz(n:Nat)(f:P2):Prop where
 pos:0<f.2
 top:BL n f.1
 bot:BL n f.2
def jz.mono(h:jz n f)(k:n<=m:=by decide):jz m f:=⟨h.pos,h.top.mono k,h.bot.mono k⟩
def Tt(h:xs.getLast? = ψ x):ci (.lst xs) (.int (-1)) Q=Q x:=by simp only[ci,Ah h]
def Qk(ha:BL n a)(hb:BL n b)(b0:0<b)(t0:1<=t)(t1:t<=3)(w0:1<=w)(w1:w<=3)(h:me (a*w+t*b) (b*w) p q):jz (n+5) (p,q):=by
 have bw:BL 2 w:=BL.of_lt (m:=2) ν ν;have bt:BL 2 t:=BL.of_lt (m:=2) ν ν;have h1:BL (n+2+1) (a*w+t*b):=by
  have:=(ha.mul bw).add (show BL (n+2) (t*b) by have:=bt.mul hb;rwa [Nat.add_comm] at this)
  rwa [Nat.max_self] at this
 exact⟨h.pos,(h1.le h.lea).mono ν,((hb.mul bw).le h.leb).mono ν⟩
def Rr{fs:ω P2}{i:Int}{Q:D->Prop}(h0:0<=i)(h1:i<fs.length)(q:∀f,fs[i.toNat]?=ψ f->Q (pt f)):ci (fv fs) (.int i) Q:=by
 have hj:i.toNat<fs.length:=ν
 exact zV (Fl (j:=i.toNat) ν (by rw[cG,aG hj];rfl)) (q _ (aG hj))
end K33
abbrev sdD(s:Tg):D:=.tup [pt s.1,pt s.2]
def AO:ω (Int×ω D)->Int->ω D
 | [],_=>[]
 | (k',ds)::r,k=>if k'=k then ds else AO r k
theorem SH:∀(kvs:ω (Int×ω D))(k:Int)(d:D)(c:Int),AO (putL kvs k d) c=if k=c then AO kvs c++[d] else AO kvs c
 | [],k,d,c=>by simp only[putL,AO];split <;> rfl
 | (k',ds)::r,k,d,c=>by
  have ih:=SH r k d c;unfold putL;by_cases h:k'=k
  ·rw[Ω h];subst h;simp only[AO];by_cases hc:k'=c
   ·rw[Ω hc,Ω hc,Ω hc]
   ·rw[υ hc,υ hc,υ hc]
  ·rw[υ h];simp only[AO];by_cases hc:k=c
   ·have:¬k'=c:=λe=>h (e.trans hc.symm);rw[υ this,Ω hc,ih,Ω hc,υ this]
   ·rw[υ hc,ih,υ hc]
theorem CV:∀(kvs:ω (Int×ω D))(k:Int)(d:D),(putL kvs k d).map (·.1)=if k∈kvs.map (·.1) then kvs.map (·.1) else kvs.map (·.1)++[k]
 | [],k,d=>by simp[putL]
 | (k',ds)::r,k,d=>by
  have ih:=CV r k d;unfold putL;by_cases h:k'=k
  ·rw[Ω h];subst h;simp
  ·rw[υ h,aR,ih];have h':¬k=k':=λe=>h e.symm;by_cases hm:k∈r.map (·.1)
   ·rw[Ω hm,Ω (by rw[aR];exact .tail _ hm)];rfl
   ·rw[υ hm,υ (by rw[aR,aO];exact λz=>z.elim h' hm)];rfl
theorem Ay:∀(kvs:ω (Int×ω D))(c:Int),c∈kvs.map (·.1)->JF (kvs.map (·.1)) (kvs.map λp=>.lst p.2) c=ψ (.lst (AO kvs c))
 | [],_,h=>by cases h
 | (k',ds)::r,c,h=>by
  simp only[aR,JF,AO];by_cases hc:k'=c
  ·rw[Ω hc,Ω hc]
  ·rw[υ hc,υ hc];rw[aR,aO] at h;exact Ay r c (h.resolve_left λe=>hc e.symm)
theorem ZQ:∀(kvs:ω (Int×ω D))(k:Int)(d:D)(n:Nat),kvs.length<=n->(∀p∈kvs,p.2.length<=n)->(putL kvs k d).length<=n+1/\∀p∈putL kvs k d,p.2.length<=n+1
 | [],k,d,n,_,_=>⟨by simp[putL],λp hp=>by simp[putL] at hp;subst hp;simp⟩
 | (k',ds)::r,k,d,n,hl,hp=>by
  unfold putL;have tz:=hp (k',ds) (.head _);by_cases h:k'=k
  ·rw[Ω h];refine⟨by simpa using rY hl,λp h'=>?_⟩;rcases aO.mp h' with rfl |h'
   ·simp;exact tz
   ·exact rY (hp p (.tail _ h'))
  ·rw[υ h];rw[bP] at hl;have n1:n=(n-1)+1:=ν;obtain⟨i1,i2⟩:=ZQ r k d n ν λp h'=>hp p (.tail _ h');have i3:(putL r k d).length<=r.length+1:=by
    clear i1 i2 hp tz hl
    induction r with
    |nil=>simp[putL]
    |cons z r ih=>unfold putL;split <;> simp <;> lia
   refine⟨by rw[bP];lia,λp h'=>?_⟩;rcases aO.mp h' with rfl |h'
   ·exact rY tz
   ·exact i2 p h'
abbrev Ev:=Int×Tg
def kvsOf(E:ω Ev):ω (Int×ω D):=E.foldl (λm e=>putL m e.1 (sdD e.2)) []
def Qi(E:ω Ev)(e:Ev):kvsOf (E++[e])=putL (kvsOf E) e.1 (sdD e.2):=by unfold kvsOf;rw[wP];rfl
def Zo(E:ω Ev):((kvsOf E).length<=E.length/\∀p∈kvsOf E,p.2.length<=E.length)/\((kvsOf E).map (·.1)).Nodup/\(∀c,c∈(kvsOf E).map (·.1)↔∃e∈E,e.1=c)/\∀c,AO (kvsOf E) c=(E.filter λe=>decide (e.1=c)).map λe=>sdD e.2:=by
 refine snoc_ind (P:=λE=>((kvsOf E).length<=E.length/\∀p∈kvsOf E,p.2.length<=E.length)/\((kvsOf E).map (·.1)).Nodup/\(∀c,c∈(kvsOf E).map (·.1)↔∃e∈E,e.1=c)/\∀c,AO (kvsOf E) c=(E.filter λe=>decide (e.1=c)).map λe=>sdD e.2) ?_ ?_ E
 ·exact⟨⟨bU _,λp h=>by cases h⟩,QJ,λc=>⟨λh=>(by cases h),λ⟨e,h,_⟩=>(by cases h)⟩,λc=>rfl⟩
 ·rintro E e ⟨⟨h1,h2⟩,h3,h4,h5⟩;rw[Qi];refine⟨by rw[bR];exact ZQ _ _ _ _ h1 h2,?_,λc=>?_,λc=>?_⟩
  ·rw[CV];split
   ·exact h3
   ·rename_i n;exact jQ.mpr ⟨h3,nR _ _,λa ha b hb e'=>n (by rw[cJ.mp hb] at e';exact e'▸ha)⟩
  ·rw[CV];split
   ·rename_i m;rw[h4 c];constructor
    ·rintro⟨x,hx,rfl⟩;exact⟨x,dC _ hx,rfl⟩
    ·rintro⟨x,hx,rfl⟩;rcases bQ.mp hx with hx |hx
     ·exact⟨x,hx,rfl⟩
     ·rw[cJ.mp hx];exact(h4 _).mp m
   ·rw[bQ,h4 c,cJ];constructor
    ·rintro (⟨x,hx,rfl⟩ |rfl)
     ·exact⟨x,dC _ hx,rfl⟩
     ·exact⟨e,bD _ (.head _),rfl⟩
    ·rintro⟨x,hx,rfl⟩;rcases bQ.mp hx with hx |hx
     ·exact .inl ⟨x,hx,rfl⟩
     ·rw[cJ.mp hx];exact .inr rfl
  ·rw[SH,h5 c,lS,cI];by_cases hc:e.1=c
   ·rw[Ω hc];simp[hc]
   ·rw[υ hc];simp[hc]
where
 snoc_ind {α:Type} {P:ω α->Prop} (h0:P []) (hs:∀E e,P E->P (E++[e])) (E:ω α):P E:=by
  have:∀(n:Nat)(E:ω α),E.length=n->P E:=by
   intro n
   induction n with
   |zero=>intro E h;rw[nO.mp h];exact h0
   |succ n ih=>
    intro E h;rcases fF E with rfl | ⟨E',e,rfl⟩
    ·cases h
    ·rw[sO] at h⊢;exact hs E' e (ih E' (by simpa using h))
  exact this _ E rfl
namespace K33
def Kc(I:En->Prop)(h1:∀K:En->Prop,(∀a',I a'->K a')->t {nx:=K,rt:=λ_=>False} a)(h2:∀a',I a'->u E a'):Jv t u E a:=h1 (u E) h2
end K33
def fb(s:Int):Prop:=s=1\/s = -1
def fb.bl{s:Int}(h:fb s):BL 10 s:=by rcases h with rfl |rfl <;> exact BL.const
def fb.abs{s:Int}(h:fb s):s.natAbs=1:=by rcases h with rfl |rfl <;> rfl
def fb.natAbs_mul{s a:Int}(h:fb s):(s*a).natAbs=a.natAbs:=by rw[iZ,h.abs,Nat.one_mul]
def qR:FD:=λds Q=>∃s a b:Int,ds=[.int s,fr a b]/\fb s/\BL 4000 a/\Q (fr (s*a) b)
def Dr:τ qR XC ["sign","one"]:=by
 rintro ds Q ⟨s,a,b,rfl,hs,ba,q⟩;rw[cK 0 rfl];unfold XC;nofun;exact⟨hs.bl.mulOk ba,q⟩
abbrev ye(s c d e f:Int):D:=.tup [.int s,fr c d,fr e f]
abbrev sp(a b g h:Int):D:=.tup [fr a b,fr g h]
def Ab:FD:=λds Q=>∃s c d e f a b g h:Int,ds=[ye s c d e f,sp a b g h]/\fb s/\(0<d/\0<f/\0<b/\0<h)/\(BL 4000 c/\BL 4000 d/\BL 4000 e/\BL 4000 f/\BL 4000 a/\BL 4000 b/\BL 4000 g/\BL 4000 h) /\
 ∀p q r t,me (s*a*d+c*b) (b*d) p q->me (s*g*f+e*h) (h*f) r t->Q (sp p q r t)
def Rs:τ Ab (Sd qO qR) ["move","spot","sign"]:=by
 rintro ds Q ⟨s,c,d,e,f,a,b,g,h,rfl,hs,⟨d0,f0,b0,h0⟩,⟨bc,bd,be,bf,ba,bb,bg,bh⟩,q⟩;rw[cK 1 rfl];unfold Sd;nofun;refine⟨s,a,b,rfl,hs,ba,_,_,_,_,rfl,⟨b0,d0⟩,⟨ba.le (zK hs.natAbs_mul),bb,bc,bd⟩,λp q' l1=>?_⟩;refine⟨s,g,h,rfl,hs,bg,_,_,_,_,rfl,⟨h0,f0⟩,⟨bg.le (zK hs.natAbs_mul),bh,be,bf⟩,λr t l2=>?_⟩;exact q _ _ _ _ l1 l2
def BQ:FD:=λds Q=>∃s c d e f s' c' d' e' f':Int,ds=[ye s c d e f,ye s' c' d' e' f']/\(fb s/\fb s')/\(0<d/\0<f/\0<d'/\0<f')/\(BL 4000 c/\BL 4000 d/\BL 4000 e/\BL 4000 f/\BL 4000 c'/\BL 4000 d'/\BL 4000 e'/\BL 4000 f') /\
 ∀p q r t,me (s'*c*d'+c'*d) (d*d') p q->me (s'*e*f'+e'*f) (f*f') r t->Q (ye (s*s') p q r t)
def Df:τ BQ (WX Ab) ["first","second","shift"]:=by
 rintro ds Q ⟨s,c,d,e,f,s',c',d',e',f',rfl,⟨hs,ot⟩,⟨d0,f0,d0',f0'⟩,⟨bc,bd,be,bf,bc',bd',be',bf'⟩,q⟩;rw[cK 1 rfl];unfold WX;nofun;refine⟨s',c',d',e',f',c,d,e,f,rfl,ot,⟨d0',f0',d0,f0⟩,⟨bc',bd',be',bf',bc,bd,be,bf⟩,λp q' r t l1 l2=>?_⟩;nofun;exact⟨hs.bl.mulOk ot.bl,q _ _ _ _ l1 l2⟩
def vL:FD:=λds Q=>∃s c d e f:Int,ds=[ye s c d e f]/\fb s/\(BL 4000 c/\BL 4000 e)/\Q (ye s (-s*c) d (-s*e) f)
def fb.neg{s:Int}(h:fb s):fb (-s):=by rcases h with rfl |rfl;exact .inr rfl;exact .inl rfl
def VE:τ vL (NR qR) ["move","sign"]:=by
 rintro ds Q ⟨s,c,d,e,f,rfl,hs,⟨bc,be⟩,q⟩;rw[cK 1 rfl];unfold NR;nofun;exact⟨_,_,_,rfl,hs.neg,bc,_,_,_,rfl,hs.neg,be,q⟩
namespace K34
open K33
structure Told(e:Int)(A:List Pt)(sh:Int)(zs:List Pt):Prop where
 ex:∃(w:Pt)(T:ω Pt)(m:Int),gx A (w::T)/\(∀x∈T,¬bB x w)/\gk e (w::T) m sh zs
def Told.same(a:Told e1 A sh1 zs1)(b:Told e2 B v5 v9)(h1:0<e1)(h2:0<e2)(eq:A.map (scl e2)=B.map (scl e1))(nd:A.Nodup):sh1=v5/\zs1=v9:=by
 obtain⟨w1,T1,m1,ra,l1,N1⟩:=a;obtain⟨w2,T2,m2,rb,l2,N2⟩:=b;have rr:gx ((w1::T1).map (scl e2)) ((w2::T2).map (scl e1)):=((ra.symm.map (scl e2)).trans (by rw[eq];exact gx.refl _)).trans (rb.map (scl e1));have nd1:((w1::T1).map (scl e2)).Nodup:=wM (scl e2) (λa b hn h=>hn (KM h2 h)) (ra.nodup nd);rw[aR,aR] at rr;rw[aR] at nd1;have eq:=rr.least nd1 (λx hx=>by obtain⟨y,hy,rfl⟩:=bG.mp hx;rw[EF h2];exact l1 y hy) λx hx=>by obtain⟨y,hy,rfl⟩:=bG.mp hx;rw[EF h1];exact l2 y hy
 exact N1.same N2 h2 h1 (dS ..) (by simpa using eq)
def Told.ring(a:Told e A sh zs):∃A',gx A A'/\zs.map (scl e)=A'.map (scl sh):=by
 obtain⟨w,T,m,ra,l,N⟩:=a;refine⟨w::T,ra,?_⟩;have h1:=N.cs_eq;have h2:=N.sh_eq;rw[h1,dF];refine kY λz _=>?_;show scl e z=(sh*(m*z.1),sh*(m*z.2));rw[h2];exact lV (by dsimp only[scl];grind) (by dsimp only[scl];grind)
def Pn{cs:ω Pt}{ds:ω Pt}(h:k8 share cs m sh ds j):Told share cs sh (turned j ds):=by
 obtain⟨w,T,e,l⟩:=h.first;have N:=h.norm;rw[e] at N;exact⟨w,T,m,by rw[<-e];exact HV j cs,l,N⟩
def Za(share:Int)(hs:0<share)(cs:ω Pt):∃g,gj share cs g:=by
 have key:∀(todo done:ω Pt),(∃g,gj share done g)->∃g,gj share (done++todo) g:=by
  intro todo
  induction todo with
  |nil=>intro done h;simpa using h
  |cons z todo ih=>
   intro done ⟨g,h⟩;have:=ih (done++[z]) ⟨_,h.snoc z⟩;simpa using this
 refine key cs [] ⟨share.natAbs,?_⟩;refine⟨ν,Int.natAbs_dvd.mpr (pW _),λz hz=>Ψ hz eM,λd h1 _=>?_⟩;exact Int.ofNat_dvd.mp (Int.dvd_natAbs.mpr h1)
def Jj(he:0<e)(cs:ω Pt):∃m sh zs,gk e cs m sh zs:=by
 obtain⟨g,G⟩:=Za e he cs;have gp:(0:Int)<g:=by have:=G.pos;lia
 have back:∀x:Int,(g:Int)∣x->(g:Int)*(x / g)=x:=λx h=>jJ h;refine⟨g,e / g,cs.map λz=>(z.1 / g,z.2 / g),⟨gp,(back e G.sh).symm,?_,λd h1 h2=>?_⟩⟩
 ·rw[dF]
  conv=>lhs;rw[<-mR cs]
  refine kY λz hz=>?_;obtain⟨a,b⟩:=G.all z hz;exact lV (back _ a).symm (back _ b).symm
 ·have dg:((d*g:Nat):Int)∣e:=by
   rw[<-back e G.sh];obtain⟨c,hc⟩:=h1;exact⟨c,by rw[hc];push_cast;grind⟩
  have da:∀z∈cs,((d*g:Nat):Int)∣z.1/\((d*g:Nat):Int)∣z.2:=λz hz=>by
   obtain⟨a,b⟩:=G.all z hz;obtain⟨⟨c1,h3⟩,⟨c2,h4⟩⟩:=h2 _ (bG.mpr ⟨z,hz,rfl⟩);dsimp only at h3 h4;exact⟨⟨c1,by rw[<-back z.1 a,h3];push_cast;grind⟩,⟨c2,by rw[<-back z.2 b,h4];push_cast;grind⟩⟩
  have:=G.most _ dg da;have le:=xJ G.pos this;have dp:0<d:=by
   rcases vR d with h |h
   ·subst h;rw[Nat.zero_mul] at this;have:=yD this;have:=G.pos;lia
   ·exact h
  have g0:=G.pos;by_cases h:d=1
  ·exact h
  ·have:2*g<=d*g:=CF g ν;lia
def Wk(he:0<e)(hA:A≠[]):∃sh zs,Told e A sh zs:=by
 obtain⟨w,T,r,l⟩:=wV A hA;obtain⟨m,sh,zs,N⟩:=Jj he (w::T);exact⟨sh,zs,w,T,m,r,l,N⟩
def gx.mapOf{α β:Type}{f:α->β}{A:ω α}{B':ω β}(r:gx (A.map f) B'):∃B,gx A B/\B'=B.map f:=by
 obtain⟨X,Y,e1,e2⟩:=r;obtain⟨X',Y',h1,h2,h3⟩:=oC.mp e1;exact⟨Y'++X',⟨X',Y',h1,rfl⟩,by rw[e2,cI,h2,h3]⟩
def cellOf(ns:ω Int)(k:Int):Int:=if k<(ns.length:Int) then(ns.getD k.toNat 0).fmod big else 0
def IA:FD:=λds Q=>∃(ns:ω Int)(k:Int),ds=[il ns,.int k]/\0<=k/\∀c,0<=c->c<big->c=cellOf ns k->Q (.int c)
def OO:τ IA KH ["_law_script","_law_k"]:=by
 rintro ds Q ⟨ns,k,rfl,hk,q⟩;rw[cK 0 rfl];unfold KH;nofun;split
 ·rename_i e_;have e_:k<(ns.length:Int):=by simpa using e_
  have hj:k.toNat<ns.length:=ν
  refine zV (x:=.int ns[k.toNat]) (Fl (j:=k.toNat) ν (by rw[cG,aG hj];rfl)) ?_;refine⟨SW,nG,?_⟩;obtain⟨e0,e1⟩:=fQ (a:=ns[k.toNat]) (b:=big) η;refine q _ e0 e1 ?_;unfold cellOf;rw[Ω e_,eD,aG hj,lM]
 ·rename_i e_;have e_:¬k<(ns.length:Int):=by simpa using e_
  refine q 0 η η ?_;unfold cellOf;rw[υ e_]
structure rf(f:P2):Prop where
 pos:0<f.2
 top:BL 40 f.1
 bot:BL 12 f.2
def Xh(h0:0<=f)(h1:BL 200 f)(a0:0<=x)(a1:x<2*f+1):BL 210 (x-f):=by
 refine(h1.mono).le ?_;lia
end K34
namespace K36
open K34 K33
def Wj(a:Told e1 A sh zs)(h1:0<e1)(h2:0<e2)(hB:B≠[])(eq:A.map (scl e2)=B.map (scl e1))(nd:A.Nodup):Told e2 B sh zs:=by
 obtain⟨v5,v9,b⟩:=Wk h2 hB;obtain⟨rfl,rfl⟩:=Told.same a b h1 h2 eq nd;exact b
def aff(S lo hi:Int)(z:Pt):Pt:=(z.1*S,z.1*lo+z.2*hi)
def Ag(S lo hi:Int)(a b c:Pt):bZ (aff S lo hi a) (aff S lo hi b) (aff S lo hi c)=S*hi*bZ a b c:=by unfold bZ aff;dsimp only;grind
def Th(S lo hi:Int)(a b:Pt):c6 (aff S lo hi a) (aff S lo hi b)=S*hi*c6 a b:=by unfold c6 aff;dsimp only;grind
def Ih{S lo hi:Int}(hS:0<S)(hh:0<hi)(h:aff S lo hi a=aff S lo hi b):a=b:=by
 unfold aff at h;simp only[fK] at h;have e1:a.1=b.1:=iK ν h.1;have e2:a.2=b.2:=iK (a:=hi) ν (by have:=h.2;rw[e1] at this;lia);exact lV e1 e2
def OV{S lo hi:Int}(hS:0<S)(hh:0<hi)(c:b_ P):b_ (P.map (aff S lo hi)):=c.map (aJ hS hh) (Ag S lo hi) λa b h=>Ih hS hh h
def SL:ω Pt->ω (Pt×Pt)
 | []=>[]
 | [_]=>[]
 |a::b::r=>(a,b)::SL (b::r)
theorem DH:∀{l:ω Pt}{a b:Pt},ie l a b->(a,b)∈SL l
 |l,a,b,⟨[],r,e⟩=>by subst e;exact dU
 |l,a,b,⟨[x],r,e⟩=>by subst e;exact bH _ (DH ⟨[],r,rfl⟩)
 |l,a,b,⟨x::y::t,r,e⟩=>by subst e;exact bH _ (DH ⟨y::t,r,rfl⟩)
def Yo(P:ω Pt):Bool:=decide (3<=P.length) && decide P.Nodup && (SL (P++P.take 1)).all λp=>P.all λq=>decide (q=p.1) ||decide (q=p.2) ||decide (0<bZ p.1 p.2 q)
def Tq(h:Yo P=ζ):b_ P:=by
 unfold Yo at h;simp only[jI,decide_eq_true_eq] at h;refine⟨h.1.1,h.1.2,λa b dq q hq n1 n2=>?_⟩;have:=pY.mp (pY.mp h.2 _ (DH dq)) q hq;simp only[NU,decide_eq_true_eq] at this;rcases this with(z |z) |z
 ·exact Ψ z n1
 ·exact Ψ z n2
 ·exact z
def wX:ω (ω Pt):=[[(0,0),(24,0),(24,24),(0,24)],[(0,0),(24,0),(24,24)],[(0,0),(24,24),(0,24)],[(0,0),(24,0),(0,24)],[(24,0),(24,24),(0,24)],[(0,0),(8,0),(8,24),(0,24)],[(8,0),(24,0),(24,24),(8,24)]]
def EV:∀P∈wX,b_ P:=λP hP=>Tq ((by decide +kernel:∀P∈wX,Yo P=ζ) P hP)
section
variable{e sh cf c σ t S lo hi:Int}
def Eo(T0:Told e A sh cs):(∀z∈cs,∃a∈A,scl e z=scl sh a)/\∀a∈A,∃z∈cs,scl e z=scl sh a:=by
 obtain⟨A',r,eq⟩:=T0.ring;constructor
 ·intro z hz;have:scl e z∈A'.map (scl sh):=by rw[<-eq];exact cT hz
  obtain⟨a,ha,ee⟩:=bG.mp this;exact⟨a,(r.mem a).mpr ha,ee.symm⟩
 ·intro a ha;have:scl sh a∈cs.map (scl e):=by rw[eq];exact cT ((r.mem a).mp ha)
  obtain⟨z,hz,ee⟩:=bG.mp this;exact⟨z,hz,ee⟩
end
structure Fm(s h:Pt):Prop where
 ls:rf s
 h1:0<h.1
 b1:BL 10 h.1
 h2:0<h.2
 b2:BL 10 h.2
abbrev pj(s h:Pt)(z:Pt):Pt:=aff (s.2*h.2) (s.1*h.2) (h.1*s.2) z
abbrev eF(s h:Pt):Int:=24*(s.2*h.2)
def U_(P:ω Pt):Prop:=∀a∈P,(0<=a.1/\a.1<=24)/\0<=a.2/\a.2<=24
def Gp(s h:Pt)(P:ω Pt)(sh:Int)(cs:ω Pt):Prop:=Told (eF s h) (P.map (pj s h)) sh cs
section
variable{s h:Pt}
theorem Fm.sp(f:Fm s h):0<s.2*h.2:=aJ f.ls.pos f.h2
theorem Fm.hp(f:Fm s h):0<h.1*s.2:=aJ f.h1 f.ls.pos
theorem Fm.ep(f:Fm s h):0<eF s h:=aJ η f.sp
theorem Tk(h0:0<=x)(h1:x<=24):BL 5 x:=(BL.const (n:=5) (i:=24) η).le ν
def TW(he:0<e)(T:Told e A sh zs):0<sh:=by
 obtain⟨w,T',m,_,_,N⟩:=T;have:=N.sh_eq;rw[this] at he;exact oH N.mpos he
theorem Kf(he:0<e)(T:Told e A sh zs)(be:BL k e)(bA:∀a∈A,BL n a.1/\BL n a.2):BL k sh/\(∀z∈zs,BL n z.1/\BL n z.2)/\zs.length=A.length:=by
 obtain⟨w,T',m,r,_,N⟩:=T;have mp:=N.mpos;have le:∀x:Int,x.natAbs<=(m*x).natAbs:=λx=>by
  rw[iZ];exact rX _ ν
 refine⟨be.le (by rw[N.sh_eq];exact le sh),λz hz=>?_,?_⟩
 ·have mz:((m*z.1,m*z.2):Pt)∈A:=(r.mem _).mpr (by rw[N.cs_eq];exact bG.mpr ⟨z,hz,rfl⟩);obtain⟨c1,c2⟩:=bA _ mz;exact⟨c1.le (le _),c2.le (le _)⟩
 ·obtain⟨X,Y,e1,e2⟩:=r;have l1:=Φ eW e1;have l2:=Φ eW e2;have l3:=Φ eW N.cs_eq;simp at l1 l2 l3;lia
def ZY(he:0<e)(T:Told e A sh zs)(c:b_ A):c7 sh zs:=by
 have hp:=TW he T;obtain⟨w,T',m,r,l,N⟩:=T;have ec:w::T'=zs.map (scl m):=N.cs_eq;refine⟨hp,b_.unscl N.mpos (by rw[<-ec];exact c.rot r),?_,N.cop⟩;cases zs with
 |nil=>simp at ec
 |cons z' T2=>
  simp only[aR,gW] at ec;refine⟨z',T2,rfl,λq hq e_=>?_⟩;refine l (scl m q) (by rw[ec.2];exact cT hq) ?_;rw[ec.1];exact(EF N.mpos).mpr e_
theorem Gp.facts(f:Fm s h)(g:U_ P)(c:b_ P)(T:Gp s h P sh cs):c7 sh cs/\BL 40 sh/\(∀z∈cs,BL 70 z.1/\BL 70 z.2)/\cs.length=P.length:=by
 have bS:BL 22 (s.2*h.2):=(f.ls.bot.mul f.b2).mono;have bl:BL 50 (s.1*h.2):=(f.ls.top.mul f.b2).mono;have bh:BL 22 (h.1*s.2):=(f.b1.mul f.ls.bot).mono;have be:BL 40 (eF s h):=((BL.const (n:=5) (i:=24) η).mul bS).mono;obtain⟨q1,q2,q3⟩:=Kf f.ep T be (n:=70) (λa ha=>by
  obtain⟨z,hz,rfl⟩:=bG.mp ha;obtain⟨⟨x0,x1⟩,y0,y1⟩:=g z hz;have bx:=Tk x0 x1;have ro:=Tk y0 y1;exact⟨(bx.mul bS).mono,((bx.mul bl).add (ro.mul bh)).mono⟩)
 exact⟨ZY f.ep T (OV f.sp f.hp c),q1,q2,by rw[q3,aY]⟩
end
def SV:∀P∈wX,U_ P:=by unfold U_;decide +kernel
structure kn(m:Mv):Prop where
 sg:m.1=1\/m.1 = -1
 q0:0<m.2.1.2
 v0:0<m.2.2.2
 cx:cO m.2.1.1 m.2.1.2=1
 cy:cO m.2.2.1 m.2.2.2=1
 bp:BL 400 m.2.1.1
 bq:BL 400 m.2.1.2
 bu:BL 400 m.2.2.1
 bv:BL 400 m.2.2.2
structure V_(dn:Pt)(m m':Mv):Prop where
 sg:m'.1=m.1
 x:m'.2.1.1*m.2.1.2=m.2.1.1*m'.2.1.2
 y:m'.2.2.1*(dn.2*m.2.2.2)=(m.1 * -dn.1*m.2.2.2+m.2.2.1*dn.2)*m'.2.2.2
abbrev Bt:=ω Pt×Int×ω Pt×Mv
def jr(b:Bt):D:=.tup [pc b.2.1 b.2.2.1,ju b.2.2.2]
def Zw{z:Pt}:qh (pt z):=.cons .int (.cons .int .nil)
def Td:FD:=λds Q=>∃a b c d:Int,ds=[.tup [.int a,.int b],.tup [.int c,.int d]]/\(BL 5000 a/\BL 5000 b/\BL 5000 c/\BL 5000 d)/\Q (.tup [.int (a*d+c*b),.int (b*d)])
def C7:τ Td tR ["_law_one","_law_other"]:=by
 rintro ds Q ⟨a,b,c,d,rfl,⟨b1,b2,b3,b4⟩,q⟩;rw[cK 0 rfl];unfold tR;nofun;exact⟨b1.mulOk b4,b3.mulOk b2,b2.mulOk b4,q⟩
def XM:FD:=λds Q=>∃(sh:Int)(zs:ω Pt),ds=[pc sh zs]/\(BL 9000 sh/\Ae 9000 zs/\1<=zs.length/\zs.length<=100)/\Q (.tup [.int (hV c6 zs),.int (sh*sh)])
def Gw:τ XM DV ["_law_piece","_law_total","_law_k","_law_one","_law_two"]:=by
 rintro ds Q ⟨sh,zs,rfl,⟨bs,hS,l1,l2⟩,q⟩;rw[cK 4 rfl];unfold DV;simp only[gQ,Eb,aR,bO,aW,bF];have pos:0<zs.length:=ν
 refine eO [ae (pc sh zs),ae (.int 0),ξ,ξ,ξ] (λK hK=>?_) ?_
 ·nofun;exact hK
 refine dI (λd=>∃a b c:Option L2.R2.S,d=[ae (pc sh zs),ae (.int (hV c6 zs)),a,b,c]) (λK hK=>?_) ?_
 ·simp only[lC,TN,aD,aV,r1,r2,rC,iT,sB,aQ,aB,aE,S.val,aY];refine⟨by constructor <;> lia,?_⟩;have nn:(((zs.length:Nat):Int)).toNat=zs.length:=ν
  simp only[nn];refine JM 0 zs.length (λi d=>∃a b c:Option L2.R2.S,d=[ae (pc sh zs),ae (.int (fg c6 (rg zs (zs.length-1)) (zs.take i))),a,b,c]) ?_ ?_ _ ⟨ξ,ξ,ξ,rfl⟩
  ·rintro i d hi ⟨a,b,c,rfl⟩ F _ _ hn _;obtain⟨p1,p2⟩:=hS _ (xV pos (i+(zs.length-1)));obtain⟨q1,q2⟩:=hS _ (xV pos i);unfold wZ;nofun;rw[JP hi];nofun;simp only[CS hi];nofun;refine⟨p1.mulOk q2,p2.mulOk q1,hn _ ⟨ae (.int (0+(i:Int))),ae (pt (rg zs (i+(zs.length-1)))),ae (pt (rg zs i)),?_⟩⟩;rw[Rq c6 hi];unfold c6;rw[Int.add_sub_assoc]
  ·rintro d ⟨a,b,c,rfl⟩;rw[sU,Vr c6 pos];exact hK _ ⟨a,b,c,rfl⟩
 rintro d ⟨a,b,c,rfl⟩;nofun;exact⟨bs.mulOk bs,q⟩
section
variable{s h:Pt}
def Ub(g:Gp s h P sh zs):eF s h*eF s h*hV c6 zs=sh*sh*((s.2*h.2)*(h.1*s.2)*hV c6 P):=by
 obtain⟨A',r,eq⟩:=Told.ring g;have e1:=vX (eF s h) zs;rw[eq,vX] at e1;have:(λx y=>c6 (pj s h x) (pj s h y))=λx y=>s.2*h.2*(h.1*s.2)*c6 x y:=by funext x y;exact Th _ _ _ x y
 rw[<-e1,<-zT r,CN,this,QX]
end
def XS:FD:=λds Q=>∃p:Pt,ds=[pt p]/\(0<p.2/\cO p.1 p.2=1)/\Q (.bl ζ)
def Mn:τ XS (uP BS IE) ["_law_found"]:=by
 rintro ds Q ⟨p,rfl,⟨h1,h2⟩,q⟩;rw[cK 0 rfl];unfold uP;nofun;refine⟨p.1,rfl,?_⟩;nofun;refine⟨p.2,rfl,?_⟩;nofun;simp only[h1,decide_true,if_true];refine⟨p.1,p.2,rfl,?_⟩;nofun;rw[h2];exact q
def JB(h:az (R.map f) a b):∃x y,az R x y/\f x=a/\f y=b:=by
 obtain⟨l,r,e⟩:=h;rw[<-kB,<-cI] at e;obtain⟨l',r',e1,rfl,e2⟩:=oC.mp e;obtain⟨x,r2,rfl,e3,e4⟩:=kG.mp e2;obtain⟨y,r3,rfl,e5,e6⟩:=kG.mp e4;exact⟨x,y,⟨l',r3,e1⟩,e3,e5⟩
theorem SI:∀{l:ω Pt}{a b:Pt},(a,b)∈SL l->ie l a b
 | [],_,_,h=>by cases h
 | [_],_,_,h=>by cases h
 |x::y::r,a,b,h=>by
  rcases aO.mp h with e |h
  ·cases e;exact⟨[],r,rfl⟩
  ·exact(SI h).cons x
def gf(I J N:Int)(a b:Pt):Int:=(b.1-a.1)*(J-a.2*N)-(b.2-a.2)*(I-a.1*N)
structure u6(s h:Pt)(X Y W I J N:Int):Prop where
 w:0<W
 n:0<N
 x:eF s h*X*N=W*(I*(s.2*h.2))
 y:eF s h*Y*N=W*(I*(s.1*h.2)+J*(h.1*s.2))
def gv(I J N:Int)(P:ω Pt):Int:=if((SL (P++P.take 1)).all λp=>decide (0<gf I J N p.1 p.2))=ζ then 1 else if((SL (P++P.take 1)).all λp=>decide (0<=gf I J N p.1 p.2))=ζ then 0 else -1
def IV[DecidablePred p]:((SL (P++P.take 1)).all λx=>decide (p x))=ζ↔∀a b,az P a b->p (a,b):=by
 rw[pY];constructor
 ·intro h a b c;exact of_decide_eq_true (h _ (DH c))
 ·intro h x hx;exact decide_eq_true (h x.1 x.2 (SI hx))
def Zc(h:∀a b,az P a b->0<gf I J N a b):gv I J N P=1:=by
 unfold gv;rw[Ω (IV.mpr h)]
def Ud(h:∀a b,az P a b->0<=gf I J N a b)(z:∃a b,az P a b/\gf I J N a b<=0):gv I J N P=0:=by
 obtain⟨a,b,c,z⟩:=z;unfold gv;rw[υ (λk=>by have:=IV.mp k a b c;dsimp only at this;lia),Ω (IV.mpr h)]
def Zb(z:∃a b,az P a b/\gf I J N a b<0):gv I J N P = -1:=by
 obtain⟨a,b,c,z⟩:=z;unfold gv;rw[υ (λk=>by have:=IV.mp k a b c;dsimp only at this;lia),υ (λk=>by have:=IV.mp k a b c;dsimp only at this;lia)]
def kO{c1 c2 x y:Int}(h1:0<c1)(h2:0<c2)(e:c1*x=c2*y):(0<x↔0<y)/\(x<0↔y<0):=by
 rcases fN x 0 with k |rfl |k
 ·have:=eJ h1 k;have hy:y<0:=by
   apply fG.mp;intro z;have:=bT (aK h2) z;lia
  lia
 ·rw[mQ] at e;rcases tY.mp e.symm with z |z <;> lia
 ·have:=aJ h1 k;have hy:0<y:=by
   apply fG.mp;intro z;have:=eU (aK h2) z;lia
  lia
def XE{s h:Pt}{sh X Y W:Int}(sp:u6 s h X Y W I J N)(ea:scl (eF s h) a=scl sh (pj s h p))(eb:scl (eF s h) b=scl sh (pj s h q)):
  eF s h*eF s h*N*fe sh X Y W a b=sh*sh*W*(s.2*h.2)*(h.1*s.2)*gf I J N p q:=by
 obtain⟨_,_,sx,sy⟩:=sp;unfold scl pj aff at ea eb;simp only[fK] at ea eb;obtain⟨a1,a2⟩:=ea;obtain⟨b1,b2⟩:=eb;rw[<-ZU];unfold gf;generalize eF s h=e at *;generalize s.2*h.2=A at *;generalize s.1*h.2=B at *;generalize h.1*s.2=C at *;have l:e*e*N*((b.1-a.1)*(Y*sh-a.2*W)-(b.2-a.2)*(X*sh-a.1*W))=(e*b.1-e*a.1)*(sh*(e*Y*N)-W*N*(e*a.2))-(e*b.2-e*a.2)*(sh*(e*X*N)-W*N*(e*a.1)):=ε
 rw[l,a1,a2,b1,b2,sx,sy];grind
def WK{s h:Pt}{sh X Y W M:Int}(f:Fm s h)(g:Gp s h P sh cs)(sp:u6 s h X Y W I J N)(h1:∃a b,az cs a b/\M=fe sh X Y W a b)(h2:∀a b,az cs a b->M<=fe sh X Y W a b):No M=gv I J N P:=by
 have h0:=TW f.ep g;have c1:0<eF s h*eF s h*N:=aJ (aJ f.ep f.ep) sp.n;have c2:0<sh*sh*W*(s.2*h.2)*(h.1*s.2):=aJ (aJ (aJ (aJ h0 h0) sp.w) f.sp) f.hp;obtain⟨A',r,eq⟩:=Told.ring g;have l1:∀a b,az cs a b->∃p q,az P p q/\eF s h*eF s h*N*fe sh X Y W a b=sh*sh*W*(s.2*h.2)*(h.1*s.2)*gf I J N p q:=λa b c=>by
  have k:=JC (f:=scl (eF s h)) c;rw[eq] at k;obtain⟨x,y,k1,ex,ey⟩:=JB k;obtain⟨p,q,k2,rfl,rfl⟩:=JB (EL r k1);exact⟨p,q,k2,XE sp ex.symm ey.symm⟩
 have l2:∀p q,az P p q->∃a b,az cs a b/\eF s h*eF s h*N*fe sh X Y W a b=sh*sh*W*(s.2*h.2)*(h.1*s.2)*gf I J N p q:=λp q c=>by
  have c:=JC (f:=scl sh) (EL r.symm (JC (f:=pj s h) c));rw[<-eq] at c;obtain⟨x,y,c,ex,ey⟩:=JB c;exact⟨x,y,c,XE sp ex ey⟩
 obtain⟨a,b,c,e⟩:=h1;obtain⟨p,q,c',ee⟩:=l1 a b c;rw[<-e] at ee;have sg:=kO c1 c2 ee;have ge:∀p q,az P p q->∃x,M<=x/\(0<x↔0<gf I J N p q)/\(x<0↔gf I J N p q<0):=λp q c=>by
  obtain⟨a,b,k,ee⟩:=l2 p q c;exact⟨_,h2 a b k,kO c1 c2 ee⟩
 unfold No;rcases fN M 0 with k |k |k
 ·rw[Zb ⟨p,q,c',sg.2.mp k⟩,υ ν,Ω k];decide
 ·rw[Ud (λp q c=>by obtain⟨x,u,v,w⟩:=ge p q c;lia) ⟨p,q,c',ν⟩,υ ν,υ ν];decide
 ·rw[Zc (λp q c=>by obtain⟨x,u,v,w⟩:=ge p q c;lia),Ω k,υ ν];decide
def Ng(w:Int):ω (ω Pt):=if w=0 then[[(0,0),(24,0),(24,24),(0,24)]] else if w=1 then[[(0,0),(24,0),(24,24)],[(0,0),(24,24),(0,24)]] else if w=2 then[[(0,0),(24,0),(0,24)],[(24,0),(24,24),(0,24)]] else[[(0,0),(8,0),(8,24),(0,24)],[(8,0),(24,0),(24,24),(8,24)]]
def VJ:ω (ω (ω Pt)):=[Ng 0,Ng 1,Ng 2,Ng 3]
def F7(h0:0<=w)(h1:w<4):Ng w∈VJ:=by
 unfold VJ;have:w=0\/w=1\/w=2\/w=3:=ν
 rcases this with rfl |rfl |rfl |rfl <;> simp
def vH:∀w∈VJ,w.length<=2/\∀P∈w,P∈wX:=ι
def tv(a b c:Pt):gv I J N [a,b,c]=if 0<gf I J N a b/\0<gf I J N b c/\0<gf I J N c a then 1 else if 0<=gf I J N a b/\0<=gf I J N b c/\0<=gf I J N c a then 0 else -1:=by
 unfold gv;simp only[SL,uM,CC,aW,bF,FI,List.all_nil,xF,jI,decide_eq_true_eq]
def ul(a b c d:Pt):gv I J N [a,b,c,d]=if 0<gf I J N a b/\0<gf I J N b c/\0<gf I J N c d/\0<gf I J N d a then 1 else if 0<=gf I J N a b/\0<=gf I J N b c/\0<=gf I J N c d/\0<=gf I J N d a then 0 else -1:=by
 unfold gv;simp only[SL,uM,CC,aW,bF,FI,List.all_nil,xF,jI,decide_eq_true_eq]
def LW{A B:Prop}[Decidable A][Decidable B]{D:Int}(h1:0<D->A)(h2:D=0->¬A/\B)(h3:D<0->¬A/\¬B):(D=0/\(if A then 1 else if B then 0 else -1:Int)=0)\/(0<D/\(if A then 1 else if B then 0 else -1:Int)=1)\/(D<0/\(if A then 1 else if B then 0 else -1:Int) = -1):=by
 rcases fN D 0 with k |k |k
 ·obtain⟨a,b⟩:=h3 k;rw[υ a,υ b];exact .inr (.inr ⟨k,rfl⟩)
 ·obtain⟨a,b⟩:=h2 k;rw[υ a,Ω b];exact .inl ⟨k,rfl⟩
 ·rw[Ω (h1 k)];exact .inr (.inl ⟨k,rfl⟩)
def ZZ{I J N D:Int}(h1:(D=0/\gv I J N P=0)\/(0<D/\gv I J N P=1)\/(D<0/\gv I J N P = -1))(h2:(-D=0/\gv I J N R=0)\/(0 < -D/\gv I J N R=1)\/(-D<0/\gv I J N R = -1))(h:∀T∈[P,R],gv I J N T≠0):
  ([P,R].filter λT=>decide (gv I J N T=1)).length=1:=by
 have n1:=h P δ;rcases h1 with⟨d,e⟩ | ⟨d,e⟩ | ⟨d,e⟩
 ·exact Ψ e n1
 ·rcases h2 with⟨d',e'⟩ | ⟨d',e'⟩ | ⟨d',e'⟩
  ·lia
  ·lia
  ·simp[e,e']
 ·rcases h2 with⟨d',e'⟩ | ⟨d',e'⟩ | ⟨d',e'⟩
  ·lia
  ·simp[e,e']
  ·lia
def Wq(i0:0<I)(i1:I<24*N)(j0:0<J)(j1:J<24*N):∀w∈VJ,(∀P∈w,gv I J N P≠0)->(w.filter λP=>decide (gv I J N P=1)).length=1:=by
 intro w hw h;unfold VJ at hw;simp only[aO,eM,or_false] at hw;rcases hw with rfl |rfl |rfl |rfl
 ·have e:gv I J N [(0,0),(24,0),(24,24),(0,24)]=1:=by
   rw[ul,Ω];unfold gf;dsimp only;lia
  show([[(0,0),(24,0),(24,24),(0,24)]].filter _).length=1;simp[e]
 ·refine ZZ (P:=[(0,0),(24,0),(24,24)]) (R:=[(0,0),(24,24),(0,24)]) (D:=I-J) ?_ ?_ h
  ·rw[tv];unfold gf;dsimp only;exact LW (λ_=>by lia) (λ_=>by lia) λ_=>by lia
  ·rw[tv];unfold gf;dsimp only;exact LW (λ_=>by lia) (λ_=>by lia) λ_=>by lia
 ·refine ZZ (P:=[(0,0),(24,0),(0,24)]) (R:=[(24,0),(24,24),(0,24)]) (D:=24*N-I-J) ?_ ?_ h
  ·rw[tv];unfold gf;dsimp only;exact LW (λ_=>by lia) (λ_=>by lia) λ_=>by lia
  ·rw[tv];unfold gf;dsimp only;exact LW (λ_=>by lia) (λ_=>by lia) λ_=>by lia
 ·refine ZZ (P:=[(0,0),(8,0),(8,24),(0,24)]) (R:=[(8,0),(24,0),(24,24),(8,24)]) (D:=8*N-I) ?_ ?_ h
  ·rw[ul];unfold gf;dsimp only;exact LW (λ_=>by lia) (λ_=>by lia) λ_=>by lia
  ·rw[ul];unfold gf;dsimp only;exact LW (λ_=>by lia) (λ_=>by lia) λ_=>by lia
abbrev Ln(m:Mv)(X Y W:Int):D:=i8 ((m.1*X*m.2.1.2+m.2.1.1*W)*m.2.2.2) ((m.1*Y*m.2.2.2+m.2.2.1*W)*m.2.1.2) (W*m.2.1.2*m.2.2.2)
def Fa:FD:=λds Q=>∃(m:Mv)(X Y W:Int),ds=[ju m,i8 X Y W]/\(kn m/\BL 900 X/\BL 900 Y/\BL 900 W)/\Q (Ln m X Y W)
def Mp:τ Fa NL ["_law_move_here","_law_spot","_law_sign","_law_dx","_law_dy","_law_x","_law_y"]:=by
 rintro ds Q ⟨⟨sg,⟨p,q'⟩,u,v⟩,X,Y,W,rfl,⟨mf,bX,bY,bW⟩,q⟩;have bs:BL 2 sg:=by have:=mf.sg;exact BL.of_lt (m:=2) (by dsimp only at this;lia) (by dsimp only at this;lia)
 have bp:BL 400 p:=mf.bp;have bq:BL 400 q':=mf.bq;have bu:BL 400 u:=mf.bu;have bv:BL 400 v:=mf.bv;rw[cK 5 rfl];unfold NL ju;simp only[gQ,Mu,aR,bO,aW,bF];nofun;refine⟨bs.mulOk bX,(bs.mul bX).mulOk bq,bp.mulOk bW,(((bs.mul bX).mul bq).add (bp.mul bW)).mulOk bv,bs.mulOk bY,(bs.mul bY).mulOk bv,bu.mulOk bW,(((bs.mul bY).mul bv).add (bu.mul bW)).mulOk bq,bW.mulOk bq,(bW.mul bq).mulOk bv,q⟩
def QE:FD:=λds Q=>∃(n:Int)(s h:Pt),ds=[.int n,pt s,pt h]/\Fm s h/\∀X Y W I J N,u6 s h X Y W I J N->((0<I/\I<24*N)/\0<J/\J<24*N)->(BL 200 X/\BL 200 Y/\BL 200 W)->Q (i8 X Y W)
def Ds:τ QE AX ["_law_cell_here","_law_s","_law_h","_law_number","_law_x","_law_y","_law_share"]:=by
 rintro ds Q ⟨n,s,h,rfl,f,q⟩;rw[cK 4 rfl];unfold AX;simp only[gQ,Eb,aR,bO,aW,bF];refine dI (λd=>∃k:Int,(0<=k/\k<2147483629)/\d=[ae (.int n),ae (pt s),ae (pt h),ae (.int k),ξ,ξ,ξ]) (λK hK=>?_) ?_
 ·obtain⟨a0,a1⟩:=fQ (a:=n) (b:=1000000000) η;have b7:BL 41 (n.fmod 1000000000+7):=BL.of_lt (m:=41) ν ν;have b31:BL 41 (n.fmod 1000000000+31):=BL.of_lt (m:=41) ν ν;obtain⟨c0,c1⟩:=fQ (a:=(n.fmod 1000000000+7)*(n.fmod 1000000000+31)*48271) (b:=2147483629) η;nofun;exact⟨SW,nG,SW,nG,b7.mulOk b31,(b7.mul b31).mulOk (BL.const (n:=20) η),nG,hK _ ⟨_,⟨c0,c1⟩,rfl⟩⟩
 rintro d ⟨k,hk,rfl⟩;have bk:BL 40 k:=BL.of_lt (m:=40) ν ν;refine dI (λd=>∃x:Int,(1<=x/\x<=1008)/\d=[ae (.int n),ae (pt s),ae (pt h),ae (.int k),ae (.int x),ξ,ξ]) (λK hK=>?_) ?_
 ·obtain⟨a0,a1⟩:=fQ (a:=k) (b:=1008) η;nofun;exact⟨nG,hK _ ⟨_,⟨ν,ν⟩,rfl⟩⟩
 rintro d ⟨x,hx,rfl⟩;refine dI (λd=>∃y:Int,(1<=y/\y<=9972)/\d=[ae (.int n),ae (pt s),ae (pt h),ae (.int k),ae (.int x),ae (.int y),ξ]) (λK hK=>?_) ?_
 ·obtain⟨a0,a1⟩:=fQ (a:=(k*69621).fmod 2147483587) (b:=9972) η;nofun;exact⟨bk.mulOk (BL.const (n:=20) η),nG,nG,hK _ ⟨_,⟨ν,ν⟩,rfl⟩⟩
 rintro d ⟨y,hy,rfl⟩;have b1:=f.ls.top;have b2:=f.ls.bot;have b3:=f.b1;have b4:=f.b2;have bx:BL 11 x:=BL.of_lt (m:=11) ν ν;have ro:BL 14 y:=BL.of_lt (m:=14) ν ν;have k9:BL 14 9973:=BL.const η;have k1:BL 14 1009:=BL.const η;have kk:BL 30 10062757:=BL.const η;refine eO [ae (.int n),ae (pt s),ae (pt h),ae (.int k),ae (.int x),ae (.int y),ae (.int (10062757*s.2*h.2))] (λK hK=>?_) ?_
 ·nofun;exact⟨k1.mulOk k9,kk.mulOk b2,(kk.mul b2).mulOk b4,hK⟩
 nofun;refine⟨bx.mulOk k9,(bx.mul k9).mulOk b2,((bx.mul k9).mul b2).mulOk b4,bx.mulOk b1,(bx.mul b1).mulOk k9,((bx.mul b1).mul k9).mulOk b4,ro.mulOk b3,(ro.mul b3).mulOk k1,((ro.mul b3).mul k1).mulOk b2,?_⟩;have S0:=f.sp;refine q _ _ _ (24*x*9973) (24*y*1009) 10062757 ⟨?_,η,?_,?_⟩ ⟨⟨ν,ν⟩,ν,ν⟩ ⟨?_,?_,?_⟩
 ·have:10062757*s.2*h.2=10062757*(s.2*h.2):=ε
  rw[this];lia
 ·unfold eF;grind
 ·unfold eF;grind
 ·exact(((bx.mul k9).mul b2).mul b4).mono
 ·exact((((bx.mul b1).mul k9).mul b4).add (((ro.mul b3).mul k1).mul b2)).mono
 ·exact((kk.mul b2).mul b4).mono
structure HB(s h:Pt)(L:List Bt):Prop where
 fm:Fm s h
 len:L.length<=4
 each:∀b∈L,Gp s h b.1 b.2.1 b.2.2.1/\(b_ b.1/\b.1.length<=10)/\U_ b.1/\kn b.2.2.2
abbrev p7(I J N:Int)(b:Bt):Bool:=decide (gv I J N b.1=1)
def PX:FD:=λds Q=>∃(s h:Pt)(L:ω Bt)(X Y W I J N:Int),ds=[.lst (L.map jr),i8 X Y W]/\(HB s h L/\u6 s h X Y W I J N)/\(BL 400 X/\BL 400 Y/\BL 400 W) /\
 ((∃b∈L,gv I J N b.1=0)->Q .non)/\((∀b∈L,gv I J N b.1≠0)->Q (.lst ((L.filter (p7 I J N)).map λb=>Ln b.2.2.2 X Y W)))
def Dk:τ PX (yU Fa IB) ["_law_bits_here","_law_spot","_law_found","_law_piece","_law_move_here","_law_where"]:=by
 rintro ds Q ⟨s,h,L,X,Y,W,I,J,N,rfl,⟨hb,sp⟩,⟨bX,bY,bW⟩,q0,q1⟩;rw[cK 4 rfl];unfold yU;simp only[gQ,Eb,aR,bO,aW,bF];refine eO [ae (.lst (L.map jr)),ae (i8 X Y W),ψ (.own []),ξ,ξ,ξ] (λK hK=>?_) ?_
 ·nofun;exact hK
 refine dI (λa=>∃u v w,(∀b∈L,gv I J N b.1≠0)/\a=[ae (.lst (L.map jr)),ae (i8 X Y W),ψ (.own ((L.filter (p7 I J N)).map λb=>Ln b.2.2.2 X Y W)),u,v,w]) (λK hK=>?_) ?_
 ·simp only[lC,riL,bV,aB];refine jG (λys a=>∃(dn td:ω Bt)(u v w:Option L2.R2.S),L=dn++td/\ys=td.map jr/\(∀b∈dn,gv I J N b.1≠0)/\a=[ae (.lst (L.map jr)),ae (i8 X Y W),ψ (.own ((dn.filter (p7 I J N)).map λb=>Ln b.2.2.2 X Y W)),u,v,w]) ?_ ?_ _ _ ⟨[],L,ξ,ξ,ξ,rfl,rfl,δ,rfl⟩
  ·rintro y ys a ⟨dn,td,u,v,w,ec,ey,hd,rfl⟩ F hr qk hn _;cases td with
   |nil=>cases ey
   |cons b td=>
    cases ey;have mb:b∈L:=(by rw[ec];simp);obtain⟨g,⟨cv,l10⟩,gi,mf⟩:=hb.each b mb;obtain⟨ip,bs,bz,lz⟩:=Gp.facts hb.fm gi cv g;have l3:=cv.len;unfold uO jr;simp only[nX,fW,nW,cY,bP,dG,true_and,aM,aP];refine eO [ae (.lst (L.map jr)),ae (i8 X Y W),ψ (.own ((dn.filter (p7 I J N)).map λb=>Ln b.2.2.2 X Y W)),ae (pc b.2.1 b.2.2.1),ae (ju b.2.2.2),ae (.int (gv I J N b.1))] (λK fi=>?_) ?_
    ·simp only[eI,cH,aD,aV,bV,aB,aE,aM,aP];refine⟨b.2.1,b.2.2.1,X,Y,W,rfl,⟨bs.mono,λz hz=>⟨(bz z hz).1.mono,(bz z hz).2.mono⟩,ν,ν⟩,⟨bX.mono,bY.mono,bW.mono⟩,λM h1 h2=>?_⟩;rw[WK hb.fm g sp h1 h2];exact fi
    generalize hm:ju b.2.2.2=MD;generalize hp:pc b.2.1 b.2.2.1=PD;refine dI (λa=>gv I J N b.1≠0/\a=[ae (.lst (L.map jr)),ae (i8 X Y W),ψ (.own ((dn.filter (p7 I J N)).map λb=>Ln b.2.2.2 X Y W)),ae PD,ae MD,ae (.int (gv I J N b.1))]) (λK fi=>?_) ?_
    ·by_cases z:gv I J N b.1=0
     ·simp only[z];nofun;exact hr▸q0 ⟨b,mb,z⟩
     ·nofun;simp only[z,decide_false,aS,if_false];exact fi _ ⟨z,rfl⟩
    rintro a ⟨hz,rfl⟩;have hd2:∀x∈dn++[b],gv I J N x.1≠0:=λx hx=>by
     rcases bQ.mp hx with k |k
     ·exact hd x k
     ·rw[cJ.mp k];exact hz
    have le:(dn.filter (p7 I J N)).length<=4:=by
     have:=Φ eW ec;have:=hb.len;have:=oT (p7 I J N) dn;simp at *;lia
    by_cases z:gv I J N b.1=1
    ·simp only[z];simp only[jU,dZ,r2,aQ,rC,sN,wY,cH,aD,aV,bV,aB,aE,aM,aP,decide_true,if_true,aS,if_false];refine⟨b.2.2.2,X,Y,W,by rw[hm],⟨mf,bX.mono,bY.mono,bW.mono⟩,mX θ,hn _ ⟨dn++[b],td,ae PD,ae MD,ae (.int 1),by rw[ec];simp,rfl,hd2,?_⟩⟩;rw[lS,cI];have:[b].filter (p7 I J N)=[b]:=(by simp[p7,z]);rw[this];rfl
    ·nofun;simp only[z,decide_false,aS,if_false];refine hn _ ⟨dn++[b],td,ae PD,ae MD,ae (.int (gv I J N b.1)),by rw[ec];simp,rfl,hd2,?_⟩;rw[lS,cI];have:[b].filter (p7 I J N)=[]:=(by simp[p7,z]);rw[this];simp
  ·rintro a ⟨dn,td,u,v,w,ec,ey,hd,rfl⟩;have:td=[]:=(by simpa using ey.symm);subst this;rw[eH] at ec;subst ec;exact hK _ ⟨u,v,w,hd,rfl⟩
 rintro a ⟨u,v,w,hd,rfl⟩;simp only[sX,S.fz,fM,bV,aB,aE,aM,aP];exact q1 hd
section
variable{s h lh dn:Pt}{t X Y W I J N:Int}
theorem Yl(mf:kn m)(bX:BL 400 X)(bY:BL 400 Y)(bW:BL 400 W):BL 4000 ((m.1*X*m.2.1.2+m.2.1.1*W)*m.2.2.2)/\BL 4000 ((m.1*Y*m.2.2.2+m.2.2.1*W)*m.2.1.2)/\BL 4000 (W*m.2.1.2*m.2.2.2):=by
 have bs:BL 2 m.1:=by have:=mf.sg;exact BL.of_lt (m:=2) ν ν
 exact⟨(((((bs.mul bX).mul mf.bq).add (mf.bp.mul bW)).mul mf.bv)).mono,(((((bs.mul bY).mul mf.bv).add (mf.bu.mul bW)).mul mf.bq)).mono,((bW.mul mf.bq).mul mf.bv).mono⟩
end
def Xf{s h:Pt}{A P:ω Pt}(f:Fm s h)(hP:P∈wX)(h0:0<share)(h1:BL 100 share)(hA:A.length<=10)(eq:A.map (scl (eF s h))=(P.map (pj s h)).map (scl share))(q:∀sh zs,Gp s h P sh zs->Q (pc sh zs)):VN [.int share,fv A] Q:=by
 have cP:=EV P hP;have cA:=OV f.sp f.hp cP (lo:=s.1*h.2);have nP:(P.map (pj s h)).Nodup:=cA.nodup;have n1:((P.map (pj s h)).map (scl share)).Nodup:=wM (scl share) (λa b hn k=>hn (KM h0 k)) nP;have nA:A.Nodup:=by
  rw[<-eq] at n1;exact BW (scl (eF s h)) (λa b hn k=>hn (by rw[k])) n1
 have l3:3<=A.length:=by
  have l:=Φ eW eq;have:=cP.len;simp at l;lia
 refine⟨share,A,rfl,⟨h0,h1⟩,⟨by rintro rfl;simp at l3,ν⟩,λm sh zs j d=>?_⟩;exact q _ _ (Wj (Pn d) h0 f.ep (λk=>by have:=cA.len;rw[k] at this;simp at this) eq nA)
def PU:FD:=λds Q=>∃(s h:Pt)(w:Int),ds=[pt s,pt h,.int w]/\(Fm s h/\0<=w/\w<4)/\∀L:ω (ω Pt×Int×ω Pt),L.map (·.1)=Ng w->(∀p∈L,Gp s h p.1 p.2.1 p.2.2)->Q (.lst (L.map λp=>pc p.2.1 p.2.2))
def Dh:τ PU (AS VN) ["_law_s","_law_h","_law_way","_law_share","_law_low","_law_high","_law_one","_law_two","_law_three","_law_four","_law_amid","_law_first"]:=by
 rintro ds Q ⟨s,h,w,rfl,⟨f,w0,w4⟩,q⟩;have sp:=f.sp;have bS:BL 90 (s.2*h.2):=(f.ls.bot.mul f.b2).mono;have bl:BL 90 (s.1*h.2):=(f.ls.top.mul f.b2).mono;have bh:BL 90 (h.1*s.2):=(f.b1.mul f.ls.bot).mono;have rp:∀{P A:ω Pt}{R:D->Prop},P∈wX->A.length<=10->A.map (scl (eF s h))=(P.map (pj s h)).map (scl (s.2*h.2))->(∀sh zs,Gp s h P sh zs->R (pc sh zs))->VN [.int (s.2*h.2),fv A] R:=λhP hA e q=>Xf f hP sp (bS.mono) hA e q;have yz:∀{P A:ω Pt}{R:D->Prop},P∈wX->A.length<=10->A.map (scl (eF s h))=(P.map (pj s h)).map (scl (3*(s.2*h.2)))->(∀sh zs,Gp s h P sh zs->R (pc sh zs))->VN [.int (3*(s.2*h.2)),fv A] R:=λhP hA e q=>Xf f hP ν (((BL.const (n:=3) (i:=3) η).mul bS).mono) hA e q;rw[cK 9 rfl];unfold AS;simp only[gQ,O3,aR,bO,aW,bF];refine eO [ae (pt s),ae (pt h),ae (.int w),ae (.int (s.2*h.2)),ξ,ξ,ξ,ξ,ξ,ξ,ξ,ξ] (λK hK=>?_) ?_
 ·nofun;exact⟨f.ls.bot.mulOk f.b2,hK⟩
 refine eO [ae (pt s),ae (pt h),ae (.int w),ae (.int (s.2*h.2)),ae (.int (s.1*h.2)),ξ,ξ,ξ,ξ,ξ,ξ,ξ] (λK hK=>?_) ?_
 ·nofun;exact⟨f.ls.top.mulOk f.b2,hK⟩
 refine eO [ae (pt s),ae (pt h),ae (.int w),ae (.int (s.2*h.2)),ae (.int (s.1*h.2)),ae (.int (h.1*s.2)),ξ,ξ,ξ,ξ,ξ,ξ] (λK hK=>?_) ?_
 ·nofun;exact⟨f.b1.mulOk f.ls.bot,hK⟩
 have eE:eF s h=24*(s.2*h.2):=rfl;have eA:∀z,pj s h z=(z.1*(s.2*h.2),z.1*(s.1*h.2)+z.2*(h.1*s.2)):=λ_=>rfl;generalize hS:s.2*h.2=A at *;generalize hL:s.1*h.2=B at *;generalize hH:h.1*s.2=C at *;have cw:w=0\/w=1\/w=2\/w=3:=ν
 refine dI (λa=>w=3/\a=[ae (pt s),ae (pt h),ae (.int w),ae (.int A),ae (.int B),ae (.int C),ξ,ξ,ξ,ξ,ξ,ξ]) (λK hK=>?_) ?_
 ·rcases cw with rfl |rfl |rfl |rfl
  ·nofun;rw[Ω η];refine rp (P:=[(0,0),(24,0),(24,24),(0,24)]) (A:=[(0,0),(A,B),(A,B+C),(0,C)]) η δ ?_ λsh zs g=>?_
   ·simp only[aR,bO,eA,eE,scl];simp only[gW,fK,and_true];refine⟨⟨?_,?_⟩,⟨?_,?_⟩,⟨?_,?_⟩,?_,?_⟩ <;> grind
   ·exact q [(_,sh,zs)] rfl (by simpa using g)
  ·nofun;rw[Ω η,υ η];refine rp (P:=[(0,0),(24,0),(24,24)]) (A:=[(0,0),(A,B),(A,B+C)]) η δ ?_ λsh zs g=>?_
   ·simp only[aR,bO,eA,eE,scl];simp only[gW,fK,and_true];refine⟨⟨?_,?_⟩,⟨?_,?_⟩,?_,?_⟩ <;> grind
   refine rp (P:=[(0,0),(24,24),(0,24)]) (A:=[(0,0),(A,B+C),(0,C)]) η δ ?_ λv5 v9 g2=>?_
   ·simp only[aR,bO,eA,eE,scl];simp only[gW,fK,and_true];refine⟨⟨?_,?_⟩,⟨?_,?_⟩,?_,?_⟩ <;> grind
   ·exact q [(_,sh,zs),(_,v5,v9)] rfl (by simpa using⟨g,g2⟩)
  ·nofun;rw[Ω η,υ η,υ η];refine rp (P:=[(0,0),(24,0),(0,24)]) (A:=[(0,0),(A,B),(0,C)]) η δ ?_ λsh zs g=>?_
   ·simp only[aR,bO,eA,eE,scl];simp only[gW,fK,and_true];refine⟨⟨?_,?_⟩,⟨?_,?_⟩,?_,?_⟩ <;> grind
   refine rp (P:=[(24,0),(24,24),(0,24)]) (A:=[(A,B),(A,B+C),(0,C)]) η δ ?_ λv5 v9 g2=>?_
   ·simp only[aR,bO,eA,eE,scl];simp only[gW,fK,and_true];refine⟨⟨?_,?_⟩,⟨?_,?_⟩,?_,?_⟩ <;> grind
   ·exact q [(_,sh,zs),(_,v5,v9)] rfl (by simpa using⟨g,g2⟩)
  ·nofun;rw[υ η];exact hK _ ⟨rfl,rfl⟩
 rintro a ⟨rfl,rfl⟩;refine eO [ae (pt s),ae (pt h),ae (.int 3),ae (.int A),ae (.int B),ae (.int C),ξ,ξ,ξ,ξ,ae (.lst [pt (A,B),pt (A,B+3*C)]),ξ] (λK hK=>?_) ?_
 ·nofun;exact⟨(BL.const (n:=3) (i:=3) η).mulOk bh,hK⟩
 refine dI (λa=>∃sh zs,Gp s h [(0,0),(8,0),(8,24),(0,24)] sh zs/\a=[ae (pt s),ae (pt h),ae (.int 3),ae (.int A),ae (.int B),ae (.int C),ξ,ξ,ξ,ξ,ae (.lst [pt (A,B),pt (A,B+3*C)]),ae (pc sh zs)]) (λK hK=>?_) ?_
 ·nofun;refine⟨(BL.const (n:=3) (i:=3) η).mulOk bS,(BL.const (n:=3) (i:=3) η).mulOk bh,?_⟩;refine yz (P:=[(0,0),(8,0),(8,24),(0,24)]) (A:=[(0,0),(A,B),(A,B+3*C),(0,3*C)]) η δ ?_ λsh zs g=>hK _ ⟨sh,zs,g,rfl⟩;simp only[aR,bO,eA,eE,scl];simp only[gW,fK,and_true];refine⟨⟨?_,?_⟩,⟨?_,?_⟩,⟨?_,?_⟩,?_,?_⟩ <;> grind
 rintro a ⟨sh,zs,g,rfl⟩;generalize hPC:pc sh zs=PD;nofun;refine⟨(BL.const (n:=3) (i:=3) η).mulOk bS,(BL.const (n:=3) (i:=3) η).mulOk bS,(BL.const (n:=3) (i:=3) η).mulOk bl,(BL.const (n:=3) (i:=3) η).mulOk bS,(BL.const (n:=3) (i:=3) η).mulOk bl,(BL.const (n:=3) (i:=3) η).mulOk bh,?_⟩;refine yz (P:=[(8,0),(24,0),(24,24),(8,24)]) (A:=[(A,B),(3*A,3*B),(3*A,3*B+3*C),(A,B+3*C)]) η δ ?_ λv5 v9 g2=>?_
 ·simp only[aR,bO,eA,eE,scl];simp only[gW,fK,and_true];refine⟨⟨?_,?_⟩,⟨?_,?_⟩,⟨?_,?_⟩,?_,?_⟩ <;> grind
 ·rw[<-hPC];exact q [(_,sh,zs),(_,v5,v9)] rfl (by simpa using⟨g,g2⟩)
def QB:FD:=λds Q=>∃n:Int,ds=[.int n]/\BL 210 n/\∀m:Mv,kn m->(BL 210 m.2.1.1/\BL 3 m.2.1.2/\BL 210 m.2.2.1/\BL 3 m.2.2.2)->Q (ju m)
def Dp:τ QB (EB VO) ["_law_number","_law_far","_law_dx","_law_dy"]:=by
 rintro ds Q ⟨n,rfl,bn,q⟩;rw[cK 3 rfl];unfold EB;simp only[gQ,Ea,aR,bO,aW,bF];refine dI (λd=>∃f:Int,(0<=f/\BL 200 f)/\d=[ae (.int n),ae (.int f),ξ,ξ]) (λK hK=>?_) ?_
 ·nofun;obtain⟨a0,a1⟩:=fQ (a:=n.fdiv 2) (b:=2) η;refine⟨SW,(BL.const (n:=9000) η).divOk η,nG,?_⟩;refine YG a0 (by simpa using a1) λx hx=>?_;obtain⟨f,rfl,f0,f1⟩:=J5 hx;exact hK _ ⟨f,⟨f0,f1⟩,rfl⟩
 rintro d ⟨f,⟨f0,f1⟩,rfl⟩;have fp:(2*f+1)≠0:=ν
 refine dI (λd=>∃x:Pt,(0<x.2/\BL 210 x.1/\BL 3 x.2/\cO x.1 x.2=1)/\d=[ae (.int n),ae (.int f),ae (pt x),ξ]) (λK hK=>?_) ?_
 ·nofun;obtain⟨a0,a1⟩:=fQ (a:=n*48271) (b:=1000000007) η;obtain⟨b0,b1⟩:=fQ (a:=n.fdiv 4) (b:=4) η;obtain⟨c0,c1⟩:=fQ (a:=(n*48271).fmod 1000000007*69621) (b:=2*f+1) ν;refine⟨bn.mulOk (BL.const (n:=20)),nG,(BL.of_lt (m:=40) ν ν).mulOk (BL.const (n:=20)),(BL.const (n:=20)).mulOk f1,⟨fp⟩,(BL.const (n:=9000) η).divOk η,nG,?_⟩;have bq:BL 3 (1+(n.fdiv 4).fmod 4):=BL.of_lt (m:=3) ν ν;refine⟨_,_,rfl,⟨ν,bq.mono⟩,λp q' l=>hK _ ⟨(p,q'),⟨l.pos,(Xh f0 f1 c0 c1).le l.lea,bq.le l.leb,l.cop⟩,rfl⟩⟩
 rintro d ⟨x,hx,rfl⟩;refine dI (λd=>∃y:Pt,(0<y.2/\BL 210 y.1/\BL 3 y.2/\cO y.1 y.2=1)/\d=[ae (.int n),ae (.int f),ae (pt x),ae (pt y)]) (λK hK=>?_) ?_
 ·nofun;obtain⟨b0,b1⟩:=fQ (a:=n.fdiv 16) (b:=3) η;obtain⟨c0,c1⟩:=fQ (a:=n) (b:=2*f+1) ν;refine⟨(BL.const (n:=20)).mulOk f1,⟨fp⟩,(BL.const (n:=9000) η).divOk η,nG,?_⟩;have bq:BL 3 (1+(n.fdiv 16).fmod 3):=BL.of_lt (m:=3) ν ν;refine⟨_,_,rfl,⟨ν,bq.mono⟩,λp q' l=>hK _ ⟨(p,q'),⟨l.pos,(Xh f0 f1 c0 c1).le l.lea,bq.le l.leb,l.cop⟩,rfl⟩⟩
 rintro d ⟨y,hy,rfl⟩;nofun;obtain⟨b0,b1⟩:=fQ (a:=n) (b:=2) η;obtain⟨x1,x2,x3,x4⟩:=hx;obtain⟨y1,y2,y3,y4⟩:=hy;exact⟨nG,(BL.const (n:=20)).mulOk (BL.of_lt (m:=20) ν ν),q (_,x,y) ⟨by dsimp only;lia,x1,y1,x4,y4,x2.mono,x3.mono,y2.mono,y3.mono⟩ ⟨x2,x3,y2,y3⟩⟩
def OZ{α:Type}{f:α->D}{xs:ω α}(h:∀x∈xs,fo n (f x) (f x)=ψ ζ):js (fo n) (xs.map f) (xs.map f)=ψ ζ:=
 tT _ λx hx=>by
  obtain⟨y,hy,rfl⟩:=bG.mp hx;exact h y hy
end K36
theorem TX:∀(l:ω Pt),l≠[]->∃u∈l,∀z∈l,af L z<=af L u
 | [],h=>Ψ rfl h
 | [x],_=>⟨x,δ,λz hz=>by simp at hz;subst hz;exact rM _⟩
 |x::y::l,_=>by
  obtain⟨u,hu,h⟩:=TX (y::l) δ;by_cases k:af L x<=af L u
  ·exact⟨u,by simp at hu⊢;exact cX hu,λz hz=>by
    rcases aO.mp hz with rfl |hz
    ·exact k
    ·exact h z hz⟩
  ·exact⟨x,δ,λz hz=>by
    rcases aO.mp hz with rfl |hz
    ·exact rM _
    ·have:=h z hz;lia⟩
def Sq(t u v:Pt)(r:H3):f_ L r*bZ t u v=(af L t-af L u)*gO (aq u) (aq v) r+(af L v-af L u)*gO (aq t) (aq u) r+af L u*r.2.2*bZ t u v:=by
 unfold f_ af gO bZ aq;dsimp only;grind
def Ed(c:b_ cs):∃t u v,az cs t u/\az cs u v/\u∈cs/\0<bZ t u v/\∀z∈cs,af L z<=af L u:=by
 obtain⟨u,hu,top⟩:=TX (L:=L) cs (by intro e;have:=c.len;rw[e] at this;simp at this);obtain⟨t,v,h1,h2,nt⟩:=QY c hu;exact⟨t,u,v,h1,h2,hu,c.strict t u h1 v (az.mem h2).2 (Ne.symm nt) (Ne.symm (c.ne h2)),top⟩
def Vx(c:b_ cs)(hle:∀z∈cs,af L z<=0)(hw:0<=r.2.2)(hr:∀u v,az cs u v->0<=gO (aq u) (aq v) r):f_ L r<=0:=by
 obtain⟨t,u,v,h1,h2,hu,D,top⟩:=Ed (L:=L) c;have e:=Sq (L:=L) t u v r;have a1:=dP (show af L t-af L u<=0 by have:=top t (az.mem h1).1;lia) (hr u v h2);have a2:=dP (show af L v-af L u<=0 by have:=top v (az.mem h2).2;lia) (hr t u h1);have a3:=dP (dP (hle u hu) hw) (aK D);apply fP.mp;intro h;have:=aJ h D;lia
def Vy(c:b_ cs)(hle:∀z∈cs,af L z<=0)(gy:∃z∈cs,af L z≠0)(hw:0<r.2.2)(hr:∀u v,az cs u v->0<gO (aq u) (aq v) r):f_ L r<0:=by
 obtain⟨t,u,v,h1,h2,hu,D,top⟩:=Ed (L:=L) c;have e:=Sq (L:=L) t u v r;have lt:=top t (az.mem h1).1;have lv:=top v (az.mem h2).2;have a1:=dP (show af L t-af L u<=0 by lia) (aK (hr u v h2));have a2:=dP (show af L v-af L u<=0 by lia) (aK (hr t u h1));have a3:=dP (dP (hle u hu) (aK hw)) (aK D);have key:f_ L r*bZ t u v<0:=by
  rcases iM (hle u hu) with k |k
  ·have:=fU (fU k hw) D;lia
  ·by_cases kt:af L t<af L u
   ·have:=fU (show af L t-af L u<0 by lia) (hr u v h2);lia
   ·by_cases kv:af L v<af L u
    ·have:=fU (show af L v-af L u<0 by lia) (hr t u h1);lia
    ·exfalso;have et:af L t=0:=ν;have ev:af L v=0:=ν;have on:∀z,af L z=0->m6 L 1 z:=λz hz=>(by unfold af at hz;unfold m6;lia);by_cases dq:L.a≠0\/L.b≠0
     ·rw[DM dq (on t et) (on u k) (on v ev)] at D;lia
     ·have z1:L.a=0:=bK λq=>dq (dA q);have z2:L.b=0:=bK λq=>dq (cX q);obtain⟨z,_,hz⟩:=gy;unfold af at hz k;rw[z1,z2] at hz k;simp at hz k;lia
 apply fG.mp;intro h;have:=bT h (aK D);lia
theorem Qb:∀(l:ω Pt),∃D,h_ D/\∀z,z∈D↔z∈l
 | []=>⟨[],by unfold h_;simp,δ⟩
 |x::l=>by
  obtain⟨D,h,e⟩:=Qb l;have ins:∀(D:ω Pt),h_ D->∃D',h_ D'/\∀z,z∈D'↔z=x\/z∈D:=by
   intro D
   induction D with
   |nil=>intro _;exact⟨[x],by unfold h_;simp,δ⟩
   |cons y D ih=>
    intro h;unfold h_ at h;have h':=cN.mp h;rcases qY x y with k |k |k
    ·refine⟨x::y::D,?_,δ⟩;unfold h_;refine cN.mpr ⟨λz hz=>?_,h⟩;rcases aO.mp hz with rfl |hz
     ·exact k
     ·exact rP k (h'.1 z hz)
    ·subst k;exact⟨x::D,h,δ⟩
    ·obtain⟨D',i,m⟩:=ih h'.2;refine⟨y::D',?_,λz=>?_⟩
     ·unfold h_;refine cN.mpr ⟨λz hz=>?_,i⟩;rcases (m z).mp hz with rfl |hz
      ·exact k
      ·exact h'.1 z hz
     ·simp only[aO,m z];constructor
      ·rintro (a |a |a) <;> simp[a]
      ·rintro (a |a |a) <;> simp[a]
  obtain⟨D',i,m⟩:=ins D h;exact⟨D',i,λz=>by rw[m z,e z];simp⟩
def Ee{S T:ω Pt}(c1:b_ (z::S))(c2:b_ (w::T))(l1:∀q∈S,¬bB q z)(l2:∀q∈T,¬bB q w)(h1:∀a b,az (z::S) a b->∀q∈w::T,0<=bZ a b q)(h2:∀a b,az (w::T) a b->∀q∈z::S,0<=bZ a b q):z::S=w::T:=by
 obtain⟨D,i,m⟩:=Qb ((z::S)++(w::T));have e1:=AE (L:=z::S) i c1 l1 (λq hq=>(m q).mpr (dC _ hq)) λa b dq q hq=>by
  rcases bQ.mp ((m q).mp hq) with k |k
  ·exact c1.side dq k
  ·exact h1 a b dq q k
 have e2:=AE (L:=z::S) i c2 l2 (λq hq=>(m q).mpr (bD _ hq)) λa b dq q hq=>by
  rcases bQ.mp ((m q).mp hq) with k |k
  ·exact h2 a b dq q k
  ·exact c2.side dq k
 rw[<-e1,e2]
def Kb(s1 s2:Int)(a b q:Pt):bZ (scl s2 a) (scl s2 b) (scl s1 q)=s2*fe s1 q.1 q.2 s2 a b:=by unfold fe gO aq bZ scl;dsimp only;grind
def b_.scl(hk:0<k)(c:b_ l):b_ (l.map (L2.R2.scl k)):=c.map (aJ hk hk) (Ef k) λa b h=>KM hk h
def Mf(p1:c7 s1 z1)(p2:c7 s2 z2)(h1:∀q∈z2,∀a b,az z1 a b->0<=fe s1 q.1 q.2 s2 a b)(h2:∀q∈z1,∀a b,az z2 a b->0<=fe s2 q.1 q.2 s1 a b):s1=s2/\z1=z2:=by
 obtain⟨z,S,e1,l1⟩:=p1.first;obtain⟨w,T,e2,l2⟩:=p2.first;have q1:=p1.pos;have q2:=p2.pos;have c1:=p1.cvx.scl q2;have c2:=p2.cvx.scl q1;have back:∀{k:Int}{l:ω Pt}{x y:Pt},az (l.map (scl k)) x y->∃a b,az l a b/\x=scl k a/\y=scl k b:=by
  intro k l x y h;have h':ie ((l++l.take 1).map (scl k)) x y:=by rw[cI,kB];exact h
  exact ZC h'
 have eq:z1.map (scl s2)=z2.map (scl s1):=by
  subst e1 e2;rw[aR,aR] at *;refine Ee c1 c2 (λq hq=>?_) (λq hq=>?_) (λa b dq q hq=>?_) λa b dq q hq=>?_
  ·obtain⟨y,hy,rfl⟩:=bG.mp hq;rw[EF q2];exact l1 y hy
  ·obtain⟨y,hy,rfl⟩:=bG.mp hq;rw[EF q1];exact l2 y hy
  ·obtain⟨a',b',h,rfl,rfl⟩:=back (l:=z::S) dq;obtain⟨y,hy,rfl⟩:=bG.mp (show q∈(w::T).map (scl s1) from hq);rw[Kb];exact bT ν (h1 y hy a' b' h)
  ·obtain⟨a',b',h,rfl,rfl⟩:=back (l:=w::T) dq;obtain⟨y,hy,rfl⟩:=bG.mp (show q∈(z::S).map (scl s2) from hq);rw[Kb];exact bT ν (h2 y hy a' b' h)
 exact NI (a:=s2) (b:=s1) q2 q1 (dS ..) eq p1.cop p2.cop
def P2(l:jh)(sh:Int)(cs:ω Pt)(s:Int)(d:D):Prop:=d = .non\/∃(cf:Int)(zs:ω Pt),d=pc cf zs/\c7 cf zs/\(BL 9000 cf/\Ae 9000 zs/\zs.length<=100)/\∀z∈zs,0<=(l.a*z.1+l.b*z.2-l.c*cf)*s/\∀a b,az cs a b->0<=fe sh z.1 z.2 cf a b
def Qv(c:b_ cs)(dq:L.a≠0\/L.b≠0):¬ ∀z∈cs,af L z=0:=by
 intro h;have h3:=c.len;have on:∀i,m6 L 1 (rg cs i):=λi=>by
  have:=h _ (xV (cs:=cs) ν i);unfold af at this;unfold m6;lia
 have:=c.bend_rg 0;rw[DM dq (on _) (on _) (on _)] at this;lia
def OS(l:jh)(sh X Y W:Int):f_ (oO l sh) (sh*X,sh*Y,W)=sh*(l.a*X+l.b*Y-l.c*W):=by unfold f_ oO;dsimp only;grind
def Xv(h:-x<=0):0<=x:=ν
def Xt(h:0<=-x):x<=0:=ν
def Xw(h:-x<0)(k:x<=0):False:=ν
def Xu(h:0 < -x)(k:0<=x):False:=ν
def gu(sh:Int)(cs:ω Pt)(X Y W:Int):Prop:=∀a b,az cs a b->0<=fe sh X Y W a b
def im(sh:Int)(cs:ω Pt)(X Y W:Int):Prop:=∀a b,az cs a b->0<fe sh X Y W a b
def pI(c:b_ zs)(h0:0<sh)(h:∀z∈zs,α*z.1+β*z.2+γ*sh<=0){X Y W:Int}(hw:0<=W)(hr:gu sh zs X Y W):α*X+β*Y+γ*W<=0:=by
 have e:=Vx (L:=⟨α,β,-γ*sh⟩) c (λz hz=>by have:=h z hz;unfold af;dsimp only;grind) (r:=(sh*X,sh*Y,W)) hw hr;have e2:f_ ⟨α,β,-γ*sh⟩ (sh*X,sh*Y,W)=sh*(α*X+β*Y+γ*W):=by unfold f_;dsimp only;grind
 rw[e2] at e;apply fP.mp;intro k;have:=aJ h0 k;lia
def AF(c:b_ zs)(h0:0<sh)(dq:α≠0\/β≠0)(h:∀z∈zs,α*z.1+β*z.2+γ*sh<=0){X Y W:Int}(hw:0<W)(hr:im sh zs X Y W):α*X+β*Y+γ*W<0:=by
 have nf:=Qv (L:=⟨α,β,-γ*sh⟩) c dq;have e:=Vy (L:=⟨α,β,-γ*sh⟩) c (λz hz=>by have:=h z hz;unfold af;dsimp only;grind) (bK λk=>nf λz hz=>bK λq=>k ⟨z,hz,q⟩) (r:=(sh*X,sh*Y,W)) hw hr;have e2:f_ ⟨α,β,-γ*sh⟩ (sh*X,sh*Y,W)=sh*(α*X+β*Y+γ*W):=by unfold f_;dsimp only;grind
 rw[e2] at e;apply fG.mp;intro k;have:=bT (aK h0) k;lia
def xE(sh X Y W:Int)(u v:Pt):fe sh X Y W u v=sh*(u.2-v.2)*X+sh*(v.1-u.1)*Y+(u.1*v.2-u.2*v.1)*W:=by unfold fe gO aq;dsimp only;grind
structure qv(l:jh)(sh:Int)(cs:List Pt)(cf:Int)(zs:List Pt):Prop where
 ip:c7 cf zs
 closed:∀X Y W,0<=W->(gu cf zs X Y W↔gu sh cs X Y W/\l.a*X+l.b*Y-l.c*W<=0)
 opened:∀X Y W,0<W->(im cf zs X Y W↔im sh cs X Y W/\l.a*X+l.b*Y-l.c*W<0)
def PM(l:jh)(X Y W:Int):l.a*X+l.b*Y-l.c*W=l.a*X+l.b*Y + -l.c*W:=ε
theorem zR(ip:c7 sh cs)(ab:l.a≠0\/l.b≠0)(r:dz (oO l sh) sh cs d):
  (d = .non/\∀X Y W,0<W->im sh cs X Y W->¬l.a*X+l.b*Y-l.c*W<0)\/∃cf zs,d=pc cf zs/\qv l sh cs cf zs:=by
 have c:=ip.cvx;have h0:=ip.pos;cases r with
 |whole h=>
  refine cX ⟨sh,cs,rfl,ip,λX Y W hw=>⟨λk=>⟨k,?_⟩,λk=>k.1⟩,λX Y W hw=>⟨λk=>⟨k,?_⟩,λk=>k.1⟩⟩
  ·rw[PM];exact pI c h0 (λz hz=>by have:=h z hz;rw[rG] at this;unfold exc at this;grind) hw k
  ·rw[PM];exact AF c h0 ab (λz hz=>by have:=h z hz;rw[rG] at this;unfold exc at this;grind) hw k
 |nothing h n=>
  refine dA ⟨rfl,λX Y W hw k=>?_⟩;have:=AF (α:=-l.a) (β:=-l.b) (γ:=l.c) c h0 ν (λz hz=>by have:=h z hz;rw[rG] at this;unfold exc at this;grind) hw k;grind
 | @part hp hn cf zs h=>
  have f:=h.facts c hp hn h0;refine cX ⟨cf,zs,rfl,f.isPc,λX Y W hw=>⟨λk=>⟨λu v yc=>?_,?_⟩,λk=>λa b dq=>?_⟩,λX Y W hw=>⟨λk=>⟨λu v yc=>?_,?_⟩,λk=>f.inside c hn k.1 ?_⟩⟩
  ·have:=pI (α:=-(sh*(u.2-v.2))) (β:=-(sh*(v.1-u.1))) (γ:=-(u.1*v.2-u.2*v.1)) f.cvx f.pos (λz hz=>by
    have:=f.left c hz yc;rw[show gO (aq u) (aq v) (sh*z.1,sh*z.2,cf)=fe sh z.1 z.2 cf u v from rfl,xE] at this;grind) hw k
   rw[xE];grind
  ·rw[PM];refine pI f.cvx f.pos (λz hz=>?_) hw k;have:=f.value hz;rw[OS] at this;have k2:l.a*z.1+l.b*z.2-l.c*cf<=0:=by
    apply fP.mp;intro q;have:=aJ h0 q;lia
   grind
  ·obtain⟨t1,t2,g,i,A,hk,hm,e⟩:=f.side a b dq;have:=Nu c hn A k.1 (by
    rw[OS];exact eU (aK h0) k.2)
   exact FT hk (by rw[e];exact bT (aK hm) this)
  ·have ne:=c.ne yc;have:=AF (α:=-(sh*(u.2-v.2))) (β:=-(sh*(v.1-u.1))) (γ:=-(u.1*v.2-u.2*v.1)) f.cvx f.pos (by
    by_cases e1:u.2=v.2
    ·refine cX ?_;have:v.1-u.1≠0:=λe=>ne (lV ν e1);exact λz=>AJ (show sh≠0 by lia) this (NX.mp z)
    ·refine dA ?_;have:u.2-v.2≠0:=ν;exact λz=>AJ (show sh≠0 by lia) this (NX.mp z)) (λz hz=>by
    have:=f.left c hz yc;rw[show gO (aq u) (aq v) (sh*z.1,sh*z.2,cf)=fe sh z.1 z.2 cf u v from rfl,xE] at this;grind) hw k
   rw[xE];grind
  ·rw[PM];refine AF f.cvx f.pos ab (λz hz=>?_) hw k;have:=f.value hz;rw[OS] at this;have k2:l.a*z.1+l.b*z.2-l.c*cf<=0:=by
    apply fP.mp;intro q;have:=aJ h0 q;lia
   grind
  ·rw[OS];exact eJ h0 k.2
namespace K37
open K36 K34 K33
theorem Rl(hB:∀w∈cs,BL n w.1/\BL n w.2/\BL e (af L w))(h:Pm L cs t):BL (n+e+1) t.1/\BL (n+e+1) t.2.1/\BL (e+1) t.2.2:=by
 cases h with
 | @corner u hu h=>
  obtain⟨a,b,_⟩:=hB u hu;exact⟨a.mono ν,b.mono ν,(BL.const (n:=1) (i:=1) η).mono ν⟩
 | @cross u v hc h=>
  obtain⟨a,b,c⟩:=hB u hc.mem.1;obtain⟨a',b',c'⟩:=hB v hc.mem.2;have c:=LM c;have c':=LM c';refine⟨((c'.mul a).add (c.mul a')).mono ν,((c'.mul b).add (c.mul b')).mono ν,?_⟩;have e:(jO L u v).2.2=((af L u).natAbs:Int)+((af L v).natAbs:Int):=by unfold jO xN aq;dsimp only;lia
  rw[e];exact(c.add c').mono ν
def Jm(ip:c7 sh cs)(hp:∃z∈cs,0<af L z)(hn:∃z∈cs,af L z<0)(bs:BL a sh)(hB:∀w∈cs,BL n w.1/\BL n w.2/\BL e (af L w))(he:e<=2000):
  ∃cf zs,ji L sh cs cf zs/\BL (a+2*e+3) cf/\∀z∈zs,BL (n+3*e+4) z.1/\BL (n+3*e+4) z.2:=by
 have cv:=ip.cvx;obtain⟨P',rot,cut,_⟩:=CM cv hp hn;have iI:gx (KN L cs) P':=rot;have lP':=XF cv hp cut;generalize x6:KN L cs=SP at *;have lSP:SP.length=P'.length:=by obtain⟨X,Y,e1,e2⟩:=iI;rw[e1,e2];simp;lia
 have sr:∀t∈SP,Pm L cs t:=λt ht=>cut.pm t ((iI.mem t).mp ht);have ma:0<iC SP:=MQ SP λt ht=>(sr t ht).w_pos;have r6:∀t∈SP,db (iC SP) t:=λt ht=>db.of ma (sr t ht).w_pos (MP SP t ht);have ub:BL (2*e+3) (iC SP):=by
  rw[vC];have l2:(SP.filter λt=>decide (t.2.2≠1)).length<=2:=by
   have:=MV cv hp cut;obtain⟨X,Y,e1,e2⟩:=iI;rw[e2] at this;rw[e1];rw[lS,bR] at this⊢;lia
  refine(IZ _ λt ht=>(Rl hB (sr t (jE.mp ht).1)).2.2).mono ?_;have:=FE (e+1) l2;lia
 have wu:∀t∈P',db (iC SP) t:=λt ht=>r6 t ((iI.mem t).mpr ht);have cvP:=Ps cv hp hn cut ma wu;have yx:b_ (SP.map (gF (iC SP))):=b_.rot ((iI.map (gF (iC SP))).symm) cvP;obtain⟨z,T,rt,least⟩:=wV (SP.map (gF (iC SP))) (by intro e;have:=yx.len;rw[e] at this;simp at this);have cz:=b_.rot rt yx;obtain⟨m,cf,zs,N⟩:=Jj (aJ ip.pos ma) (z::T);have mp:=N.mpos;have le:∀x:Int,x.natAbs<=(m*x).natAbs:=λx=>by
  rw[iZ];exact rX _ ν
 have lz:zs.length=SP.length:=by
  have l1:=Φ eW N.cs_eq;obtain⟨X,Y,e1,e2⟩:=rt;have l2:=Φ eW e1;have l3:=Φ eW e2;simp at l1 l2 l3;lia
 refine⟨cf,zs,⟨iC SP,m,z,T,ma,by rw[x6];exact r6,by rw[x6];exact rt,least,cz,N,ub.mono ν,ν⟩,?_,λw hw=>?_⟩
 ·refine BL.le ?_ (le cf);rw[<-N.sh_eq];exact(bs.mul ub).mono ν
 ·have mw:((m*w.1,m*w.2):Pt)∈SP.map (gF (iC SP)):=(rt.mem _).mpr (by rw[N.cs_eq];exact bG.mpr ⟨w,hw,rfl⟩);obtain⟨t,ht,et⟩:=bG.mp mw;obtain⟨t1,t2,_⟩:=Rl hB (sr t ht);have bq:BL (2*e+3) (iC SP / t.2.2):=by
   have:BL (2*e+3) ((iC SP).fdiv t.2.2):=ub.fdiv
   rwa [cS _ (by have:=(sr t ht).w_pos;lia)] at this
  have g1:m*w.1=t.1*(iC SP / t.2.2):=(Φ Ad et).symm;have g2:m*w.2=t.2.1*(iC SP / t.2.2):=(Φ Prod.snd et).symm;exact⟨BL.le (by rw[g1];exact(t1.mul bq).mono ν) (le w.1),BL.le (by rw[g2];exact(t2.mul bq).mono ν) (le w.2)⟩
def xU(h:pc s1 z1=pc s2 z2):s1=s2/\z1=z2:=by
 simp only[pc,D.tup.injEq,gW,D.int.injEq,and_true] at h;refine⟨h.1,(List.map_inj_right λa b e=>?_).mp h.2⟩;simp only[pt,D.tup.injEq,gW,D.int.injEq,and_true] at e;exact lV e.1 e.2
def MM(ip:c7 sh zs)(hq:q∈zs):gu sh zs q.1 q.2 sh:=λa b c=>by
 have e:fe sh q.1 q.2 sh a b=sh*bZ a b q:=by unfold fe gO aq bZ;dsimp only;grind
 rw[e];exact bT (aK ip.pos) (ip.cvx.side c hq)
def HS(p1:c7 s1 z1)(p2:c7 s2 z2)(h:∀X Y W,0<=W->(gu s1 z1 X Y W↔gu s2 z2 X Y W)):s1=s2/\z1=z2:=
 Mf p1 p2 (λq hq=>(h _ _ _ (aK p2.pos)).mpr (MM p2 hq)) λq hq=>(h _ _ _ (aK p1.pos)).mp (MM p1 hq)
def Bo(ip:c7 sh zs):∃X Y W,0<W/\im sh zs X Y W:=by
 have c:=ip.cvx;have l3:=c.len;have nd:=c.nodup;rcases zs with _ | ⟨p,_ | ⟨q,_ | ⟨r,t⟩⟩⟩
 ·simp at l3
 ·simp at l3
 ·simp at l3
 ·have h0:=ip.pos;refine⟨p.1+q.1+r.1,p.2+q.2+r.2,3*sh,ν,λa b cc=>?_⟩;have e:fe sh (p.1+q.1+r.1) (p.2+q.2+r.2) (3*sh) a b=sh*(bZ a b p+bZ a b q+bZ a b r):=by unfold fe gO aq bZ;dsimp only;grind
  rw[e];refine aJ h0 ?_;have k1:=c.side cc (q:=p) δ;have k2:=c.side cc (q:=q) δ;have k3:=c.side cc (q:=r) δ;have st:=c.strict a b cc;simp only[fS,aO,not_or] at nd;obtain⟨⟨pq,pr,_⟩,⟨qr,_⟩,_⟩:=nd;by_cases m5:p=a
  ·by_cases A1:q=b
   ·have:=st r δ (λk=>pr (m5.trans k.symm)) (λk=>qr (A1.trans k.symm));lia
   ·have:=st q δ (λk=>pq (m5.trans k.symm)) A1;lia
  ·by_cases z7:p=b
   ·by_cases A1:q=a
    ·have:=st r δ (λk=>qr (A1.trans k.symm)) (λk=>pr (z7.trans k.symm));lia
    ·have:=st q δ A1 (λk=>pq (z7.trans k.symm));lia
   ·have:=st p δ m5 z7;lia
def Oh(ip:c7 sh cs)(ab:l.a≠0\/l.b≠0)(bs:BL a sh)(hB:∀w∈cs,BL n w.1/\BL n w.2/\BL e (exc l w sh))(he:e<=2000)(r:dz (oO l sh) sh cs d)(ed:d=pc cf zs):
  BL (a+2*e+3) cf/\∀z∈zs,BL (n+3*e+4) z.1/\BL (n+3*e+4) z.2:=by
 have cr:=zR ip ab r;rcases cr with⟨rfl,_⟩ | ⟨s1,z1,rfl,C1⟩
 ·cases ed
 obtain⟨rfl,rfl⟩:=xU ed;by_cases hp:∃z∈cs,0<af (oO l sh) z
 ·by_cases hn:∃z∈cs,af (oO l sh) z<0
  ·obtain⟨s2,z2,p2,b1,b2⟩:=Jm (L:=oO l sh) ip hp hn bs hB he;rcases zR ip ab (dz.part hp hn p2) with⟨z,_⟩ | ⟨s3,z3,e3,C3⟩
   ·cases z
   obtain⟨rfl,rfl⟩:=xU e3;obtain⟨rfl,rfl⟩:=HS C1.ip C3.ip λX Y W hw=>(C1.closed X Y W hw).trans (C3.closed X Y W hw).symm;exact⟨b1,b2⟩
  ·exfalso;obtain⟨X,Y,W,w0,io⟩:=Bo C1.ip;obtain⟨i0,v0⟩:=(C1.opened X Y W w0).mp io;have ge:∀z∈cs,0<=af (oO l sh) z:=λz hz=>fP.mp λk=>hn ⟨z,hz,k⟩;have:=AF (α:=-l.a) (β:=-l.b) (γ:=l.c) ip.cvx ip.pos ν (λz hz=>by have:=ge z hz;rw[rG] at this;unfold exc at this;grind) w0 i0;grind
 ·have le:∀z∈cs,af (oO l sh) z<=0:=λz hz=>fP.mp λk=>hp ⟨z,hz,k⟩;rcases zR ip ab (dz.whole (sh:=sh) le) with⟨z,_⟩ | ⟨s3,z3,e3,C3⟩
  ·cases z
  obtain⟨rfl,rfl⟩:=xU e3;obtain⟨rfl,rfl⟩:=HS C1.ip C3.ip λX Y W hw=>(C1.closed X Y W hw).trans (C3.closed X Y W hw).symm;exact⟨bs.mono ν,λz hz=>⟨(hB z hz).1.mono ν,(hB z hz).2.1.mono ν⟩⟩
def lr(sh:Int)(c:Int):Rat:=(c:Rat) / ((sh:Rat)*(sh:Rat))
def jZ{s:Int}(h:0<s):(s:Rat)≠0:=by
 intro k;have:(s:Rat)=((0:Int):Rat):=by rw[k];rfl
 have:=AL.mp this;lia
def Tj{c1 c2 c s1 s2 s:Int}(h1:0<s1)(h2:0<s2)(h:0<s)(e:(c1*(s2*s2)+c2*(s1*s1))*(s*s)=c*(s1*s1)*(s2*s2)):lr s1 c1+lr s2 c2=lr s c:=by
 have n1:=jZ h1;have n2:=jZ h2;have n:=jZ h;have e':=Φ (λx:Int=>(x:Rat)) e;simp only[gY,oN] at e';unfold lr;grind
abbrev gg(h:Pt)(L:Int):jh:=⟨0,h.2,L*h.1⟩
abbrev h8(l:jh):jh:=⟨-l.a,-l.b,-l.c⟩
structure Hh(h:Pt):Prop where
 h1:0<h.1
 h2:0<h.2
 b1:BL 10 h.1
 b2:BL 10 h.2
structure Pz(h:Pt)(sh:Int)(cs:List Pt):Prop where
 ip:c7 sh cs
 bs:BL 40 sh
 bz:∀z∈cs,BL 70 z.1/\BL 70 z.2
 len:cs.length<=10
 rows:∀z∈cs,-26*h.1*sh<=h.2*z.2/\h.2*z.2<=27*h.1*sh
structure nh(h:Pt)(ap:Int)(c8:List Pt)(L sh:Int)(zs:List Pt):Prop where
 ip:c7 sh zs
 closed:∀X Y W,0<=W->(gu sh zs X Y W↔gu ap c8 X Y W/\L*h.1*W<=h.2*Y)
 opened:∀X Y W,0<W->(im sh zs X Y W↔im ap c8 X Y W/\L*h.1*W<h.2*Y)
structure we(h:Pt)(ap:Int)(c8:List Pt)(L sh:Int)(zs:List Pt):Prop where
 ip:c7 sh zs
 len:zs.length<=14
 bs:BL 1300 sh
 bz:∀z∈zs,BL 1800 z.1/\BL 1800 z.2
 closed:∀X Y W,0<=W->(gu sh zs X Y W↔gu ap c8 X Y W/\L*h.1*W<=h.2*Y/\h.2*Y<=(L+1)*h.1*W)
 opened:∀X Y W,0<W->(im sh zs X Y W↔im ap c8 X Y W/\L*h.1*W<h.2*Y/\h.2*Y<(L+1)*h.1*W)
def Cp(h:ji L sh cs cf zs):zs.length<=cs.length+2:=by
 obtain⟨_,_,_,_,_,_,_,_,_,_,_,e⟩:=h.ex;exact e
theorem Tp(r:dz (oO l sh) sh cs d)(ed:d=pc cf zs):zs.length<=cs.length+2:=by
 cases r with
 |whole _=>obtain⟨_,rfl⟩:=xU ed;lia
 |nothing _ _=>cases ed
 |part _ _ k=>obtain⟨_,rfl⟩:=xU ed;exact Cp k
def yv(h0:-30<=L)(h1:L<=30):BL 6 L:=BL.of_lt (m:=6) ν ν
def EU(h:Pt)(L X Y W:Int):(h8 (gg h L)).a*X+(h8 (gg h L)).b*Y-(h8 (gg h L)).c*W=L*h.1*W-h.2*Y:=by unfold h8 gg;dsimp only;grind
def Jh(h:Pt)(L X Y W:Int):(gg h L).a*X+(gg h L).b*Y-(gg h L).c*W=h.2*Y-L*h.1*W:=by unfold gg;dsimp only;grind
def wT(h:Pt)(L sh:Int)(z:Pt):exc (gg h L) z sh=h.2*z.2-L*h.1*sh:=by unfold exc gg;dsimp only;grind
def zY(h:Pt)(L sh:Int)(z:Pt):exc (h8 (gg h L)) z sh=L*h.1*sh-h.2*z.2:=by unfold exc h8 gg;dsimp only;grind
def nh.size(H:Hh h)(P:Pz h ap c8)(R:nh h ap c8 L sh zs)(l0:-30<=L)(l1:L<=30):BL 300 sh/\(∀z∈zs,BL 400 z.1/\BL 400 z.2)/\zs.length<=12:=by
 have ab:(h8 (gg h L)).a≠0\/(h8 (gg h L)).b≠0:=.inr (by have:=H.h2;show -h.2≠0;lia);have hB:∀w∈c8,BL 70 w.1/\BL 70 w.2/\BL 85 (exc (h8 (gg h L)) w ap):=λw hw=>by
  obtain⟨b1,b2⟩:=P.bz w hw;refine⟨b1,b2,?_⟩;rw[zY];exact((((yv l0 l1).mul H.b1).mul P.bs).sub (H.b2.mul b2)).mono
 have key:∀{s1:Int}{z1:ω Pt},qv (h8 (gg h L)) ap c8 s1 z1->BL 213 s1/\(∀z∈z1,BL 329 z.1/\BL 329 z.2)/\z1.length<=12->BL 300 sh/\(∀z∈zs,BL 400 z.1/\BL 400 z.2)/\zs.length<=12:=λC b=>by
  obtain⟨rfl,rfl⟩:=HS R.ip C.ip λX Y W hw=>(R.closed X Y W hw).trans (by
   rw[C.closed X Y W hw];exact⟨λ⟨a,b⟩=>⟨a,by rw[EU];lia⟩,λ⟨a,b⟩=>⟨a,by rw[EU] at b;lia⟩⟩)
  exact⟨b.1.mono,λz hz=>⟨(b.2.1 z hz).1.mono,(b.2.1 z hz).2.mono⟩,b.2.2⟩
 by_cases hp:∃z∈c8,0<af (oO (h8 (gg h L)) ap) z
 ·by_cases hn:∃z∈c8,af (oO (h8 (gg h L)) ap) z<0
  ·obtain⟨s2,z2,p2,b1,b2⟩:=Jm (L:=oO (h8 (gg h L)) ap) P.ip hp hn P.bs hB η;rcases zR P.ip ab (dz.part hp hn p2) with⟨z,_⟩ | ⟨s3,z3,e3,C3⟩
   ·cases z
   obtain⟨rfl,rfl⟩:=xU e3;exact key C3 ⟨b1,b2,by have:=Cp p2;have:=P.len;lia⟩
  ·exfalso;obtain⟨X,Y,W,w0,io⟩:=Bo R.ip;obtain⟨i0,v0⟩:=(R.opened X Y W w0).mp io;have:=AF (α:=0) (β:=h.2) (γ:=-(L*h.1)) P.ip.cvx P.ip.pos (.inr (by have:=H.h2;lia)) (λz hz=>by
    have k:0<=af (oO (h8 (gg h L)) ap) z:=fP.mp λk=>hn ⟨z,hz,k⟩;rw[rG,zY] at k;have e:0*z.1+h.2*z.2 + -(L*h.1)*ap=h.2*z.2-L*h.1*ap:=ε;rw[e];lia) w0 i0
   have e:0*X+h.2*Y + -(L*h.1)*W=h.2*Y-L*h.1*W:=ε;rw[e] at this;lia
 ·have le:∀z∈c8,af (oO (h8 (gg h L)) ap) z<=0:=λz hz=>fP.mp λk=>hp ⟨z,hz,k⟩;rcases zR P.ip ab (dz.whole (sh:=ap) le) with⟨z,_⟩ | ⟨s3,z3,e3,C3⟩
  ·cases z
  obtain⟨rfl,rfl⟩:=xU e3;exact key C3 ⟨P.bs.mono,λz hz=>⟨(P.bz z hz).1.mono,(P.bz z hz).2.mono⟩,by have:=P.len;lia⟩
def OW(ip:c7 sh zs)(hz:z∈zs)(hw:w∈zs)(ha:0<=α)(hb:0<=β):gu sh zs (α*z.1+β*w.1) (α*z.2+β*w.2) ((α+β)*sh):=λa b c=>by
 have e:fe sh (α*z.1+β*w.1) (α*z.2+β*w.2) ((α+β)*sh) a b=sh*(α*bZ a b z+β*bZ a b w):=by unfold fe gO aq bZ;dsimp only;grind
 rw[e];exact bT (aK ip.pos) (vM (bT ha (ip.cvx.side c hz)) (bT hb (ip.cvx.side c hw)))
def nh.cut(H:Hh h)(P:Pz h ap c8)(R:nh h ap c8 L sh zs)(l0:-30<=L)(l1:L<=28)(low:∃z∈zs,h.2*z.2<(L+1)*h.1*sh)
  (r1:dz (oO (gg h (L+1)) sh) sh zs d1) (r2:dz (oO (h8 (gg h (L+1))) sh) sh zs d2):
  ∃s1 z1,d1=pc s1 z1/\we h ap c8 L s1 z1/\((d2 = .non/\(∀z∈zs,h.2*z.2<=(L+1)*h.1*sh)/\lr s1 (hV c6 z1)=lr sh (hV c6 zs)) \/
   ∃s2 z2,d2=pc s2 z2/\nh h ap c8 (L+1) s2 z2/\(∃z∈z2,h.2*z.2<(L+2)*h.1*s2)/\(∃z∈zs,(L+1)*h.1*sh<h.2*z.2)/\lr s1 (hV c6 z1)+lr s2 (hV c6 z2)=lr sh (hV c6 zs)):=by
 have ip:=R.ip;have h0:=ip.pos;have ab:(gg h (L+1)).a≠0\/(gg h (L+1)).b≠0:=.inr (by have:=H.h2;show h.2≠0;lia);have ab':(h8 (gg h (L+1))).a≠0\/(h8 (gg h (L+1))).b≠0:=.inr (by have:=H.h2;show -h.2≠0;lia);obtain⟨bs,bz,lz⟩:=R.size H P l0 ν;have hB:∀w∈zs,BL 400 w.1/\BL 400 w.2/\BL 415 (exc (gg h (L+1)) w sh):=λw hw=>by
  obtain⟨b1,b2⟩:=bz w hw;refine⟨b1,b2,?_⟩;rw[wT];exact((H.b2.mul b2).sub (((yv (L:=L+1) ν ν).mul H.b1).mul bs)).mono
 obtain⟨zl,xk,vl⟩:=low;rcases zR ip ab r1 with⟨rfl,k⟩ | ⟨s1,z1,rfl,C1⟩
 ·exfalso;cases r1 with
  |nothing kk _=>have:=kk zl xk;rw[rG,wT] at this;lia
 obtain⟨sb,zb⟩:=Oh ip ab bs hB η r1 rfl;have RM:we h ap c8 L s1 z1:=by
  refine⟨C1.ip,by have:=Tp r1 rfl;lia,sb.mono,λz hz=>⟨(zb z hz).1.mono,(zb z hz).2.mono⟩,λX Y W hw=>?_,λX Y W hw=>?_⟩
  ·rw[C1.closed X Y W hw,R.closed X Y W hw,Jh];constructor
   ·rintro⟨⟨a,b⟩,c⟩;exact⟨a,b,ν⟩
   ·rintro⟨a,b,c⟩;exact⟨⟨a,b⟩,ν⟩
  ·rw[C1.opened X Y W hw,R.opened X Y W hw,Jh];constructor
   ·rintro⟨⟨a,b⟩,c⟩;exact⟨a,b,ν⟩
   ·rintro⟨a,b,c⟩;exact⟨⟨a,b⟩,ν⟩
 refine⟨s1,z1,rfl,RM,?_⟩;rcases zR ip ab' r2 with⟨rfl,k⟩ | ⟨s2,z2,rfl,C2⟩
 ·refine .inl ⟨rfl,?_⟩;have all:∀z∈zs,h.2*z.2<=(L+1)*h.1*sh:=by
   cases r2 with
   |nothing kk _=>intro z hz;have:=kk z hz;rw[rG,zY] at this;lia
  refine⟨all,?_⟩;have e:pc s1 z1=pc sh zs:=by
   generalize hd:pc s1 z1=d at r1⊢;cases r1 with
   |whole _=>rfl
   |nothing _ n=>exact Ψ (λz hz=>by rw[rG,wT];have:=all z hz;lia) n
   |part hp _ _=>
    obtain⟨z,hz,kz⟩:=hp;rw[rG,wT] at kz;have:=all z hz;lia
  obtain⟨rfl,rfl⟩:=xU e;rfl
 ·have up:∃z∈zs,(L+1)*h.1*sh<h.2*z.2:=by
   apply bK;intro n;obtain⟨X,Y,W,w0,io⟩:=Bo C2.ip;obtain⟨i0,v0⟩:=(C2.opened X Y W w0).mp io;rw[EU] at v0;have:=pI (α:=0) (β:=h.2) (γ:=-((L+1)*h.1)) ip.cvx h0 (λz hz=>by
    have k:¬(L+1)*h.1*sh<h.2*z.2:=λk=>n ⟨z,hz,k⟩;have e:0*z.1+h.2*z.2 + -((L+1)*h.1)*sh=h.2*z.2-(L+1)*h.1*sh:=ε;rw[e];lia) (aK w0) (λa b c=>aK (i0 a b c))
   have e:0*X+h.2*Y + -((L+1)*h.1)*W=h.2*Y-(L+1)*h.1*W:=ε;rw[e] at this;lia
  obtain⟨zu,xl,vu⟩:=up;have hp:∃z∈zs,0<af (oO (gg h (L+1)) sh) z:=⟨zu,xl,by rw[rG,wT];lia⟩;have hn:∃z∈zs,af (oO (gg h (L+1)) sh) z<0:=⟨zl,xk,by rw[rG,wT];lia⟩;have RU:nh h ap c8 (L+1) s2 z2:=by
   refine⟨C2.ip,λX Y W hw=>?_,λX Y W hw=>?_⟩
   ·rw[C2.closed X Y W hw,R.closed X Y W hw,EU];constructor
    ·rintro⟨⟨a,b⟩,c⟩;exact⟨a,ν⟩
    ·rintro⟨a,b⟩;refine⟨⟨a,?_⟩,ν⟩;have:=bT (aK H.h1) hw;have e:(L+1)*h.1*W=L*h.1*W+h.1*W:=ε;lia
   ·rw[C2.opened X Y W hw,R.opened X Y W hw,EU];constructor
    ·rintro⟨⟨a,b⟩,c⟩;exact⟨a,ν⟩
    ·rintro⟨a,b⟩;refine⟨⟨a,?_⟩,ν⟩;have:=bT (aK H.h1) (aK hw);have e:(L+1)*h.1*W=L*h.1*W+h.1*W:=ε;lia
  refine .inr ⟨s2,z2,rfl,RU,?_,⟨zu,xl,vu⟩,?_⟩
  ·apply bK;intro n;have α0:0<=h.2*zu.2-(L+1)*h.1*sh:=ν;have β0:0<=(L+1)*h.1*sh-h.2*zl.2:=ν;have bt:=OW ip xk xl α0 β0;have w0:0<((h.2*zu.2-(L+1)*h.1*sh)+((L+1)*h.1*sh-h.2*zl.2))*sh:=aJ ν h0;have mid:h.2*((h.2*zu.2-(L+1)*h.1*sh)*zl.2+((L+1)*h.1*sh-h.2*zl.2)*zu.2)=(L+1)*h.1*(((h.2*zu.2-(L+1)*h.1*sh)+((L+1)*h.1*sh-h.2*zl.2))*sh):=ε;have i2:=(C2.closed _ _ _ (aK w0)).mpr ⟨bt,by rw[EU,mid];lia⟩;have:=pI (α:=0) (β:=-h.2) (γ:=(L+2)*h.1) C2.ip.cvx C2.ip.pos (λz hz=>by
    have k:¬h.2*z.2<(L+2)*h.1*s2:=λk=>n ⟨z,hz,k⟩;have e:0*z.1 + -h.2*z.2+(L+2)*h.1*s2=(L+2)*h.1*s2-h.2*z.2:=ε;rw[e];lia) (aK w0) i2
   generalize hW:((h.2*zu.2-(L+1)*h.1*sh)+((L+1)*h.1*sh-h.2*zl.2))*sh=W at *;generalize hY:(h.2*zu.2-(L+1)*h.1*sh)*zl.2+((L+1)*h.1*sh-h.2*zl.2)*zu.2=Y at *;have e:0*((h.2*zu.2-(L+1)*h.1*sh)*zl.1+((L+1)*h.1*sh-h.2*zl.2)*zu.1) + -h.2*Y+(L+2)*h.1*W=(L+2)*h.1*W-h.2*Y:=ε;rw[e,mid] at this;have:=aJ H.h1 w0;have e2:(L+2)*h.1*W=(L+1)*h.1*W+h.1*W:=ε;lia
  ·have pd1:ji (oO (gg h (L+1)) sh) sh zs s1 z1:=by
    generalize hd:pc s1 z1=d at r1;cases r1 with
    |whole k=>have:=k zu xl;rw[rG,wT] at this;lia
    |nothing k _=>cases hd
    |part _ _ k=>obtain⟨rfl,rfl⟩:=xU hd;exact k
   have pd2:ji (oO (h8 (gg h (L+1))) sh) sh zs s2 z2:=by
    generalize hd:pc s2 z2=d at r2;cases r2 with
    |whole k=>have:=k zl xk;rw[rG,zY] at this;lia
    |nothing k _=>cases hd
    |part _ _ k=>obtain⟨rfl,rfl⟩:=xU hd;exact k
   have f1:=pd1.facts ip.cvx hp hn h0;have eo:oO (h8 (gg h (L+1))) sh=og (oO (gg h (L+1)) sh):=by
    unfold og oO h8 gg;dsimp only;rw[MZ]
   have f2:=pd2.facts ip.cvx ⟨zl,xk,by rw[rG,zY];lia⟩ ⟨zu,xl,by rw[rG,zY];lia⟩ h0;rw[eo] at f2;exact Tj f1.pos f2.pos h0 (Gs ip.cvx hp hn h0 f1 f2)
structure ng(dn:Pt)(ap:Int)(cs:List Pt)(sh:Int)(zs:List Pt):Prop where
 ip:c7 sh zs
 closed:∀X Y W,gu sh zs X Y W↔gu ap cs (X*dn.2) (Y*dn.2-dn.1*W) (W*dn.2)
 opened:∀X Y W,im sh zs X Y W↔im ap cs (X*dn.2) (Y*dn.2-dn.1*W) (W*dn.2)
 area:lr sh (hV c6 zs)=lr ap (hV c6 cs)
 len:zs.length=cs.length
 size:∀{a n d:Nat},BL a ap->(∀z∈cs,BL n z.1/\BL n z.2)->BL d dn.1->BL d dn.2->BL (a+d) sh/\∀z∈zs,BL (a+n+2*d+1) z.1/\BL (a+n+2*d+1) z.2
def Iq{f g:Pt->Pt}(e:A.map f=B.map g)(c:az A a b):∃p q,az B p q/\f a=g p/\f b=g q:=by
 have k:=JC (f:=f) c;rw[e] at k;obtain⟨p,q,k,e1,e2⟩:=JB k;exact⟨p,q,k,e1.symm,e2.symm⟩
def C8(ip0:c7 ap cs)(hd:0<dn.2)(P:ri ap cs 1 0 1 dn.1 dn.2 sh zs):ng dn ap cs sh zs:=by
 obtain⟨f,s,r,w,m,z,T,⟨pk,rfl,le⟩,⟨er,ew⟩,rot,least,cz,N⟩:=P;have h0:=ip0.pos;have mp:=N.mpos;have r0:r=0:=by rw[rT] at er;lia
 subst r0;have shp:0<sh:=by
  have e:=N.sh_eq;have:=aJ pk h0;rw[e] at this;exact oH mp this
 obtain⟨A',rA,eA⟩:∃A',gx cs A'/\(z::T)=A'.map (L2.R2.mv (1*f) 0 w):=gx.mapOf rot;have ez:zs.map (scl m)=A'.map (L2.R2.mv (1*f) 0 w):=by rw[<-eA];exact N.cs_eq.symm
 have side:∀{a b p q:Pt},scl m a=L2.R2.mv (1*f) 0 w p->scl m b=L2.R2.mv (1*f) 0 w q->∀X Y W,m*m*dn.2*fe sh X Y W a b=f*f*fe ap (X*dn.2) (Y*dn.2-dn.1*W) (W*dn.2) p q:=λ{a b p q} e1 e2 X Y W=>by
  have es:=N.sh_eq;unfold scl L2.R2.mv at e1 e2;simp only[fK] at e1 e2;obtain⟨a1,a2⟩:=e1;obtain⟨b1,b2⟩:=e2;rw[<-ZU,<-ZU];have l:m*m*dn.2*((b.1-a.1)*(Y*sh-a.2*W)-(b.2-a.2)*(X*sh-a.1*W))=dn.2*((m*b.1-m*a.1)*(Y*(m*sh)-m*a.2*W)-(m*b.2-m*a.2)*(X*(m*sh)-m*a.1*W)):=ε
  rw[l,a1,a2,b1,b2,<-es];have l2:dn.2*((1*f*q.1+0-(1*f*p.1+0))*(Y*(f*ap)-(1*f*p.2+w)*W)-(1*f*q.2+w-(1*f*p.2+w))*(X*(f*ap)-(1*f*p.1+0)*W))=f*((q.1-p.1)*(Y*dn.2*(f*ap)-(f*p.2*dn.2+w*dn.2)*W)-(q.2-p.2)*(X*dn.2*(f*ap)-f*p.1*dn.2*W)):=ε
  rw[l2,ew];grind
 have c1:0<m*m*dn.2:=aJ (aJ mp mp) hd;have c2:0<f*f:=aJ pk pk;have fw:∀{a b:Pt},az zs a b->∃p q,az cs p q/\∀X Y W,m*m*dn.2*fe sh X Y W a b=f*f*fe ap (X*dn.2) (Y*dn.2-dn.1*W) (W*dn.2) p q:=λc=>by
  obtain⟨p,q,k,e1,e2⟩:=Iq ez c;exact⟨p,q,EL rA k,side e1 e2⟩
 have bw:∀{p q:Pt},az cs p q->∃a b,az zs a b/\∀X Y W,m*m*dn.2*fe sh X Y W a b=f*f*fe ap (X*dn.2) (Y*dn.2-dn.1*W) (W*dn.2) p q:=λc=>by
  obtain⟨a,b,k,e1,e2⟩:=Iq ez.symm (EL rA.symm c);exact⟨a,b,k,side e1.symm e2.symm⟩
 have len:zs.length=cs.length:=by
  have l1:=Φ eW ez;obtain⟨X,Y,e1,e2⟩:=rA;rw[e2] at l1;rw[e1];simp at l1⊢;lia
 have ec:(z::T)=zs.map (scl m):=N.cs_eq;refine⟨⟨shp,b_.unscl mp (by rw[<-ec];exact cz),?_,N.cop⟩,λX Y W=>⟨λh p q c=>?_,λh a b c=>?_⟩,λX Y W=>⟨λh p q c=>?_,λh a b c=>?_⟩,?_,len,λ{a n d} ba bn b1 b2=>?_⟩
 ·cases zs with
  |nil=>simp at ec
  |cons z' T2=>
   simp only[aR,gW] at ec;refine⟨z',T2,rfl,λq hq e_=>?_⟩;refine least (scl m q) (by rw[ec.2];exact cT hq) ?_;rw[ec.1];exact(EF mp).mpr e_
 ·obtain⟨a,b,k,e⟩:=bw c;have:=(kO c1 c2 (e X Y W)).2;have:=h a b k;lia
 ·obtain⟨p,q,k,e⟩:=fw c;have:=(kO c1 c2 (e X Y W)).2;have:=h p q k;lia
 ·obtain⟨a,b,k,e⟩:=bw c;exact(kO c1 c2 (e X Y W)).1.mp (h a b k)
 ·obtain⟨p,q,k,e⟩:=fw c;exact(kO c1 c2 (e X Y W)).1.mpr (h p q k)
 ·have e1:=vX m zs;rw[ez] at e1;have l3:0<cs.length:=by have:=ip0.cvx.len;lia
  have e2:hV c6 (A'.map (L2.R2.mv (1*f) 0 w))=f*f*hV c6 A':=by
   have:=zU (L2.R2.mv (1*f) 0 w (0,0)) (A'.map (L2.R2.mv (1*f) 0 w));rw[<-this,CN];have t:(λx y=>bZ (L2.R2.mv (1*f) 0 w (0,0)) (L2.R2.mv (1*f) 0 w x) (L2.R2.mv (1*f) 0 w y))=λx y=>f*f*bZ (0,0) x y:=by
    funext x y;rw[Ji];grind
   rw[t,QX,zU]
  have e3:m*m*hV c6 zs=f*f*hV c6 cs:=by rw[<-e1,e2,<-zT rA]
  have es:=N.sh_eq;have n1:=jZ shp;have n2:=jZ h0;have n3:=jZ mp;have n4:=jZ pk;have e3':=Φ (λx:Int=>(x:Rat)) e3;have rq:=Φ (λx:Int=>(x:Rat)) es;simp only[gY] at e3' rq;unfold lr;grind
 ·have le':∀x:Int,x.natAbs<=(m*x).natAbs:=λx=>by
   rw[iZ];exact rX _ ν
  have bκ:BL d f:=by
   refine b2.le ?_;have:f<=dn.2:=by
    apply fP.mp;intro k;have:=lR k h0;have e1:ap*1*dn.2=ap*dn.2:=ε;have e2:f*ap=ap*f:=ε;lia
   lia
  have bs:BL (a+d) (f*ap):=(bκ.mul ba).mono ν;have bw':BL (a+2*d) w:=by
   have:BL (a+2*d) (w*dn.2):=(by rw[ew];exact(b1.mul bs).mono ν);refine this.le ?_;rw[iZ];exact kP _ ν
  refine⟨BL.le (by rw[<-N.sh_eq];exact bs) (le' sh),λx hx=>?_⟩;have mx:scl m x∈A'.map (L2.R2.mv (1*f) 0 w):=by rw[<-ez];exact cT hx
  obtain⟨p,hp,ep⟩:=bG.mp mx;obtain⟨p1,p2⟩:=bn p ((rA.mem p).mpr hp);unfold scl L2.R2.mv at ep;simp only[fK] at ep;have bk1:BL d (1*f):=by rw[Int.one_mul];exact bκ
  exact⟨BL.le (by rw[<-ep.1,uU];exact(bk1.mul p1).mono ν) (le' x.1),BL.le (by rw[<-ep.2];exact((bk1.mul p2).add bw').mono ν) (le' x.2)⟩
def XQ:FD:=λds Q=>∃(sh:Int)(zs:ω Pt)(h:Pt)(L:Int),ds=[pc sh zs,ln (gg h L)]/\(Hh h/\-30<=L/\L<=30)/\(c7 sh zs/\zs.length<=12/\BL 300 sh/\∀z∈zs,BL 400 z.1/\BL 400 z.2) /\
 ∀d1 d2,dz (oO (gg h L) sh) sh zs d1->dz (oO (h8 (gg h L)) sh) sh zs d2->Q (.tup [d1,d2])
def Mm:τ XQ (Sb Fc) ["piece","line","opposite"]:=by
 rintro ds Q ⟨sh,zs,h,L,rfl,⟨H,l0,l1⟩,⟨ip,lz,bs,bz⟩,q⟩;have bc:BL 20 (L*h.1):=((yv l0 l1).mul H.b1).mono;have bl:(gg h L).BLn 10000:=⟨((BL.const (n:=1) (i:=0) η).mono:BL 10000 0),H.b2.mono,bc.mono⟩;have bo:(h8 (gg h L)).BLn 10000:=⟨bl.1.neg,bl.2.1.neg,bl.2.2.neg⟩;have bE:∀w∈zs,BL 2000 (exc (gg h L) w sh):=λw hw=>by
  rw[wT];exact((H.b2.mul (bz w hw).2).sub (bc.mul bs)).mono
 have bE':∀w∈zs,BL 2000 (exc (h8 (gg h L)) w sh):=λw hw=>by
  rw[zY];exact((bc.mul bs).sub (H.b2.mul (bz w hw).2)).mono
 rw[cK 1 rfl];unfold Sb;simp only[gQ,VF,aR,bO,aW,bF];generalize hl:gg h L=l at *;refine eO [ae (pc sh zs),ae (ln l),ae (ln (h8 l))] (λK hK=>?_) ?_
 ·nofun;exact hK
 generalize hP':pc sh zs=PD;generalize hL:ln l=LD;generalize hO:ln (h8 l)=OD;nofun;refine⟨l,sh,zs,by rw[hP',hL],⟨ip.pos,bs.mono,bl⟩,λw hw=>⟨(bz w hw).1.mono,(bz w hw).2.mono,bE w hw⟩,⟨ip.cvx,ν⟩,λd1 r1=>?_⟩;exact⟨h8 l,sh,zs,by rw[hP',hO],⟨ip.pos,bs.mono,bo⟩,λw hw=>⟨(bz w hw).1.mono,(bz w hw).2.mono,bE' w hw⟩,⟨ip.cvx,ν⟩,λd2 r2=>q d1 d2 r1 r2⟩
def Ey:FD:=λds Q=>∃(dn:Pt)(sh:Int)(cs:ω Pt)(m:Mv),ds=[.tup [pc sh cs,ju m],.tup [.int 1,.tup [.int 0,.int 1],pt dn]]/\(0<dn.2/\BL 30 dn.1/\BL 30 dn.2)/\(c7 sh cs/\BL 1500 sh/\(∀z∈cs,BL 3400 z.1/\BL 3400 z.2)/\cs.length<=14)/\(kn m/\BL 300 m.2.1.1/\BL 300 m.2.1.2/\BL 300 m.2.2.1/\BL 300 m.2.2.2) /\
 ∀cf zs m',ng dn sh cs cf zs->V_ dn m m'->kn m'->Q (.tup [pc cf zs,ju m'])
def Ml:τ Ey (TF BQ BT vL) ["bit","move"]:=by
 rintro ds Q ⟨⟨d1,d2⟩,sh,cs,⟨sg,⟨p,q'⟩,u,v⟩,rfl,⟨dp,yr,yt⟩,⟨ip,bs,bz,lz⟩,⟨mf,bp,bq,bu,bv⟩,q⟩;rw[cK 0 rfl];unfold TF ju;nofun;have q0:0<q':=mf.q0;have v0:0<v:=mf.v0;dsimp only at bp bq bu bv dp yr yt;refine⟨sh,1,0,1,d1,d2,cs,rfl,⟨ip.pos,η,dp,.inl rfl⟩,⟨bs.mono,BL.const η,yt.mono,BL.const η,yr.mono⟩,λz hz=>⟨(bz z hz).1.mono,(bz z hz).2.mono⟩,ip.cvx,ν,λcf zs P'=>?_⟩;refine⟨1,0,1,d1,d2,rfl,.inl rfl,⟨BL.const η,yr.mono⟩,?_⟩;have b1:BL 4000 (-1*0):=BL.const η;have b2:BL 4000 (-1*d1):=by rw[show(-1*d1:Int) = -d1 by lia];exact yr.neg.mono
 refine⟨1,-1*0,1,-1*d1,d2,sg,p,q',u,v,rfl,⟨.inl rfl,mf.sg⟩,⟨η,dp,q0,v0⟩,⟨b1,BL.const η,b2,yt.mono,bp.mono,bq.mono,bu.mono,bv.mono⟩,λP1 Q1 R1 W1 l1 l2=>?_⟩;have bsg:BL 1 sg:=by rcases mf.sg with e |e <;> (rw[show sg=_ from e];exact BL.const η)
 have e1:sg*(-1*0)*q'+p*1=p:=ε
 have e2:1*q'=q':=ν
 rw[e1,e2] at l1;have bt:BL 400 (sg*(-1*d1)*v+u*d2):=by
  have e3:sg*(-1*d1)*v+u*d2=sg*(-d1)*v+u*d2:=ε
  rw[e3];exact(((bsg.mul yr.neg).mul bv).add (bu.mul yt)).mono
 refine q cf zs (1*sg,(P1,Q1),(R1,W1)) (C8 (dn:=(d1,d2)) ip dp P') ⟨by dsimp only;lia,l1.worth,?_⟩ ⟨by have:=mf.sg;dsimp only at *;lia,l1.pos,l2.pos,l1.cop,l2.cop,(bp.mono:BL 400 _).le l1.lea,(bq.mono:BL 400 _).le l1.leb,bt.le l2.lea,((yt.mul bv).mono:BL 400 _).le l2.leb⟩;have:=l2.worth;dsimp only at *;rw[this];grind
def zB:FD:=λds Q=>∃(dn:Pt)(sh:Int)(cs:ω Pt)(m:Mv),ds=[.tup [pc sh cs,ju m],pt dn]/\(0<dn.2/\BL 30 dn.1/\BL 30 dn.2)/\(c7 sh cs/\BL 1500 sh/\(∀z∈cs,BL 3400 z.1/\BL 3400 z.2)/\cs.length<=14)/\(kn m/\BL 300 m.2.1.1/\BL 300 m.2.1.2/\BL 300 m.2.2.1/\BL 300 m.2.2.2) /\
 ∀cf zs m',ng dn sh cs cf zs->V_ dn m m'->kn m'->Q (.tup [pc cf zs,ju m'])
def Hb:τ zB (WZ Ey) ["bit","height"]:=by
 rintro ds Q ⟨dn,sh,cs,m,rfl,h1,h2,h3,q⟩;rw[cK 0 rfl];unfold WZ;nofun;exact⟨dn,sh,cs,m,rfl,h1,h2,h3,q⟩
def Fb:FD:=λds Q=>∃(sh:Int)(cs:ω Pt),ds=[pc sh cs]/\(0<sh/\BL 9000 sh/\cs≠[]/\cs.length<=100)/\∀z∈cs,(∀w∈cs,z.2<=w.2)->∀p q,me z.2 sh p q->Q (fr p q)
def Mq:τ Fb (XA pC) ["piece"]:=by
 rintro ds Q ⟨sh,cs,rfl,⟨h0,bs,ne,lc⟩,q⟩;rw[cK 0 rfl];unfold XA;simp only[gQ,N6,aR,bO,aW,bF,fM,cH,aD,aV,r1,r2,aQ,rC,qL,riT,nU,iT,aB];refine⟨mX θ,?_⟩;refine vW (λc=>∃a b,c=[a,b]) pt (λz=>.int z.2) cs ?_ ⟨ξ,ξ,rfl⟩ ?_
 ·rintro z hz c ⟨a,b,rfl⟩ K hK;nofun;exact hK _ ⟨ae (.int z.1),ae (.int z.2),rfl⟩
 ·refine⟨cs.map (·.2),by rw[dF];rfl,by simpa using ne,λM hM le=>?_⟩;obtain⟨z,hz,rfl⟩:=bG.mp hM;exact⟨z.2,sh,rfl,⟨ν,bs⟩,λp q' l=>q z hz (λw hw=>le _ (cT hw)) p q' l⟩
def XW:FD:=λds Q=>∃a b c d:Int,ds=[fr a b,fr c d]/\(0<b/\c≠0)/\(BL 4000 a/\BL 4000 b/\BL 4000 c/\BL 4000 d)/\∀p q,me (a*d) (b*c) p q->Q (fr p q)
def Hd:τ XW (Jx pC) ["one","other"]:=by
 rintro ds Q ⟨a,b,c,d,rfl,⟨h1,h2⟩,⟨ba,bb,bc,bd⟩,q⟩;rw[cK 0 rfl];unfold Jx;nofun;refine⟨ba.mulOk bd,bb.mulOk bc,_,_,rfl,⟨AJ ν h2,(bb.mul bc).mono⟩,q⟩
def PV:FD:=λds Q=>∃a b:Int,ds=[fr a b]/\(0<b/\BL 9000 b)/\Q (.int (a.fdiv b))
def Dj:τ PV NN ["one"]:=by
 rintro ds Q ⟨a,b,rfl,⟨h0,bb⟩,q⟩;rw[cK 0 rfl];unfold NN;nofun;exact⟨bb.divOk ν,q⟩
abbrev Lb:=Int×ω Pt×Mv
def cn(b:Lb):D:=.tup [pc b.1 b.2.1,ju b.2.2]
def RW(h1:0<k1)(h2:0<k2)(ex:k1*X1=k2*X2)(ey:k1*Y1=k2*Y2)(ew:k1*W1=k2*W2):(gu sh cs X1 Y1 W1↔gu sh cs X2 Y2 W2)/\(im sh cs X1 Y1 W1↔im sh cs X2 Y2 W2):=by
 have e:∀a b,k1*fe sh X1 Y1 W1 a b=k2*fe sh X2 Y2 W2 a b:=λa b=>by
  rw[xE,xE];have l:k1*(sh*(a.2-b.2)*X1+sh*(b.1-a.1)*Y1+(a.1*b.2-a.2*b.1)*W1)=sh*(a.2-b.2)*(k1*X1)+sh*(b.1-a.1)*(k1*Y1)+(a.1*b.2-a.2*b.1)*(k1*W1):=ε
  rw[l,ex,ey,ew];grind
 refine⟨⟨λh a b c=>?_,λh a b c=>?_⟩,⟨λh a b c=>(kO h1 h2 (e a b)).1.mp (h a b c),λh a b c=>(kO h1 h2 (e a b)).1.mpr (h a b c)⟩⟩
 ·have:=(kO h1 h2 (e a b)).2;have:=h a b c;lia
 ·have:=(kO h1 h2 (e a b)).2;have:=h a b c;lia
structure ud(h:Pt)(ap:Int)(c8:List Pt)(m:Mv)(L:Int)(b:Lb):Prop where
 ip:c7 b.1 b.2.1
 closed:∀X Y W,0<=W->(gu b.1 b.2.1 X Y W↔gu ap c8 (X*h.2) (Y*h.2+L*h.1*W) (W*h.2)/\0<=Y/\h.2*Y<=h.1*W)
 opened:∀X Y W,0<W->(im b.1 b.2.1 X Y W↔im ap c8 (X*h.2) (Y*h.2+L*h.1*W) (W*h.2)/\0<Y/\h.2*Y<h.1*W)
 sg:b.2.2.1=m.1
 x:b.2.2.2.1.1*m.2.1.2=m.2.1.1*b.2.2.2.1.2
 y:b.2.2.2.2.1*(h.2*m.2.2.2)=(m.1*(L*h.1)*m.2.2.2+m.2.2.1*h.2)*b.2.2.2.2.2
 mf:kn b.2.2
 bs:BL 1400 b.1
 bz:∀z∈b.2.1,BL 3300 z.1/\BL 3300 z.2
 len:b.2.1.length<=14
def zZ{k a b:Int}(hk:0<k):k*a<=k*b↔a<=b:=⟨λh=>Int.le_of_mul_le_mul_left h hk,λh=>dY h (aK hk)⟩
def tE{k a b:Int}(hk:0<k):k*a<k*b↔a<b:=⟨λh=>Int.lt_of_mul_lt_mul_left h (aK hk),λh=>lR h hk⟩
def L6(H:Hh h)(R:we h ap c8 L s1 z1)(d0:0<dn.2)(de:dn.1*h.2 = -(L*h.1*dn.2))(b1:BL 30 dn.1)(b2:BL 30 dn.2)(P:ng dn s1 z1 b.1 b.2.1)(ms:V_ dn m b.2.2)(mf:kn b.2.2):ud h ap c8 m L b:=by
 obtain⟨sz,zz⟩:=P.size R.bs R.bz b1 b2;have ey:∀Y W:Int,h.2*(Y*dn.2-dn.1*W)=dn.2*(Y*h.2+L*h.1*W):=λY W=>by
  have:h.2*(Y*dn.2-dn.1*W)=h.2*Y*dn.2-dn.1*h.2*W:=ε
  rw[this,de];grind
 have pr:∀X Y W:Int,(gu ap c8 (X*dn.2) (Y*dn.2-dn.1*W) (W*dn.2)↔gu ap c8 (X*h.2) (Y*h.2+L*h.1*W) (W*h.2))/\(im ap c8 (X*dn.2) (Y*dn.2-dn.1*W) (W*dn.2)↔im ap c8 (X*h.2) (Y*h.2+L*h.1*W) (W*h.2)):=λX Y W=>
  RW H.h2 d0 ε (ey Y W) ε
 have g1:∀Y W:Int,h.2*(Y*dn.2-dn.1*W)=dn.2*(h.2*Y)+L*h.1*(W*dn.2):=λY W=>by rw[ey];grind
 have g2:∀W:Int,(L+1)*h.1*(W*dn.2)=dn.2*(h.1*W)+L*h.1*(W*dn.2):=λW=>by grind
 refine⟨P.ip,λX Y W hw=>?_,λX Y W hw=>?_,ms.sg,ms.x,?_,mf,sz.mono,λz hz=>⟨(zz z hz).1.mono,(zz z hz).2.mono⟩,by rw[P.len];exact R.len⟩
 ·rw[P.closed,R.closed _ _ _ (bT hw (aK d0)),(pr X Y W).1,g1,g2];have k1:L*h.1*(W*dn.2)<=dn.2*(h.2*Y)+L*h.1*(W*dn.2)↔0<=Y:=by
   have a:0<=dn.2*(h.2*Y)↔0<=Y:=by
    have z:=zZ (a:=h.2*0) (b:=h.2*Y) d0;rw[zZ H.h2,mQ,mQ] at z;exact z
   lia
  have k2:dn.2*(h.2*Y)+L*h.1*(W*dn.2)<=dn.2*(h.1*W)+L*h.1*(W*dn.2)↔h.2*Y<=h.1*W:=by
   have a:dn.2*(h.2*Y)<=dn.2*(h.1*W)↔h.2*Y<=h.1*W:=zZ d0;lia
  rw[k1,k2]
 ·rw[P.opened,R.opened _ _ _ (aJ hw d0),(pr X Y W).2,g1,g2];have k1:L*h.1*(W*dn.2)<dn.2*(h.2*Y)+L*h.1*(W*dn.2)↔0<Y:=by
   have a:0<dn.2*(h.2*Y)↔0<Y:=by
    have z:=tE (a:=h.2*0) (b:=h.2*Y) d0;rw[tE H.h2,mQ,mQ] at z;exact z
   lia
  have k2:dn.2*(h.2*Y)+L*h.1*(W*dn.2)<dn.2*(h.1*W)+L*h.1*(W*dn.2)↔h.2*Y<h.1*W:=by
   have a:dn.2*(h.2*Y)<dn.2*(h.1*W)↔h.2*Y<h.1*W:=tE d0;lia
  rw[k1,k2]
 ·have e:=ms.y;refine cV (a:=dn.2) ν ?_;have l:dn.2*(b.2.2.2.2.1*(h.2*m.2.2.2))=b.2.2.2.2.1*(dn.2*m.2.2.2)*h.2:=ε
  rw[l,e];have l2:(m.1 * -dn.1*m.2.2.2+m.2.2.1*dn.2)*b.2.2.2.2.2*h.2=(-(m.1*m.2.2.2*(dn.1*h.2))+m.2.2.1*dn.2*h.2)*b.2.2.2.2.2:=ε
  rw[l2,de];grind
def m8(b:Lb):Rat:=lr b.1 (hV c6 b.2.1)
def jc:ω Lb->Rat
 | []=>0
 |b::l=>m8 b+jc l
theorem IW:∀(l:ω Lb)(b:Lb),jc (l++[b])=jc l+m8 b
 | [],b=>by show m8 b+0=0+m8 b;grind
 |a::l,b=>by show m8 a+jc (l++[b])=m8 a+jc l+m8 b;rw[IW l b];grind
structure wb(h:Pt)(ap:Int)(c8:List Pt)(m:Mv)(L0:Int)(bs:List Lb):Prop where
 each:∀(i:Nat)(b:Lb),bs[i]?=ψ b->ud h ap c8 m (L0+i) b
 lo:∀z∈c8,L0*h.1*ap<=h.2*z.2
 hi:∀z∈c8,h.2*z.2<=(L0+bs.length)*h.1*ap
 area:jc bs=lr ap (hV c6 c8)
 len:bs.length<=60
 ne:0<bs.length
def Ia:FD:=λds Q=>∃(h:Pt)(ap:Int)(c8:ω Pt)(m:Mv),ds=[.tup [pc ap c8,ju m],pt h]/\(Hh h/\Pz h ap c8)/\(kn m/\BL 250 m.2.1.1/\BL 250 m.2.1.2/\BL 250 m.2.2.1/\BL 250 m.2.2.2)/\∀L0 bs,wb h ap c8 m L0 bs->Q (.lst (bs.map cn))
def Zp{c d:Int}(H:Hh h)(P:Pz h ap c8)(hz:z∈c8)(l:me z.2 ap p q)(l2:me (p*h.2) (q*h.1) c d):((c.fdiv d)*h.1*ap<=h.2*z.2/\h.2*z.2<(c.fdiv d+1)*h.1*ap)/\-26<=c.fdiv d/\c.fdiv d<=27:=by
 have h0:=P.ip.pos;have w1:=l.worth;have w2:=l2.worth;have qp:=l.pos;have dp:=l2.pos;have hs:0<h.1*ap:=aJ H.h1 h0;have key:c*(h.1*ap)=h.2*z.2*d:=by
  refine cV (a:=q) ν ?_;have e1:q*(c*(h.1*ap))=c*(q*h.1)*ap:=ε
  rw[e1,w2];have e2:p*h.2*d*ap=p*ap*h.2*d:=ε
  rw[e2,w1];grind
 rw[cS _ ν];have f1:c / d*d<=c:=Int.ediv_mul_le c ν;have f2:c<(c / d+1)*d:=Int.lt_ediv_add_one_mul_self c dp;generalize c / d=F at *;have g1:d*(F*h.1*ap)<=d*(h.2*z.2):=by
  have e:d*(h.2*z.2)=c*(h.1*ap):=by rw[key];grind
  rw[e];have:=aX f1 (aK hs);have e2:F*d*(h.1*ap)=d*(F*h.1*ap):=ε
  lia
 have g2:d*(h.2*z.2)<d*((F+1)*h.1*ap):=by
  have e:d*(h.2*z.2)=c*(h.1*ap):=by rw[key];grind
  rw[e];have:=iF f2 hs;have e2:(F+1)*d*(h.1*ap)=d*((F+1)*h.1*ap):=ε
  lia
 have k1:=(zZ dp).mp g1;have k2:=(tE dp).mp g2;obtain⟨r1,r2⟩:=P.rows z hz;refine⟨⟨k1,k2⟩,?_,?_⟩
 ·have:-26*(h.1*ap)<(F+1)*(h.1*ap):=by
   have e1:-26*(h.1*ap) = -26*h.1*ap:=ε;have e2:(F+1)*(h.1*ap)=(F+1)*h.1*ap:=ε;lia
  have:=pK this (aK hs);lia
 ·have:F*(h.1*ap)<=27*(h.1*ap):=by
   have e1:27*(h.1*ap)=27*h.1*ap:=ε;have e2:F*(h.1*ap)=F*h.1*ap:=ε;lia
  exact dQ this hs
def Rt:τ Ia (NO XQ PV zB Fb XW wJ) ["bit","height","rest","level","told","halves"]:=by
 rintro ds Q ⟨h,ap,c8,m,rfl,⟨H,P⟩,⟨mf,bp,bq,bu,bv⟩,q⟩;have c3:=P.ip.cvx.len;rw[cK 4 rfl];unfold NO;simp only[gQ,Eb,aR,bO,aW,bF];refine eO [ae (.tup [pc ap c8,ju m]),ae (pt h),ae (pc ap c8),ξ,ξ,ξ] (λK hK=>?_) ?_
 ·simp only[eI,r2,aQ,rC,nU,aB,aE,aM,aP];exact hK
 refine dI (λf=>∃L0:Int,((∀z∈c8,L0*h.1*ap<=h.2*z.2)/\(∃z∈c8,h.2*z.2<(L0+1)*h.1*ap)/\-26<=L0/\L0<=27)/\f=[ae (.tup [pc ap c8,ju m]),ae (pt h),ae (pc ap c8),ae (.int L0),ξ,ξ]) (λK hK=>?_) ?_
 ·simp only[eI,cH,aD,aV,bV,aB,aE,aM,aP];refine⟨ap,c8,rfl,⟨P.ip.pos,P.bs.mono,by rintro rfl;simp at c3,by have:=P.len;lia⟩,λz hz least p q' l=>?_⟩;have bp':BL 70 p:=(P.bz z hz).2.le l.lea;have bq':BL 40 q':=P.bs.le l.leb;refine⟨p,q',h.1,h.2,rfl,⟨l.pos,by have:=H.h1;lia⟩,⟨bp'.mono,bq'.mono,H.b1.mono,H.b2.mono⟩,λc d l2=>?_⟩;have bd:BL 50 d:=((bq'.mul H.b1).mono:BL 50 _).le l2.leb;refine⟨c,d,rfl,⟨l2.pos,bd.mono⟩,?_⟩;obtain⟨⟨k1,k2⟩,k3,k4⟩:=Zp H P hz l l2;refine hK _ ⟨_,⟨λw hw=>?_,⟨z,hz,k2⟩,k3,k4⟩,rfl⟩;have:=dY (least w hw) (aK H.h2);lia
 rintro f ⟨L0,⟨lo,⟨zl,xk,vl⟩,l0,l1⟩,rfl⟩;refine eO [ae (.tup [pc ap c8,ju m]),ae (pt h),ae (pc ap c8),ae (.int L0),ψ (.own []),ξ] (λK hK=>?_) ?_
 ·nofun;exact hK
 refine dI (λf=>∃(bs:ω Lb)(a b c:Option L2.R2.S),wb h ap c8 m L0 bs/\f=[ae (.tup [pc ap c8,ju m]),ae (pt h),a,b,ψ (.own (bs.map cn)),c]) (λK hK=>?_) ?_
 ·have R0:nh h ap c8 L0 ap c8:=by
   refine⟨P.ip,λX Y W hw=>⟨λk=>⟨k,?_⟩,λk=>k.1⟩,λX Y W hw=>⟨λk=>⟨k,?_⟩,λk=>k.1⟩⟩
   ·have:=pI (α:=0) (β:=-h.2) (γ:=L0*h.1) P.ip.cvx P.ip.pos (λz hz=>by
     have k:=lo z hz;have e:0*z.1 + -h.2*z.2+L0*h.1*ap=L0*h.1*ap-h.2*z.2:=ε;rw[e];lia) hw k
    have e:0*X + -h.2*Y+L0*h.1*W=L0*h.1*W-h.2*Y:=ε;rw[e] at this;lia
   ·have:=AF (α:=0) (β:=-h.2) (γ:=L0*h.1) P.ip.cvx P.ip.pos (.inr (by have:=H.h2;lia)) (λz hz=>by
     have k:=lo z hz;have e:0*z.1 + -h.2*z.2+L0*h.1*ap=L0*h.1*ap-h.2*z.2:=ε;rw[e];lia) hw k
    have e:0*X + -h.2*Y+L0*h.1*W=L0*h.1*W-h.2*Y:=ε;rw[e] at this;lia
  have loop:∀(n:Nat)(bs:ω Lb)(L sh:Int)(zs:ω Pt)(u:Option L2.R2.S),L=L0+bs.length->L<=27->28-L<=n->nh h ap c8 L sh zs->(∃z∈zs,h.2*z.2<(L+1)*h.1*sh)->(∀(i:Nat)(b:Lb),bs[i]?=ψ b->ud h ap c8 m (L0+i) b)->jc bs+lr sh (hV c6 zs)=lr ap (hV c6 c8) ->
    pV (dZ (r2 (BG ζ) (aQ 2) (rC .non))) (wC XQ zB wJ) (n+1) {nx:=K,rt:=Q} [ae (.tup [pc ap c8,ju m]),ae (pt h),ae (pc sh zs),ae (.int L),ψ (.own (bs.map cn)),u]:=by
   intro n
   induction n with
   |zero=>intro bs L sh zs u _ a b;exfalso;lia
   |succ n ih=>
    intro bs L sh zs u eL lL ln' R low each ar;obtain⟨sz,zz,lz⟩:=R.size H P ν ν;have bL:BL 6 L:=yv ν ν;have bL1:BL 6 (L+1):=yv (L:=L+1) ν ν;unfold pV;simp only[dZ,r2,aQ,rC,BG,CQ,aB,aE,if_true,nH];unfold wC;refine dI (λf=>∃d1 d2,(dz (oO (gg h (L+1)) sh) sh zs d1/\dz (oO (h8 (gg h (L+1))) sh) sh zs d2)/\f=[ae (.tup [pc ap c8,ju m]),ae (pt h),ae (pc sh zs),ae (.int L),ψ (.own (bs.map cn)),ae (.tup [d1,d2])]) (λK2 fi=>?_) ?_
    ·simp only[eI,cH,jH,aD,aV,bV,aQ,r2,rC,mJ,fJ,nU,iT,aB,aE,aM,aP,bP,dG,sz3,true_and];refine⟨bL1.mulOk H.b1,sh,zs,h,L+1,rfl,⟨H,ν,ν⟩,⟨R.ip,lz,sz,zz⟩,λd1 d2 r1 r2=>fi _ ⟨d1,d2,⟨r1,r2⟩,rfl⟩⟩
    rintro f ⟨d1,d2,⟨r1,r2⟩,rfl⟩;obtain⟨s1,z1,rfl,RM,cs⟩:=R.cut H P ν ν low r1 r2;refine dI (λf=>∃b:Lb,(ud h ap c8 m L b/\m8 b=lr s1 (hV c6 z1))/\f=[ae (.tup [pc ap c8,ju m]),ae (pt h),ae (pc sh zs),ae (.int L),ψ (.own ((bs++[b]).map cn)),ae (.tup [pc s1 z1,d2])]) (λK2 fi=>?_) ?_
    ·simp only[wY,cH,jH,aD,aV,bV,aQ,r1,L2.R2.r1,L2.R2.r2,rC,xO,nU,iT,aB,aE,aM,aP,bP,dG,sz2,true_and];refine⟨h.1,h.2,-L,1,rfl,⟨H.h2,η⟩,⟨H.b1.mono,H.b2.mono,bL.neg.mono,BL.const η⟩,λp q' l=>?_⟩;have bp1:BL 30 p:=((H.b1.mul bL.neg).mono:BL 30 _).le l.lea;have bq1:BL 30 q':=((H.b2.mul (BL.const (n:=1) (i:=1) η)).mono:BL 30 _).le l.leb;refine⟨(p,q'),s1,z1,m,rfl,⟨l.pos,bp1,bq1⟩,⟨RM.ip,RM.bs.mono,λz hz=>⟨(RM.bz z hz).1.mono,(RM.bz z hz).2.mono⟩,RM.len⟩,⟨mf,bp.mono,bq.mono,bu.mono,bv.mono⟩,λcf qd m' pd ms mf'=>?_⟩;have w:=l.worth;have de:p*h.2 = -(L*h.1*q'):=by
      have e:p*h.2=p*(h.2*1):=ε;rw[e,w];grind
     refine⟨mX θ,fi _ ⟨(cf,qd,m'),⟨L6 (dn:=(p,q')) H RM l.pos de bp1 bq1 pd ms mf',pd.area⟩,?_⟩⟩;rw[cI];rfl
    rintro f ⟨b,⟨lf,ab⟩,rfl⟩;have ve:∀(i:Nat)(c:Lb),(bs++[b])[i]?=ψ c->ud h ap c8 m (L0+i) c:=λi c hc=>by
     rcases IQ i bs.length with k |k |k
     ·rw[dN k] at hc;exact each i c hc
     ·subst k;rw[dR (bU _)] at hc;simp at hc;subst hc;rw[<-eL];exact lf
     ·rw[iX θ] at hc;cases hc
    simp only[cW,eI,bV,aQ,L2.R2.r2,rC,mJ,iT,aB,aE,aM,aP];rcases cs with⟨rfl,all,ar'⟩ | ⟨s2,z2,rfl,RU,low',⟨zu,xl,vu⟩,ar'⟩
    ·obtain⟨n,rfl⟩:∃k,n=k:=⟨n,rfl⟩;unfold pV;simp only[dZ,L2.R2.r2,aQ,rC,BG,CQ,aB,aE,if_true,fZ,aS,if_false];refine hK _ ⟨bs++[b],ae .non,ae (.int (L+1)),ae (.tup [pc s1 z1,.non]),⟨ve,lo,λz hz=>?_,?_,θ,δ⟩,rfl⟩
     ·have e:(L0+((bs++[b]).length:Nat):Int)=L+1:=θ;rw[e];apply fP.mp;intro k;have iz:=MM P.ip hz;have e1:(L+1)*h.1*ap=L*h.1*ap+h.1*ap:=ε;have hs:=aJ H.h1 P.ip.pos;have ir:=(R.closed z.1 z.2 ap (aK P.ip.pos)).mpr ⟨iz,ν⟩;have:=pI (α:=0) (β:=h.2) (γ:=-((L+1)*h.1)) R.ip.cvx R.ip.pos (λw hw=>by
       have k:=all w hw;have e:0*w.1+h.2*w.2 + -((L+1)*h.1)*sh=h.2*w.2-(L+1)*h.1*sh:=ε;rw[e];lia) (aK P.ip.pos) ir
      have e:0*z.1+h.2*z.2 + -((L+1)*h.1)*ap=h.2*z.2-(L+1)*h.1*ap:=ε;rw[e] at this;lia
     ·rw[IW,ab,ar',ar]
    ·have lL':L+1<=27:=by
      have iz:=(R.closed zu.1 zu.2 sh (aK R.ip.pos)).mp (MM R.ip xl);have:=pI (α:=0) (β:=h.2) (γ:=-(27*h.1)) P.ip.cvx P.ip.pos (λw hw=>by
       have k:=(P.rows w hw).2;have e:0*w.1+h.2*w.2 + -(27*h.1)*ap=h.2*w.2-27*h.1*ap:=ε;rw[e];lia) (aK R.ip.pos) iz.1
      have e:0*zu.1+h.2*zu.2 + -(27*h.1)*sh=h.2*zu.2-27*h.1*sh:=ε;rw[e] at this;have hs:=aJ H.h1 R.ip.pos;have k:(L+1)*(h.1*sh)<27*(h.1*sh):=by
       have e1:(L+1)*(h.1*sh)=(L+1)*h.1*sh:=ε;have e2:27*(h.1*sh)=27*h.1*sh:=ε;lia
      have:=pK k (aK hs);lia
     refine ih (bs++[b]) (L+1) s2 z2 (ae (.tup [pc s1 z1,pc s2 z2])) θ lL' ν RU ?_ ve ?_
     ·rw[show L+1+1=L+2 by lia];exact low'
     ·rw[IW,ab,<-ar,<-ar'];grind
  exact⟨60+1,loop 60 [] L0 ap c8 ξ δ l1 ν R0 ⟨zl,xk,vl⟩ (λi b hb=>by simp at hb) (by show(0:Rat)+_=_;grind)⟩
 rintro f ⟨bs,a,b,c,ls,rfl⟩;simp only[sX,L2.R2.S.fz,fM,bV,aB,aE,aM,aP];exact q L0 bs ls
inductive ko(h:Pt):List Bt->List (Int×List Lb)->Prop
 |nil:ko h [] []
 |cons {b:Bt} {bs:List Bt} {L0:Int} {ls:List Lb} {us:List (Int×List Lb)}:wb h b.2.1 b.2.2.1 b.2.2.2 L0 ls->ko h bs us->ko h (b::bs) ((L0,ls)::us)
theorem ko.snoc{bs:ω Bt}(U:ko h bs us)(s:wb h b.2.1 b.2.2.1 b.2.2.2 L0 ls):ko h (bs++[b]) (us++[(L0,ls)]):=by
 induction U with
 |nil=>exact .cons s .nil
 |cons a _ ih=>exact .cons a ih
abbrev mG(us:ω (Int×ω Lb)):ω Lb:=us.flatMap (·.2)
structure yj(h:Pt)(b:Bt):Prop where
 pz:Pz h b.2.1 b.2.2.1
 mf:kn b.2.2.2
 bp:BL 250 b.2.2.2.2.1.1
 bq:BL 250 b.2.2.2.2.1.2
 bu:BL 250 b.2.2.2.2.2.1
 bv:BL 250 b.2.2.2.2.2.2
theorem ko.len{bs:ω Bt}(U:ko h bs us):(mG us).length<=60*bs.length:=by
 induction U with
 |nil=>simp[mG]
 | @cons b bs L0 ls us a _ ih=>
  have:=a.len;show((ls++mG us).length)<=60*(bs.length+1);rw[bR];lia
def G3:FD:=λds Q=>∃(h:Pt)(place:Int)(fs:ω Pt)(bs:ω Bt),ds=[.tup [.int place,pt h,.lst (bs.map jr)],fv fs]/\(Hh h/\bs.length<=4/\∀b∈bs,yj h b)/\∀us,ko h bs us->Q (.tup [pt h,.lst ((mG us).map cn)])
def M8:∀ds Q,G3 ds Q->KL Ia {nx:=λ_=>False,rt:=Q} (dW ["box","leans","bits","bit"] ds):=by
 rintro ds Q ⟨h,place,fs,bs,rfl,⟨H,lb,hb⟩,q⟩;rw[cK 2 rfl];unfold KL;simp only[gQ,Hr,aR,bO,aW,bF];generalize hF:fv fs=FS;refine Kc (λa=>a=[ae (.tup [.int place,pt h,.lst (bs.map jr)]),ae FS,ψ (.own []),ξ]) (λK hK=>?_) ?_
 ·nofun;exact hK _ rfl
 rintro a rfl;refine Kc (λa=>∃us u,ko h bs us/\a=[ae (.tup [.int place,pt h,.lst (bs.map jr)]),ae FS,ψ (.own ((mG us).map cn)),u]) (λK hK=>?_) ?_
 ·simp only[lC,riL,r2,aQ,rC,yG,aB];refine jG (λys a=>∃(dn td:ω Bt)(us:ω (Int×ω Lb))(u:Option L2.R2.S),bs=dn++td/\ys=td.map jr/\ko h dn us/\a=[ae (.tup [.int place,pt h,.lst (bs.map jr)]),ae FS,ψ (.own ((mG us).map cn)),u]) ?_ ?_ _ _ ⟨[],bs,[],ξ,rfl,rfl,.nil,rfl⟩
  ·rintro y ys a ⟨dn,td,us,u,ec,ey,U,rfl⟩ F hr qk hn _;cases td with
   |nil=>cases ey
   |cons b td=>
    cases ey;have mb:b∈bs:=(by rw[ec];simp);obtain⟨pz,mf,b1,b2,b3,b4⟩:=hb b mb;have ld:dn.length+1<=4:=(by have:=Φ eW ec;simp at this;lia);have lu:=U.len;unfold AZ;simp only[cY,DQ,cH,aD,aV,r2,bV,aQ,rC,iT,aB,aE,aM,aP];refine⟨h,b.2.1,b.2.2.1,b.2.2.2,rfl,⟨H,pz⟩,⟨mf,b1,b2,b3,b4⟩,λL0 ls s=>?_⟩;have:=s.len;refine⟨mX (by rw[aY,aY];lia),hn _ ⟨dn++[b],td,us++[(L0,ls)],ae (jr b),by rw[ec];simp,rfl,U.snoc s,?_⟩⟩;have:mG (us++[(L0,ls)])=mG us++ls:=(by unfold mG;rw[kX];simp);rw[this,cI]
  ·rintro a ⟨dn,td,us,u,ec,ey,U,rfl⟩;have:td=[]:=(by simpa using ey.symm);subst this;rw[eH] at ec;subst ec;exact hK _ ⟨us,u,U,rfl⟩
 rintro a ⟨us,u,U,rfl⟩;simp only[J7,aB,aE,aM,aP,fM,jH,aD,aV,D5,r2,aQ,rC,rFr,iT,true_and,bP,dG];exact⟨Zw,sz2,q us U⟩
structure s_(b:Lb):Prop where
 ip:c7 b.1 b.2.1
 bs:BL 1500 b.1
 bz:∀z∈b.2.1,BL 4800 z.1/\BL 4800 z.2
 len:b.2.1.length<=14
 mf:kn b.2.2
def PZ:FD:=λds Q=>∃b:Lb,ds=[cn b]/\s_ b/\Q (.bl ζ)
def Dm:τ PZ (DZ XS Nl IE) ["_law_bit","_law_move_here"]:=by
 rintro ds Q ⟨⟨sh,zs,sg,x,y⟩,rfl,⟨ip,bs,bz,len,mf⟩,q⟩;rw[cK 1 rfl];unfold DZ cn ju;simp only[gQ,VF,aR,bO,aW,bF];generalize hP:pc sh zs=PD;refine eO [ae (.tup [PD,.tup [.int sg,pt x,pt y]]),ξ] (λK hK=>?_) ?_
 ·nofun;refine⟨sh,zs,by rw[hP],ip,λz hz=>⟨(bz z hz).1.mono,(bz z hz).2.mono⟩,by dsimp only at len;lia,?_⟩;nofun;exact hK
 refine eO [ae (.tup [PD,.tup [.int sg,pt x,pt y]]),ae (.tup [.int sg,pt x,pt y])] (λK hK=>?_) ?_
 ·nofun;exact hK
 refine eO [ae (.tup [PD,.tup [.int sg,pt x,pt y]]),ae (.tup [.int sg,pt x,pt y])] (λK hK=>?_) ?_
 ·nofun;refine⟨sg,rfl,?_⟩;nofun;have:(if sg<0 then -sg else sg)=1:=by have:=mf.sg;dsimp only at this;split <;> lia
  simp only[this,decide_true,fZ,aS,if_false];exact hK
 nofun;refine⟨x,rfl,⟨mf.q0,mf.cx⟩,?_⟩;nofun;exact⟨y,rfl,⟨mf.v0,mf.cy⟩,q⟩
def XN:FD:=λds Q=>∃L:ω Lb,ds=[.lst (L.map cn)]/\(∀b∈L,s_ b)/\Q (.bl ζ)
def Gx:τ XN (KG PZ) ["_law_bits_here","_law_bit"]:=by
 rintro ds Q ⟨L,rfl,hL,q⟩;rw[cK 1 rfl];unfold KG;simp only[gQ,VF,aR,bO,aW,bF];have il':Gb "list" (.lst (L.map cn))=ψ ζ:=rfl;refine eO [ae (.lst (L.map cn)),ξ] (λK hK=>?_) ?_
 ·nofun;simp only[il'];nofun;exact hK
 refine dI (λa=>∃u,a=[ae (.lst (L.map cn)),u]) (λK hK=>?_) ?_
 ·simp only[lC,riL,bV,aB];refine jG (λys a=>∃(dn td:ω Lb)(u:Option L2.R2.S),L=dn++td/\ys=td.map cn/\a=[ae (.lst (L.map cn)),u]) ?_ ?_ _ _ ⟨[],L,ξ,rfl,rfl,rfl⟩
  ·rintro y ys a ⟨dn,td,u,ec,ey,rfl⟩ F hr qk hn _;cases td with
   |nil=>cases ey
   |cons b td=>
    cases ey;unfold AR;nofun;refine⟨b,rfl,hL b (by rw[ec];simp),?_⟩;nofun;exact hn _ ⟨dn++[b],td,ae (cn b),by rw[ec];simp,rfl,rfl⟩
  ·rintro a ⟨dn,td,u,ec,ey,rfl⟩;exact hK _ ⟨u,rfl⟩
 rintro a ⟨u,rfl⟩;nofun;exact q
def PY:FD:=λds Q=>∃(sh:Int)(cs:ω Pt)(s hh:Pt),ds=[pc sh cs,pt s,pt hh]/\(BL 4000 sh/\(∀z∈cs,BL 5000 z.1/\BL 5000 z.2)/\BL 100 s.1/\BL 100 s.2/\BL 100 hh.1/\BL 100 hh.2)/\cs.length<=100 /\
 (∀z∈cs,(0<=z.1/\z.1<=sh)/\0<=z.2*s.2-z.1*s.1/\(z.2*s.2-z.1*s.1)*hh.2<=hh.1*s.2*sh)/\Q (.bl ζ)
def Dl:τ PY DY ["_law_piece","_law_s","_law_h","_law_x","_law_y","_law_above"]:=by
 rintro ds Q ⟨sh,cs,s,hh,rfl,⟨bs,bz,s1,s2,h1,h2⟩,lc,hz,q⟩;rw[cK 3 rfl];unfold DY;simp only[gQ,Ea,aR,bO,aW,bF];refine dI (λc=>∃u v w,c=[ae (pc sh cs),ae (pt s),ae (pt hh),u,v,w]) (λK hK=>?_) ?_
 ·simp only[lC,riT,r2,aQ,rC,iT,aB];refine jG (λys c=>∃(dn td:ω Pt)(u v w:Option L2.R2.S),cs=dn++td/\ys=td.map pt/\c=[ae (pc sh cs),ae (pt s),ae (pt hh),u,v,w]) ?_ ?_ _ _ ⟨[],cs,ξ,ξ,ξ,rfl,rfl,rfl⟩
  ·rintro y ys c ⟨dn,td,u,v,w,ec,ey,rfl⟩ F hr qk hn _;cases td with
   |nil=>cases ey
   |cons z td=>
    cases ey;have mz:z∈cs:=(by rw[ec];simp);obtain⟨b1,b2⟩:=bz z mz;obtain⟨⟨x0,x1⟩,a0,a1⟩:=hz z mz;unfold xA;simp only[nX,fW,nW,cY,bP,dG,true_and,aM,aP];refine eO [ae (pc sh cs),ae (pt s),ae (pt hh),ae (.int z.1),ae (.int z.2),w] (λK fi=>?_) ?_
    ·nofun;rw[υ ν,υ ν];exact fi
    refine eO [ae (pc sh cs),ae (pt s),ae (pt hh),ae (.int z.1),ae (.int z.2),ae (.int (z.2*s.2-z.1*s.1))] (λK fi=>?_) ?_
    ·nofun;exact⟨b2.mulOk s2,b1.mulOk s1,fi⟩
    have ba:BL 5200 (z.2*s.2-z.1*s.1):=((b2.mul s2).sub (b1.mul s1)).mono;generalize hA:z.2*s.2-z.1*s.1=A at *;nofun;rw[υ ν];refine⟨ba.mulOk h2,h1.mulOk s2,(h1.mul s2).mulOk bs,?_⟩;rw[υ ν];exact hn _ ⟨dn++[z],td,ae (.int z.1),ae (.int z.2),ae (.int A),by rw[ec];simp,rfl,rfl⟩
  ·rintro c ⟨dn,td,u,v,w,ec,ey,rfl⟩;exact hK _ ⟨u,v,w,rfl⟩
 rintro c ⟨u,v,w,rfl⟩;nofun;exact q
def HZ:FD:=λds Q=>∃a b c d:Int,ds=[.tup [.int a,.int b],.tup [.int c,.int d]]/\(BL 7000000 a/\BL 7000000 b/\BL 7000000 c/\BL 7000000 d)/\Q (.tup [.int (a*d+c*b),.int (b*d)])
def Db:τ HZ tR ["_law_one","_law_other"]:=by
 rintro ds Q ⟨a,b,c,d,rfl,⟨b1,b2,b3,b4⟩,q⟩;rw[cK 0 rfl];unfold tR;nofun;exact⟨b1.mulOk b4,b3.mulOk b2,b2.mulOk b4,q⟩
def PQ:FD:=λds Q=>∃L:ω Lb,ds=[.lst (L.map cn)]/\(L.length<=640/\∀b∈L,s_ b)/\∀N M,(BL 6500000 N/\BL 6500000 M)->(0<M/\(N:Rat) / (M:Rat)=jc L)->Q (.tup [.int N,.int M])
def Dc:τ PQ (FY HZ XM) ["_law_bits_here","_law_total","_law_bit"]:=by
 rintro ds Q ⟨L,rfl,⟨lL,hL⟩,q⟩;rw[cK 2 rfl];unfold FY;simp only[gQ,Hr,aR,bO,aW,bF];refine eO [ae (.lst (L.map cn)),ae (.tup [.int 0,.int 1]),ξ] (λK hK=>?_) ?_
 ·nofun;exact hK
 refine dI (λa=>∃N M u,((BL 6500000 N/\BL 6500000 M)/\0<M/\(N:Rat) / (M:Rat)=jc L)/\a=[ae (.lst (L.map cn)),ae (.tup [.int N,.int M]),u]) (λK hK=>?_) ?_
 ·simp only[lC,riL,bV,aB];refine jG (λys a=>∃(dn td:ω Lb)(N M:Int)(u:Option L2.R2.S),L=dn++td/\ys=td.map cn/\((BL (10000*(dn.length+1)) N/\BL (10000*(dn.length+1)) M)/\0<M/\(N:Rat) / (M:Rat)=jc dn)/\a=[ae (.lst (L.map cn)),ae (.tup [.int N,.int M]),u]) ?_ ?_ _ _ ⟨[],L,0,1,ξ,rfl,rfl,⟨⟨(BL.const (n:=2) (i:=0) η).mono,(BL.const (n:=2) (i:=1) η).mono⟩,η,by show((0:Int):Rat) / ((1:Int):Rat)=0;rw[show((0:Int):Rat)=0 from rfl];grind⟩,rfl⟩
  ·rintro y ys a ⟨dn,td,N,M,u,ec,ey,⟨⟨bN,bM⟩,mp,eq⟩,rfl⟩ F hr qk hn _;cases td with
   |nil=>cases ey
   |cons b td=>
    cases ey;have mb:b∈L:=(by rw[ec];simp);obtain⟨ip,bs,bz,lz,mf⟩:=hL b mb;have l3:=ip.cvx.len;have le:dn.length+1<=640:=(by have:=Φ eW ec;simp at this;lia);have bc:BL 9700 (hV c6 b.2.1):=(Yk (n:=4800) bz).mono ν;have bss:BL 3000 (b.1*b.1):=(bs.mul bs).mono;unfold yP cn;simp only[cY,eI,cH,aD,aV,r2,aQ,bV,rC,nU,aB,aE,aM,aP];refine⟨b.1,b.2.1,rfl,⟨bs.mono,λz hz=>⟨(bz z hz).1.mono,(bz z hz).2.mono⟩,ν,ν⟩,?_⟩;refine⟨N,M,hV c6 b.2.1,b.1*b.1,rfl,⟨bN.mono ν,bM.mono ν,bc.mono,bss.mono⟩,?_⟩;refine hn _ ⟨dn++[b],td,_,_,ae (.tup [pc b.1 b.2.1,ju b.2.2]),by rw[ec];simp,rfl,⟨⟨?_,?_⟩,aJ mp (aJ ip.pos ip.pos),?_⟩,rfl⟩
    ·exact((bN.mul bss).add (bc.mul bM)).mono (by rw[bR];simp;lia)
    ·exact(bM.mul bss).mono (by rw[bR];simp;lia)
    ·rw[IW,<-eq];unfold m8 lr;have n1:=jZ mp;have n2:=jZ ip.pos;simp only[gY,oN];grind
  ·rintro a ⟨dn,td,N,M,u,ec,ey,⟨⟨bN,bM⟩,mp,eq⟩,rfl⟩;have:td=[]:=(by simpa using ey.symm);subst this;rw[eH] at ec;subst ec;exact hK _ ⟨N,M,u,⟨⟨bN.mono ν,bM.mono ν⟩,mp,eq⟩,rfl⟩
 rintro a ⟨N,M,u,⟨bb,mp,eq⟩,rfl⟩;nofun;exact q N M bb ⟨mp,eq⟩
open Classical in
noncomputable def kh (sh:Int) (cs:ω Pt) (X Y W:Int):Int:=if im sh cs X Y W then 1 else if gu sh cs X Y W then 0 else -1
section
variable{sh X Y W:Int}
def ME:(kh sh cs X Y W=1/\im sh cs X Y W)\/(kh sh cs X Y W=0/\gu sh cs X Y W/\¬im sh cs X Y W)\/(kh sh cs X Y W = -1/\¬gu sh cs X Y W/\¬im sh cs X Y W):=by
 unfold kh;by_cases h:im sh cs X Y W
 ·exact .inl ⟨by rw[Ω h],h⟩
 ·by_cases k:gu sh cs X Y W
  ·exact .inr (.inl ⟨by rw[υ h,Ω k],k,h⟩)
  ·exact .inr (.inr ⟨by rw[υ h,υ k],k,h⟩)
def YZ(h:im sh cs X Y W):kh sh cs X Y W=1:=by unfold kh;rw[Ω h]
def JS(h:gu sh cs X Y W)(k:¬im sh cs X Y W):kh sh cs X Y W=0:=by unfold kh;rw[υ k,Ω h]
theorem im.c(h:im sh cs X Y W):gu sh cs X Y W:=λa b c=>aK (h a b c)
def PF(h:¬gu sh cs X Y W):kh sh cs X Y W = -1:=by unfold kh;rw[υ (λk=>h (im.c k)),υ h]
theorem Bx(h1:∃a b,az cs a b/\M=fe sh X Y W a b)(h2:∀a b,az cs a b->M<=fe sh X Y W a b):No M=kh sh cs X Y W:=by
 obtain⟨a,b,c,e⟩:=h1;unfold No;rcases fN M 0 with k |k |k
 ·rw[PF (λz=>by have:=z a b c;lia),υ ν,Ω k];decide
 ·rw[JS (λx y c=>by have:=h2 x y c;lia) (λz=>by have:=z a b c;lia),υ ν,υ ν];decide
 ·rw[YZ (λx y c=>by have:=h2 x y c;lia),Ω k,υ ν];decide
end
def L5{s h:Pt}{sh X Y W I J N:Int}(f:Fm s h)(g:Gp s h P sh cs)(c3:3<=cs.length)(sp:u6 s h X Y W I J N):kh sh cs X Y W=gv I J N P:=by
 obtain⟨M,h1,h2⟩:∃M,(∃a b,az cs a b/\M=fe sh X Y W a b)/\∀a b,az cs a b->M<=fe sh X Y W a b:=by
  have ex:∀l:ω (Pt×Pt),l≠[]->∃p∈l,∀q∈l,fe sh X Y W p.1 p.2<=fe sh X Y W q.1 q.2:=by
   intro l
   induction l with
   |nil=>intro h;exact Ψ rfl h
   |cons x l ih=>
    intro _;by_cases hl:l=[]
    ·subst hl;exact⟨x,δ,λq hq=>by rw[cJ.mp hq];exact rM _⟩
    ·obtain⟨p,hp,k⟩:=ih hl;by_cases z:fe sh X Y W x.1 x.2<=fe sh X Y W p.1 p.2
     ·exact⟨x,δ,λq hq=>by
       rcases aO.mp hq with rfl |hq
       ·exact rM _
       ·have:=k q hq;lia⟩
     ·exact⟨p,by simp[hp],λq hq=>by
       rcases aO.mp hq with rfl |hq
       ·lia
       ·exact k q hq⟩
  have ne:SL (cs++cs.take 1)≠[]:=by
   rcases cs with _ | ⟨a,_ | ⟨b,r⟩⟩
   ·simp at c3
   ·simp at c3
   ·intro k;simp[SL] at k
  obtain⟨p,hp,k⟩:=ex _ ne;exact⟨_,⟨p.1,p.2,SI hp,rfl⟩,λa b c=>k (a,b) (DH c)⟩
 rw[<-Bx h1 h2,WK f g sp h1 h2]
abbrev bX(m:Mv)(X W:Int):Int:=m.1*(X*m.2.1.2-m.2.1.1*W)*m.2.2.2
abbrev bY(m:Mv)(Y W:Int):Int:=m.1*(Y*m.2.2.2-m.2.2.1*W)*m.2.1.2
abbrev bW(m:Mv)(W:Int):Int:=W*m.2.1.2*m.2.2.2
def Tl{X Y W:Int}(mf:kn m)(b1:BL 4000 X)(b2:BL 4000 Y)(b3:BL 4000 W):BL 5000 (bX m X W)/\BL 5000 (bY m Y W)/\BL 5000 (bW m W):=by
 have bs:BL 2 m.1:=by have:=mf.sg;exact BL.of_lt (m:=2) ν ν
 exact⟨((bs.mul ((b1.mul mf.bq).sub (mf.bp.mul b3))).mul mf.bv).mono,((bs.mul ((b2.mul mf.bv).sub (mf.bu.mul b3))).mul mf.bq).mono,((b3.mul mf.bq).mul mf.bv).mono⟩
def Ex:FD:=λds Q=>∃(m:Mv)(X Y W:Int),ds=[i8 X Y W,ju m]/\(kn m/\BL 4000 X/\BL 4000 Y/\BL 4000 W)/\Q (i8 (bX m X W) (bY m Y W) (bW m W))
def Mk:τ Ex KF ["_law_spot","_law_move_here","_law_sign","_law_dx","_law_dy","_law_x","_law_y"]:=by
 rintro ds Q ⟨⟨sg,⟨p,q'⟩,u,v⟩,X,Y,W,rfl,⟨mf,b1,b2,b3⟩,q⟩;have bs:BL 2 sg:=by have:=mf.sg;exact BL.of_lt (m:=2) (by dsimp only at this;lia) (by dsimp only at this;lia)
 have bp:BL 400 p:=mf.bp;have bq:BL 400 q':=mf.bq;have bu:BL 400 u:=mf.bu;have bv:BL 400 v:=mf.bv;rw[cK 5 rfl];unfold KF ju;simp only[gQ,Mu,aR,bO,aW,bF];nofun;refine⟨b1.mulOk bq,bp.mulOk b3,bs.mulOk ((b1.mul bq).sub (bp.mul b3)),(bs.mul ((b1.mul bq).sub (bp.mul b3))).mulOk bv,b2.mulOk bv,bu.mulOk b3,bs.mulOk ((b2.mul bv).sub (bu.mul b3)),(bs.mul ((b2.mul bv).sub (bu.mul b3))).mulOk bq,b3.mulOk bq,(b3.mul bq).mulOk bv,q⟩
noncomputable abbrev cj (d_:Bool) (X Y W:Int) (b:Lb):Int:=if d_=ζ then kh b.1 b.2.1 (bX b.2.2 X W) (bY b.2.2 Y W) (bW b.2.2 W) else kh b.1 b.2.1 X Y W
noncomputable def cnt (f:Lb->Int):ω Lb->Int
 | []=>0
 |b::l=>(if f b=1 then 1 else 0)+cnt f l
theorem Ao(f:Lb->Int):∀(l:ω Lb)(b:Lb),cnt f (l++[b])=cnt f l+if f b=1 then 1 else 0
 | [],b=>by show _+(0:Int)=0+_;lia
 |a::l,b=>by show _+cnt f (l++[b])=_+cnt f l+_;rw[Ao f l b];lia
theorem cnt_append(f:Lb->Int):∀(l k:ω Lb),cnt f (l++k)=cnt f l+cnt f k
 | [],k=>by show _=(0:Int)+_;rw[bF];lia
 |a::l,k=>by show _+cnt f (l++k)=_+cnt f l+_;rw[cnt_append f l k];lia
theorem cnt_none:∀{l:ω Lb},(∀b∈l,f b≠1)->cnt f l=0
 | [],_=>rfl
 |a::l,h=>by
  show(if f a=1 then(1:Int) else 0)+cnt f l=0;rw[υ (h a δ),cnt_none λb hb=>h b (by simp[hb])];rfl
theorem YE:∀{l:ω Lb}{k:Nat}{b:Lb},l[k]?=ψ b->f b=1->(∀i c,i≠k->l[i]?=ψ c->f c≠1)->cnt f l=1
 | [],k,b,h,_,_=>by simp at h
 |a::l,0,b,h,h1,h2=>by
  simp at h;subst h;show(if f a=1 then(1:Int) else 0)+cnt f l=1;rw[Ω h1,cnt_none λc hc=>by
   obtain⟨i,hi,e⟩:=eB hc;exact h2 (i+1) c ν (by simp[hi,e])];rfl
 |a::l,k+1,b,h,h1,h2=>by
  show(if f a=1 then(1:Int) else 0)+cnt f l=1;rw[υ (h2 0 a ν rfl),YE (k:=k) (by simpa using h) h1 λi c hi hc=>h2 (i+1) c ν (by simpa using hc)];rfl
def OU:FD:=λds Q=>∃(L:ω Lb)(X Y W:Int)(d_:Bool),ds=[.lst (L.map cn),i8 X Y W,.bl d_]/\(L.length<=640/\∀b∈L,s_ b)/\(BL 4000 X/\BL 4000 Y/\BL 4000 W) /\
 ((∃b∈L,cj d_ X Y W b=0)->Q .non)/\((∀b∈L,cj d_ X Y W b≠0)->Q (.int (cnt (cj d_ X Y W) L)))
def Hc:τ OU (KJ Ex IB) ["_law_bits_here","_law_spot","_law_home","_law_found","_law_piece","_law_move_here","_law_place","_law_where"]:=by
 rintro ds Q ⟨L,X,Y,W,d_,rfl,⟨lL,hL⟩,⟨b1,b2,b3⟩,q0,q1⟩;rw[cK 5 rfl];unfold KJ;simp only[gQ,Mu,aR,bO,aW,bF];refine eO [ae (.lst (L.map cn)),ae (i8 X Y W),ae (.bl d_),ae (.int 0),ξ,ξ,ξ,ξ] (λK hK=>?_) ?_
 ·nofun;exact hK
 refine dI (λa=>∃u v w x,(∀b∈L,cj d_ X Y W b≠0)/\a=[ae (.lst (L.map cn)),ae (i8 X Y W),ae (.bl d_),ae (.int (cnt (cj d_ X Y W) L)),u,v,w,x]) (λK hK=>?_) ?_
 ·simp only[lC,riL,bV,aB];refine jG (λys a=>∃(dn td:ω Lb)(u v w x:Option L2.R2.S),L=dn++td/\ys=td.map cn/\(∀b∈dn,cj d_ X Y W b≠0)/\a=[ae (.lst (L.map cn)),ae (i8 X Y W),ae (.bl d_),ae (.int (cnt (cj d_ X Y W) dn)),u,v,w,x]) ?_ ?_ _ _ ⟨[],L,ξ,ξ,ξ,ξ,rfl,rfl,δ,rfl⟩
  ·rintro y ys a ⟨dn,td,u,v,w,x,ec,ey,hd,rfl⟩ F hr qk hn _;cases td with
   |nil=>cases ey
   |cons b td=>
    cases ey;have mb:b∈L:=(by rw[ec];simp);obtain⟨ip,bs,bz,lz,mf⟩:=hL b mb;have l3:=ip.cvx.len;obtain⟨c1,c2,c3⟩:=Tl mf b1 b2 b3;generalize hLD:D.lst (L.map cn)=LD;unfold AV cn;simp only[nX,fW,nW,cY,bP,dG,true_and,aM,aP];refine eO [ae LD,ae (i8 X Y W),ae (.bl d_),ae (.int (cnt (cj d_ X Y W) dn)),ae (pc b.1 b.2.1),ae (ju b.2.2),ae (i8 X Y W),x] (λK fi=>?_) ?_
    ·simp only[eI,bV,aB,aE,aM,aP];exact fi
    refine dI (λa=>∃X' Y' W',((BL 9000 X'/\BL 9000 Y'/\BL 9000 W')/\kh b.1 b.2.1 X' Y' W'=cj d_ X Y W b)/\a=[ae LD,ae (i8 X Y W),ae (.bl d_),ae (.int (cnt (cj d_ X Y W) dn)),ae (pc b.1 b.2.1),ae (ju b.2.2),ae (i8 X' Y' W'),x]) (λK fi=>?_) ?_
    ·cases d_ with
     |true=>
      simp only[jU,dZ,eI,cH,aD,aV,bV,aB,aE,aM,aP,if_true];exact⟨b.2.2,X,Y,W,rfl,⟨mf,b1,b2,b3⟩,fi _ ⟨_,_,_,⟨⟨c1.mono,c2.mono,c3.mono⟩,by unfold cj;rw[Ω rfl]⟩,rfl⟩⟩
     |false=>
      simp only[jU,dZ,bV,gP,aB,aE,aS,if_false];exact fi _ ⟨X,Y,W,⟨⟨b1.mono,b2.mono,b3.mono⟩,by unfold cj;rw[υ η]⟩,rfl⟩
    rintro a ⟨X',Y',W',⟨⟨d1,d2,d3⟩,ev⟩,rfl⟩;refine eO [ae LD,ae (i8 X Y W),ae (.bl d_),ae (.int (cnt (cj d_ X Y W) dn)),ae (pc b.1 b.2.1),ae (ju b.2.2),ae (i8 X' Y' W'),ae (.int (cj d_ X Y W b))] (λK fi=>?_) ?_
    ·simp only[eI,cH,aD,aV,bV,aB,aE,aM,aP];refine⟨b.1,b.2.1,X',Y',W',rfl,⟨bs.mono,λz hz=>⟨(bz z hz).1.mono,(bz z hz).2.mono⟩,ν,ν⟩,⟨d1,d2,d3⟩,λM h1 h2=>?_⟩;rw[Bx h1 h2,ev];exact fi
    have hd2:cj d_ X Y W b≠0->∀c∈dn++[b],cj d_ X Y W c≠0:=λk c hc=>by
     rcases bQ.mp hc with z |z
     ·exact hd c z
     ·rw[cJ.mp z];exact k
    have es:=Ao (cj d_ X Y W) dn b;have q0':cj d_ X Y W b=0->Q .non:=λz=>q0 ⟨b,mb,z⟩;generalize cj d_ X Y W b=V at *;generalize hP:pc b.1 b.2.1=PD;generalize hM:ju b.2.2=MD;generalize kr:i8 X' Y' W'=SP';generalize hS:i8 X Y W=SP;refine dI (λa=>V≠0/\a=[ae LD,ae SP,ae (.bl d_),ae (.int (cnt (cj d_ X Y W) dn)),ae PD,ae MD,ae SP',ae (.int V)]) (λK fi=>?_) ?_
    ·by_cases z:V=0
     ·subst z;nofun;exact hr▸q0' rfl
     ·nofun;simp only[z,decide_false,aS,if_false];exact fi _ ⟨z,rfl⟩
    rintro a ⟨z,rfl⟩;nofun;subst hLD hS;by_cases o:V=1
    ·rw[Ω o] at es;simp only[o,decide_true,if_true];refine hn _ ⟨dn++[b],td,ae PD,ae MD,ae SP',ae (.int 1),by rw[ec];simp,rfl,hd2 z,?_⟩;rw[es]
    ·rw[υ o] at es;simp only[o,decide_false,aS,if_false];refine hn _ ⟨dn++[b],td,ae PD,ae MD,ae SP',ae (.int V),by rw[ec];simp,rfl,hd2 z,?_⟩;rw[es]
  ·rintro a ⟨dn,td,u,v,w,x,ec,ey,hd,rfl⟩;have:td=[]:=(by simpa using ey.symm);subst this;rw[eH] at ec;subst ec;exact hK _ ⟨u,v,w,x,hd,rfl⟩
 rintro a ⟨u,v,w,x,hd,rfl⟩;nofun;exact q1 hd
def Zd(i0:0<I)(i1:I<24*N)(h:J<0\/24*N<J):∀P∈wX,gv I J N P = -1:=by
 intro P hP;unfold wX at hP;simp only[aO,eM,or_false] at hP;rcases hP with rfl |rfl |rfl |rfl |rfl |rfl |rfl
 ·rw[ul];unfold gf;dsimp only;rw[υ ν,υ ν]
 ·rw[tv];unfold gf;dsimp only;rw[υ ν,υ ν]
 ·rw[tv];unfold gf;dsimp only;rw[υ ν,υ ν]
 ·rw[tv];unfold gf;dsimp only;rw[υ ν,υ ν]
 ·rw[tv];unfold gf;dsimp only;rw[υ ν,υ ν]
 ·rw[ul];unfold gf;dsimp only;rw[υ ν,υ ν]
 ·rw[ul];unfold gf;dsimp only;rw[υ ν,υ ν]
def Sx(i0:0<I)(i1:I<24*N):∀w∈VJ,∃P∈w,gv I 0 N P=0:=by
 intro w hw;unfold VJ at hw;simp only[aO,eM,or_false] at hw;rcases hw with rfl |rfl |rfl |rfl
 ·exact⟨[(0,0),(24,0),(24,24),(0,24)],η,by rw[ul];unfold gf;dsimp only;rw[υ ν,Ω ν]⟩
 ·exact⟨[(0,0),(24,0),(24,24)],η,by rw[tv];unfold gf;dsimp only;rw[υ ν,Ω ν]⟩
 ·exact⟨[(0,0),(24,0),(0,24)],η,by rw[tv];unfold gf;dsimp only;rw[υ ν,Ω ν]⟩
 ·by_cases k:I<=8*N
  ·exact⟨[(0,0),(8,0),(8,24),(0,24)],η,by rw[ul];unfold gf;dsimp only;rw[υ ν,Ω ν]⟩
  ·exact⟨[(8,0),(24,0),(24,24),(8,24)],η,by rw[ul];unfold gf;dsimp only;rw[υ ν,Ω ν]⟩
section
variable{s h:Pt}{X Y W I J N L:Int}
theorem Sj(f:Fm s h)(sp:u6 (0,1) h X Y W I J N)(j0:0<J)(j1:J<24*N):0<Y/\h.2*Y<h.1*W:=by
 obtain⟨sw,sn,sx,sy⟩:=sp;have h1:=f.h1;have h2:=f.h2;unfold eF at sy;dsimp only at sy;have e:(24*h.2*N)*Y=(W*h.1)*J:=by
  have l:(24*h.2*N)*Y=24*(1*h.2)*Y*N:=ε
  rw[l,sy];grind
 have c1:0<24*h.2*N:=aJ ν sn;have c2:0<W*h.1:=aJ sw h1;refine⟨(kO c1 c2 e).1.mpr j0,?_⟩;have e2:(24*N)*(h.1*W-h.2*Y)=(W*h.1)*(24*N-J):=by
  have l:(24*N)*(h.1*W-h.2*Y)=24*N*(h.1*W)-(24*h.2*N)*Y:=ε
  rw[l,e];grind
 have:=(kO (show 0<24*N by lia) c2 e2).1.mpr ν;lia
end
section
variable{ap L X Y W:Int}{c:Lb}
def L4(hw:0<W)(h0:0<Y)(h1:h.2*Y<h.1*W)(F:ud h ap c8 m L c):kh c.1 c.2.1 X Y W=kh ap c8 (X*h.2) (Y*h.2+L*h.1*W) (W*h.2):=by
 have e1:=F.closed X Y W (aK hw);have e2:=F.opened X Y W hw;rcases ME (sh:=ap) (cs:=c8) (X:=X*h.2) (Y:=Y*h.2+L*h.1*W) (W:=W*h.2) with⟨e,k⟩ | ⟨e,k,n⟩ | ⟨e,n,_⟩
 ·rw[e,YZ (e2.mpr ⟨k,h0,h1⟩)]
 ·rw[e,JS (e1.mpr ⟨k,aK h0,aK h1⟩) λz=>n (e2.mp z).1]
 ·rw[e,PF λz=>n (e1.mp z).1]
theorem Sg(ip:c7 ap c8)(S':wb h ap c8 m L0 ls)(hw:0<=W)(k:gu ap c8 X Y W):L0*(h.1*W)<=h.2*Y/\h.2*Y<=(L0+ls.length)*(h.1*W):=by
 constructor
 ·have:=pI (α:=0) (β:=-h.2) (γ:=L0*h.1) ip.cvx ip.pos (λz hz=>by
   have k:=S'.lo z hz;have e:0*z.1 + -h.2*z.2+L0*h.1*ap=L0*h.1*ap-h.2*z.2:=ε;rw[e];lia) hw k
  have e:0*X + -h.2*Y+L0*h.1*W=L0*(h.1*W)-h.2*Y:=ε
  rw[e] at this;lia
 ·have:=pI (α:=0) (β:=h.2) (γ:=-((L0+ls.length)*h.1)) ip.cvx ip.pos (λz hz=>by
   have k:=S'.hi z hz;have e:0*z.1+h.2*z.2 + -((L0+ls.length)*h.1)*ap=h.2*z.2-(L0+ls.length)*h.1*ap:=ε;rw[e];lia) hw k
  have e:0*X+h.2*Y + -((L0+ls.length)*h.1)*W=h.2*Y-(L0+ls.length)*(h.1*W):=ε
  rw[e] at this;lia
def sD{k a b:Int}(hk:0<k)(e:a*k<b*k):a<b:=pK e (aK hk)
theorem Bv(h1:0<h.1)(ip:c7 ap c8)(S':wb h ap c8 m L0 ls)(hw:0<W)(k:gu ap c8 X Y W)(a:L*(h.1*W)<h.2*Y)(b:h.2*Y<(L+1)*(h.1*W)):∃(i:Nat)(c:Lb),L=L0+i/\ls[i]?=ψ c:=by
 have p:=aJ h1 hw;obtain⟨r1,r2⟩:=Sg ip S' (aK hw) k;have k1:L0<L+1:=sD p ν;have k2:L<L0+ls.length:=sD p ν;have hi:(L-L0).toNat<ls.length:=ν
 exact⟨(L-L0).toNat,ls[(L-L0).toNat],ν,aG hi⟩
end
abbrev g8(b:Bt):Lb:=(b.2.1,b.2.2.1,b.2.2.2)
def Uu{ap L X Y W:Int}{c:Lb}(h1:0<h.1)(h2:0<h.2)(hw:0<W)(mf:kn m)(F:ud h ap c8 m L c):
  (gu c.1 c.2.1 (bX c.2.2 X W) (bY c.2.2 Y W) (bW c.2.2 W)↔gu ap c8 (bX m X W) (bY m Y W) (bW m W)/\L*(h.1*bW m W)<=h.2*bY m Y W/\h.2*bY m Y W<=(L+1)*(h.1*bW m W)) /\
  (im c.1 c.2.1 (bX c.2.2 X W) (bY c.2.2 Y W) (bW c.2.2 W)↔im ap c8 (bX m X W) (bY m Y W) (bW m W)/\L*(h.1*bW m W)<h.2*bY m Y W/\h.2*bY m Y W<(L+1)*(h.1*bW m W)):=by
 have q0:=mf.q0;have v0:=mf.v0;have qc:=F.mf.q0;have vc:=F.mf.v0;have wc:0<bW c.2.2 W:=aJ (aJ hw qc) vc;have fx:=F.x;have fy:=F.y;have fs:=F.sg;have sq:m.1*m.1=1:=by rcases mf.sg with e |e <;> rw[e] <;> decide
 have ex:(m.2.1.2*m.2.2.2)*(bX c.2.2 X W*h.2)=(c.2.2.2.1.2*c.2.2.2.2.2*h.2)*bX m X W:=by
  unfold bX;rw[fs];have l:m.2.1.2*m.2.2.2*(m.1*(X*c.2.2.2.1.2-c.2.2.2.1.1*W)*c.2.2.2.2.2*h.2)=m.2.2.2*m.1*c.2.2.2.2.2*h.2*(X*c.2.2.2.1.2*m.2.1.2-c.2.2.2.1.1*m.2.1.2*W):=ε
  rw[l,fx];grind
 have ey:(m.2.1.2*m.2.2.2)*(bY c.2.2 Y W*h.2+L*h.1*bW c.2.2 W)=(c.2.2.2.1.2*c.2.2.2.2.2*h.2)*bY m Y W:=by
  unfold bY bW;rw[fs];have l:m.2.1.2*m.2.2.2*(m.1*(Y*c.2.2.2.2.2-c.2.2.2.2.1*W)*c.2.2.2.1.2*h.2+L*h.1*(W*c.2.2.2.1.2*c.2.2.2.2.2))=m.2.1.2*c.2.2.2.1.2*(m.1*(Y*c.2.2.2.2.2*m.2.2.2*h.2-c.2.2.2.2.1*(h.2*m.2.2.2)*W)+(1*L)*h.1*W*c.2.2.2.2.2*m.2.2.2):=ε
  rw[l,fy,<-sq];grind
 have ew:(m.2.1.2*m.2.2.2)*(bW c.2.2 W*h.2)=(c.2.2.2.1.2*c.2.2.2.2.2*h.2)*bW m W:=by unfold bW;grind
 have k1:0<m.2.1.2*m.2.2.2:=aJ q0 v0;have k2:0<c.2.2.2.1.2*c.2.2.2.2.2*h.2:=aJ (aJ qc vc) h2;obtain⟨pc1,po1⟩:=RW (sh:=ap) (cs:=c8) k1 k2 ex ey ew;generalize bX c.2.2 X W=Xc at *;generalize bY c.2.2 Y W=Yc at *;generalize bW c.2.2 W=Wc at *;generalize bX m X W=Xm at *;generalize bY m Y W=Ym at *;generalize bW m W=Wm at *;generalize m.2.1.2*m.2.2.2=K1 at *;generalize c.2.2.2.1.2*c.2.2.2.2.2*h.2=K2 at *;have a1:K2*(h.2*Ym-L*(h.1*Wm))=(K1*h.2*h.2)*Yc:=by
  have l:K2*(h.2*Ym-L*(h.1*Wm))=h.2*(K2*Ym)-L*h.1*(K2*Wm):=ε
  rw[l,<-ey,<-ew];grind
 have a2:K2*((L+1)*(h.1*Wm)-h.2*Ym)=(K1*h.2)*(h.1*Wc-h.2*Yc):=by
  have l:K2*((L+1)*(h.1*Wm)-h.2*Ym)=(L+1)*h.1*(K2*Wm)-h.2*(K2*Ym):=ε
  rw[l,<-ey,<-ew];grind
 have s1:=kO k2 (aJ (aJ k1 h2) h2) a1;have s2:=kO k2 (aJ k1 h2) a2;constructor
 ·rw[F.closed _ _ _ (aK wc),pc1];constructor
  ·rintro⟨a,b,c⟩;exact⟨a,ν,ν⟩
  ·rintro⟨a,b,c⟩;exact⟨a,ν,ν⟩
 ·rw[F.opened _ _ _ wc,po1];constructor
  ·rintro⟨a,b,c⟩;exact⟨a,ν,ν⟩
  ·rintro⟨a,b,c⟩;exact⟨a,ν,ν⟩
theorem Fz{X Y W:Int}(h1:0<h.1)(h2:0<h.2)(hw:0<W){bs:ω Bt}(U:ko h bs us):(∀b∈bs,c7 b.2.1 b.2.2.1/\kn b.2.2.2)->(∀b∈bs.map g8,cj ζ X Y W b≠0)->(∀c∈mG us,cj ζ X Y W c≠0)->cnt (cj ζ X Y W) (bs.map g8)=cnt (cj ζ X Y W) (mG us):=by
 induction U with
 |nil=>intro _ _ _;rfl
 | @cons b bs L0 ls us a _ ih=>
  intro ob n1 n2;have i:=ih (λx hx=>ob x (by simp[hx])) (λx hx=>n1 x (by rw[aR];exact bH _ hx)) (λc hc=>n2 c (by show c∈ls++mG us;exact bD _ hc));obtain⟨ip,mf⟩:=ob b δ;have lv:=λ(j:Nat) (c:Lb) (hc:ls[j]?=ψ c)=>Uu (X:=X) (Y:=Y) h1 h2 hw mf (a.each j c hc);have nc:∀(j:Nat)(c:Lb),ls[j]?=ψ c->cj ζ X Y W c≠0:=λj c hc=>n2 c (by show c∈ls++mG us;exact dC _ (eY hc));have nb:=n1 (g8 b) δ;have pv:∀c:Lb,cj ζ X Y W c=kh c.1 c.2.1 (bX c.2.2 X W) (bY c.2.2 Y W) (bW c.2.2 W):=λc=>by unfold cj;rw[Ω rfl]
  have wp:0<bW b.2.2.2 W:=aJ (aJ hw mf.q0) mf.v0;have p:=aJ h1 wp;show(if cj ζ X Y W (g8 b)=1 then(1:Int) else 0)+cnt _ (bs.map g8)=cnt _ (ls++mG us);rw[cnt_append,i];rw[pv] at nb;rcases ME (sh:=b.2.1) (cs:=b.2.2.1) (X:=bX b.2.2.2 X W) (Y:=bY b.2.2.2 Y W) (W:=bW b.2.2.2 W) with⟨e,k⟩ | ⟨e,_⟩ | ⟨e,n,_⟩
  ·rw[pv,Ω e];obtain⟨r1,r2⟩:=Sg ip a (aK wp) (im.c k);generalize hWb:h.1*bW b.2.2.2 W=Wb at *;generalize hYb:h.2*bY b.2.2.2 Y W=Yb at *;have e1:=BB Yb Wb;have e2:=AH Yb (show Wb≠0 by lia);have e3:=vN Yb p;generalize Yb / Wb=T at *;generalize Yb % Wb=Z at *;have ne:=a.ne;have t1:L0<=T:=by
    have:L0*Wb<(T+1)*Wb:=by
     have l:(T+1)*Wb=Wb*T+Wb:=ε;lia
    have:=sD p this;lia
   have t2:T<L0+ls.length\/(Z=0/\T=L0+ls.length):=by
    have:T*Wb<=(L0+ls.length)*Wb:=by
     have l:T*Wb=Wb*T:=ε;lia
    have:=dQ this p;by_cases q:T<L0+ls.length
    ·exact .inl q
    ·refine .inr ⟨?_,ν⟩;have e:T=L0+ls.length:=ν;subst e;have l:Wb*(L0+ls.length)=(L0+ls.length)*Wb:=ε;lia
   have hz:Z≠0:=by
    intro z;subst z;have M':∀(j:Nat)(c:Lb),ls[j]?=ψ c->((L0+j)*Wb<=Yb/\Yb<=(L0+j+1)*Wb)->((L0+j)*Wb=Yb\/Yb=(L0+j+1)*Wb)->False:=λj c hc hb hr=>by
     obtain⟨lc,lo⟩:=lv j c hc;refine nc j c hc ?_;rw[pv];exact JS (lc.mpr ⟨im.c k,hb⟩) λz=>by have:=(lo.mp z).2;lia
    have ey:Yb=T*Wb:=(by rw[<-e1];grind);rcases t2 with q | ⟨_,q⟩
    ·have hj:(T-L0).toNat<ls.length:=ν;refine M' (T-L0).toNat _ (aG hj) ?_ (.inl ?_)
     ·have e:(L0+((T-L0).toNat:Int))=T:=ν;rw[e,ey];have l:(T+1)*Wb=T*Wb+Wb:=ε;lia
     ·have e:(L0+((T-L0).toNat:Int))=T:=ν;rw[e,ey]
    ·have hj:ls.length-1<ls.length:=ν;refine M' (ls.length-1) _ (aG hj) ?_ (.inr ?_)
     ·have e:(L0+((ls.length-1:Nat):Int))=T-1:=ν;rw[e,ey];have l:(T-1)*Wb=T*Wb-Wb:=ε;have l2:(T-1+1)*Wb=T*Wb:=ε;lia
     ·have e:(L0+((ls.length-1:Nat):Int))+1=T:=ν;rw[e,ey]
   have t3:T<L0+ls.length:=(by rcases t2 with q | ⟨q,_⟩ <;> lia);have hj:(T-L0).toNat<ls.length:=ν;have ej:(L0+((T-L0).toNat:Int))=T:=ν;have in1:T*Wb<Yb/\Yb<(T+1)*Wb:=by
    have l:T*Wb=Wb*T:=ε;have l2:(T+1)*Wb=Wb*T+Wb:=ε;lia
   rw[YE (aG hj) (by
    obtain⟨lc,lo⟩:=lv _ _ (aG hj);rw[pv];rw[ej] at lo;exact YZ (lo.mpr ⟨k,in1⟩)) (λj d w6 hd=>by
    obtain⟨lc,lo⟩:=lv j d hd;rw[pv,PF λz=>?_]
    ·decide
    ·obtain⟨_,z1,z2⟩:=lc.mp z;have u1:(L0+j:Int)<T+1:=sD p ν;have u2:T<L0+j+1:=sD p ν;lia)]
  ·exact Ψ e nb
  ·rw[pv,υ (by show kh b.2.1 b.2.2.1 _ _ _≠1;rw[e];decide),cnt_none (l:=ls) (λc hc=>by
    obtain⟨j,hj,e'⟩:=eB hc;have nI:ls[j]?=ψ c:=(by rw[aG hj,e']);rw[pv,PF λz=>n ((lv j c nI).1.mp z).1];decide)]
structure rh(f:Pt):Prop where
 ln:rf f
 lo:-4*f.2<=f.1
 hi:f.1<=13*f.2
def QA:FD:=λds Q=>∃n m:Int,ds=[.int n,.int m]/\(1<=m/\m<=4)/\∀fs:ω Pt,(fs.length:Int)=m->(∀f∈fs,rh f)->Q (fv fs)
def Do:τ QA (GB XR VO) ["_law_number","_law_many_here","_law_found","_law_k","_law_top","_law_bottom"]:=by
 rintro ds Q ⟨n,m,rfl,⟨m0,m1⟩,q⟩;rw[cK 4 rfl];unfold GB;simp only[gQ,Eb,aR,bO,aW,bF];refine dI (λd=>∃f:Pt,(jz 10 f/\BL 2 f.2/\-4*f.2<=f.1/\f.1<=4*f.2)/\d=[ae (.int n),ae (.int m),ψ (.own ([f].map pt)),ξ,ξ,ξ]) (λK hK=>?_) ?_
 ·nofun;obtain⟨a0,a1⟩:=fQ (a:=n) (b:=9) η;obtain⟨b0,b1⟩:=fQ (a:=n.fdiv 9) (b:=2) η;refine⟨nG,(BL.const (n:=9000) η).divOk η,nG,?_⟩;have w:BL 2 (1+(n.fdiv 9).fmod 2):=BL.of_lt (m:=2) ν ν;have t:BL 10 (n.fmod 9-4):=BL.of_lt (m:=10) ν ν;refine⟨_,_,rfl,⟨ν,w.mono⟩,λp q' l=>hK _ ⟨(p,q'),⟨⟨l.pos,t.le l.lea,(w.le l.leb).mono⟩,w.le l.leb,?_,?_⟩,rfl⟩⟩
  ·have:=l.worth;have lp:=l.pos;have hB1:1<=1+(n.fdiv 9).fmod 2:=ν;generalize 1+(n.fdiv 9).fmod 2=B at *;dsimp only;have b1:(-4)*q'<=(n.fmod 9-4)*q':=aX ν (aK lp);refine dQ (a:=B) ?_ ν;have bq:=aX (show 1<=B by lia) (show 0<=4*q' by lia);have e:-4*q'*B = -(B*(4*q')):=ε;lia
  ·have:=l.worth;have lp:=l.pos;have hB1:1<=1+(n.fdiv 9).fmod 2:=ν;generalize 1+(n.fdiv 9).fmod 2=B at *;dsimp only;have b1:(n.fmod 9-4)*q'<=4*q':=aX ν (aK lp);refine dQ (a:=B) ?_ ν;have bq:=aX (show 1<=B by lia) (show 0<=4*q' by lia);have e:4*q'*B=B*(4*q'):=ε;lia
 rintro d ⟨f,⟨hf,hf2,hf3,hf4⟩,rfl⟩;refine dI (λd=>∃(fs:ω Pt)(u v w:Option L2.R2.S),((fs.length:Int)=m/\∀f∈fs,rh f)/\d=[ae (.int n),ae (.int m),ψ (.own (fs.map pt)),u,v,w]) (λK hK=>?_) ?_
 ·simp only[lC,TN,aD,aV,r2,nF,aQ,rC,aB,aE,L2.R2.S.val];refine⟨⟨ν,ν⟩,?_⟩;refine JM 0 (m-1).toNat (λi d=>∃(gs:ω Pt)(g:Pt)(u v w:Option L2.R2.S),(gs.length=i/\(∀f∈gs++[g],rh f)/\(jz (10+5*i) g/\BL (2+2*i) g.2)/\g.1<=(4+3*i)*g.2)/\d=[ae (.int n),ae (.int m),ψ (.own ((gs++[g]).map pt)),u,v,w]) ?_ ?_ _ ⟨[],f,ξ,ξ,ξ,⟨rfl,λz hz=>by rw[cJ.mp hz];exact⟨⟨hf.pos,hf.top.mono,hf2.mono⟩,hf3,by have:=hf.pos;lia⟩,⟨hf,hf2⟩,by simpa using hf4⟩,rfl⟩
  ·rintro i d hi ⟨gs,g,u,v,w,⟨hl,df,⟨hg,hg2⟩,hg3⟩,rfl⟩ F hr hb hn hc;have zr:((gs++[g]).map pt).getLast? = ψ (.tup [.int g.1,.int g.2]):=(by rw[cI,aR,bO,List.getLast?_concat]);unfold yW;nofun;refine⟨(BL.const (n:=9000) η).divOk η,?_⟩;refine⟨_,_,_,rfl,⟨η,BL.const η⟩,⟨ν,ν⟩,λt t0 t1=>?_⟩;nofun;refine⟨(BL.const (n:=9000) η).divOk η,?_⟩;refine⟨_,_,_,rfl,⟨η,BL.const η⟩,⟨ν,ν⟩,λy y0 y1=>?_⟩;obtain⟨c0,c1⟩:=fQ (a:=y) (b:=3) η;nofun;simp only[Tt zr];nofun;have bw:BL 2 (1+y.fmod 3):=BL.of_lt (m:=2) ν ν;have bt:BL 2 (1+t):=BL.of_lt (m:=2) ν ν;have mg:=df g (bD _ (.head _));refine⟨nG,mg.ln.top.mulOk bw,bt.mulOk mg.ln.bot,mg.ln.bot.mulOk bw,?_⟩;refine⟨_,_,rfl,⟨aJ hg.pos ν,(hg.bot.mul bw).mono ν⟩,λp q' l=>?_⟩;have nw:=Qk hg.top hg.bot hg.pos ν ν ν ν l;have nb:BL (2+2*i+2) q':=(hg2.mul bw).le l.leb;have wt:=l.worth;have lp:=l.pos;have gp:=hg.pos;have glo:=mg.lo;have key:-4*q'<=p/\p<=(4+3*(i+1))*q':=by
    generalize hB:1+y.fmod 3=B at *;have B1:1<=B:=ν;have cp:0<g.2*B:=aJ gp ν;constructor
    ·refine dQ (a:=g.2*B) ?_ cp;rw[wt];have k1:=aX glo (show 0<=B by lia);have k2:=bT (show 0<=1+t by lia) (aK gp);have k3:=aX (show -4*g.2*B<=g.1*B+(1+t)*g.2 by lia) (aK lp);have e:-4*q'*(g.2*B) = -4*g.2*B*q':=ε;lia
    ·refine dQ (a:=g.2*B) ?_ cp;rw[wt];have k1:=aX hg3 (show 0<=B by lia);have k2:(1+t)*g.2<=3*g.2*B:=by
      have a:=aX (show 1+t<=3 by lia) (aK gp);have b:=dY B1 (show 0<=3*g.2 by lia);lia
     have e0:(4+3*(i+1))*q'*(g.2*B)=((4+3*i)*g.2*B+3*g.2*B)*q':=ε;rw[e0];exact aX ν (aK lp)
   have jx:(i:Int)+1<=3:=ν;refine⟨mX (by rw[aY,bR];simp;lia),hn _ ⟨gs++[g],(p,q'),_,_,_,⟨θ,λz hz=>?_,⟨nw.mono ν,nb.mono ν⟩,by have:=key.2;simpa using this⟩,by rw[show(gs++[g]++[(p,q')]).map pt=(gs++[g]).map pt++[fr p q'] from cI]⟩⟩;rcases bQ.mp hz with hz |hz
   ·exact df z hz
   ·rw[cJ.mp hz];refine⟨⟨l.pos,nw.top.mono ν,nb.mono ν⟩,key.1,?_⟩;have:=key.2;have:=aX (show 4+3*((i:Int)+1)<=13 by lia) (aK lp);dsimp only;lia
  ·rintro d ⟨gs,g,u,v,w,⟨hl,df,_⟩,rfl⟩;exact hK _ ⟨gs++[g],u,v,w,⟨θ,df⟩,rfl⟩
 rintro d ⟨fs,u,v,w,⟨hl,df⟩,rfl⟩;simp only[sX,L2.R2.S.fz,fM,bV,aB,aE,aM,aP];exact q fs hl df
section
variable{s h:Pt}
theorem Uc(f:Fm s h)(g:Gp s h P sh cs):lr sh (hV c6 cs)=((h.1*hV c6 P:Int):Rat) / ((576*h.2:Int):Rat):=by
 have h0:=TW f.ep g;have e:=Ub g;have n1:=jZ h0;have n2:=jZ f.h2;have n3:=jZ f.ls.pos;have e':=Φ (λx:Int=>(x:Rat)) e;unfold eF at e';simp only[gY] at e';unfold lr;simp only[gY];rw[show((24:Int):Rat)=24 from rfl] at e';rw[show((576:Int):Rat)=576 from rfl];grind
end
def Nh:∀w∈VJ,(w.map λP=>hV c6 P).sum=1152:=ι
end K37
namespace K38
open K37 K36 K34 K33
abbrev ht(s:Pt)(X Y:Int):Int:=Y*s.2-X*s.1
structure j4(s h:Pt)(L:List Lb):Prop where
 h1:0<=h.1
 h2:0<h.2
 one:∀X Y W,0<W->0<X->X<W->0<ht s X Y->ht s X Y*h.2<h.1*s.2*W->(∀b∈L,cj χ X Y W b≠0)->cnt (cj χ X Y W) L=1
 out:∀X Y W,0<W->0<X->X<W->(ht s X Y<0\/h.1*s.2*W<ht s X Y*h.2)->∀b∈L,cj χ X Y W b = -1
 low:0<h.1->∀X Y W,0<W->0<X->X<W->ht s X Y=0->∃b∈L,cj χ X Y W b=0
 rin:∀b∈L,∀X Y W,0<=W->gu b.1 b.2.1 X Y W->(0<=X/\X<=W)/\0<=ht s X Y/\ht s X Y*h.2<=h.1*s.2*W
 area:jc L=((2*h.1:Int):Rat) / (h.2:Rat)
def ut(X Y W:Int)(b:Lb):cj χ X Y W b=kh b.1 b.2.1 X Y W:=by unfold cj;rw[υ cQ]
def plT(X Y W:Int)(b:Lb):cj ζ X Y W b=kh b.1 b.2.1 (bX b.2.2 X W) (bY b.2.2 Y W) (bW b.2.2 W):=by unfold cj;rw[Ω rfl]
def YF{f:Lb->Int}{L:ω Lb}(h:∀b∈L,f b = -1):cnt f L=0:=cnt_none λb hb=>by rw[h b hb];decide
theorem XZ:∀(l k:ω Lb),jc (l++k)=jc l+jc k
 | [],k=>by show jc k=0+jc k;grind
 |a::l,k=>by show m8 a+jc (l++k)=m8 a+jc l+jc k;rw[XZ l k];grind
theorem Io{α:Type}(f:Lb->Int)(g:α->Lb):∀l:ω α,cnt f (l.map g)=((l.filter λa=>decide (f (g a)=1)).length:Int)
 | []=>rfl
 |a::l=>by
  rw[aR,sS];have i:=Io f g l;show(if f (g a)=1 then 1 else 0)+cnt f (l.map g)=_;by_cases e:f (g a)=1
  ·rw[Ω e,Ω (by simpa using e)];simp;lia
  ·rw[υ e,υ (by simpa using e)];lia
def Cu{s:Pt}:j4 s (0,1) []:=⟨η,η,λX Y W _ _ _ a b=>by dsimp only at b;lia,λ_ _ _ _ _ _ _ b hb=>Ψ hb eM,λh=>Ψ h η,λb hb=>Ψ hb eM,by show(0:Rat)=((2*0:Int):Rat) / ((1:Int):Rat);simp;grind⟩
section
variable{s h g:Pt}{X Y W:Int}
theorem E6(f:Fm s h)(w:0<W):u6 s h X Y W (24*X*(h.1*s.2)) (24*(h.2*ht s X Y)) (W*(h.1*s.2)):=
 ⟨w,aJ w f.hp,by unfold eF;grind,by unfold eF ht;grind⟩
theorem Ob{bs:ω Bt}(f:Fm s h)(each:∀b∈bs,b.1∈wX/\Gp s h b.1 b.2.1 b.2.2.1)(hw:bs.map (·.1)∈VJ)(ar:jc (bs.map g8)=((2*h.1:Int):Rat) / (h.2:Rat)):j4 s h (bs.map g8):=by
 have hp:=f.hp;have h2:=f.h2;have s2:=f.ls.pos;have t7:∀b∈bs,c7 b.2.1 b.2.2.1:=λb hb=>ZY f.ep (each b hb).2 (OV f.sp hp (EV _ (each b hb).1));have val:∀b∈bs,∀X Y W,0<W->cj χ X Y W (g8 b)=gv (24*X*(h.1*s.2)) (24*(h.2*ht s X Y)) (W*(h.1*s.2)) b.1:=λb hb X Y W w=>by
  rw[ut];exact L5 f (each b hb).2 (t7 b hb).cvx.len (E6 f w)
 have xi:∀{X W:Int},0<X->X<W->0<24*X*(h.1*s.2)/\24*X*(h.1*s.2)<24*(W*(h.1*s.2)):=λ{X W} a b=>by
  refine⟨aJ ν hp,?_⟩;have:=iF b hp;have e:24*X*(h.1*s.2)=24*(X*(h.1*s.2)):=ε
  lia
 have e3:∀A W:Int,24*(W*(h.1*s.2))-24*(h.2*A)=24*(h.1*s.2*W-A*h.2):=λA W=>by grind
 refine⟨aK f.h1,h2,λX Y W w x0 x1 y0 y1 nz=>?_,λX Y W w x0 x1 o b hb=>?_,λ_ X Y W w x0 x1 e=>?_,λb hb X Y W w i=>?_,ar⟩
 ·obtain⟨i0,i1⟩:=xi x0 x1;have j0:0<24*(h.2*ht s X Y):=by have:=aJ h2 y0;lia
  have j1:24*(h.2*ht s X Y)<24*(W*(h.1*s.2)):=by have:=e3 (ht s X Y) W;lia
  have w1:=Wq i0 i1 j0 j1 _ hw (λP hP=>by
   obtain⟨b,hb,rfl⟩:=bG.mp hP;rw[<-val b hb X Y W w];exact nz _ (cT hb))
  rw[List.filter_map,aY] at w1;have e:bs.filter (λb=>decide (cj χ X Y W (g8 b)=1))=bs.filter ((λP=>decide (gv (24*X*(h.1*s.2)) (24*(h.2*ht s X Y)) (W*(h.1*s.2)) P=1)) ∘ λx=>x.1):=wO λb hb=>by rw[val b hb X Y W w];rfl
  rw[Io,e,w1];rfl
 ·obtain⟨b',qj,rfl⟩:=bG.mp hb;obtain⟨i0,i1⟩:=xi x0 x1;rw[val b' qj X Y W w];refine Zd i0 i1 ?_ _ (each b' qj).1;rcases o with o |o
  ·have:=eJ h2 o;left;lia
  ·right;have:=e3 (ht s X Y) W;lia
 ·obtain⟨i0,i1⟩:=xi x0 x1;obtain⟨P,hP,e0⟩:=Sx i0 i1 _ hw;obtain⟨b,hb,rfl⟩:=bG.mp hP;refine⟨g8 b,cT hb,?_⟩;rw[val b hb X Y W w,e,mQ,mQ];exact e0
 ·obtain⟨b',qj,rfl⟩:=bG.mp hb;obtain⟨hP,gp⟩:=each b' qj;have ip:=t7 b' qj;have cor:∀z∈b'.2.2.1,(0<=z.1/\z.1<=b'.2.1)/\0<=ht s z.1 z.2/\ht s z.1 z.2*h.2<=h.1*s.2*b'.2.1:=λz hz=>by
   obtain⟨A,hA,e⟩:=(Eo gp).1 z hz;obtain⟨a,ha,rfl⟩:=bG.mp hA;obtain⟨⟨x0,x1⟩,y0,y1⟩:=SV _ hP a ha;unfold scl pj K36.aff at e;simp only[fK] at e;obtain⟨e1,e2⟩:=e;have sp:=ip.pos;have S0:=f.sp;have k1:24*z.1=b'.2.1*a.1:=iK (a:=s.2*h.2) ν (by unfold eF at e1;grind);have k2:24*(h.2*ht s z.1 z.2)=b'.2.1*(a.2*(h.1*s.2)):=by
    refine cV (a:=s.2) ν ?_;have l:s.2*(24*(h.2*ht s z.1 z.2))=s.2*(eF s h*z.2)-s.1*(eF s h*z.1):=(by unfold eF ht;grind);rw[l,e1,e2];grind
   have m0:=bT (aK sp) x0;have m1:=dY x1 (aK sp);have n0:=bT (aK sp) (bT y0 (aK hp));have n1:=dY (aX y1 (aK hp)) (aK sp);have q:b'.2.1*(24*(h.1*s.2))=24*(h.1*s.2*b'.2.1):=ε;have q2:ht s z.1 z.2*h.2=h.2*ht s z.1 z.2:=dS ..;refine⟨⟨ν,ν⟩,?_,ν⟩;apply fP.mp;intro k;have:=eJ h2 k;lia
  have l1:=pI (α:=-1) (β:=0) (γ:=0) ip.cvx ip.pos (λz hz=>by have:=(cor z hz).1.1;lia) w i;have l2:=pI (α:=1) (β:=0) (γ:=-1) ip.cvx ip.pos (λz hz=>by have:=(cor z hz).1.2;lia) w i;have l3:=pI (α:=s.1) (β:=-s.2) (γ:=0) ip.cvx ip.pos (λz hz=>by have:=(cor z hz).2.1;grind) w i;have l4:=pI (α:=-s.1*h.2) (β:=s.2*h.2) (γ:=-(h.1*s.2)) ip.cvx ip.pos (λz hz=>by have:=(cor z hz).2.2;grind) w i;refine⟨⟨ν,ν⟩,?_,?_⟩ <;> grind
structure j2(g:Pt)(b b':Lb):Prop where
 pd:ng g b.1 b.2.1 b'.1 b'.2.1
 ms:V_ g b.2.2 b'.2.2
 mf:kn b'.2.2
def JR(l:j2 g b b')(X Y W:Int):cj χ X Y W b'=cj χ (X*g.2) (Y*g.2-g.1*W) (W*g.2) b:=by
 rw[ut,ut];unfold kh;rw[l.pd.closed,l.pd.opened]
theorem WM(g2:0<g.2)(l:j2 g b b')(mf:kn b.2.2)(X Y W:Int):cj ζ X Y W b'=cj ζ X Y W b:=by
 have q0:=mf.q0;have v0:=mf.v0;have q1:=l.mf.q0;have v1:=l.mf.v0;obtain⟨es,ex,ey⟩:=l.ms;have ss:b.2.2.1*b.2.2.1=1:=by rcases mf.sg with e |e <;> (rw[e];rfl)
 have p:=JR l (bX b'.2.2 X W) (bY b'.2.2 Y W) (bW b'.2.2 W);rw[ut,ut] at p;rw[plT,plT,p];have pr:=RW (sh:=b.1) (cs:=b.2.1) (k1:=b.2.2.2.1.2*b.2.2.2.2.2) (k2:=b'.2.2.2.1.2*b'.2.2.2.2.2*g.2) (X1:=bX b'.2.2 X W*g.2) (Y1:=bY b'.2.2 Y W*g.2-g.1*bW b'.2.2 W) (W1:=bW b'.2.2 W*g.2) (X2:=bX b.2.2 X W) (Y2:=bY b.2.2 Y W) (W2:=bW b.2.2 W) (aJ q0 v0) (aJ (aJ q1 v1) g2)
  (by
   unfold bX;rw[es];have l:b.2.2.2.1.2*b.2.2.2.2.2*(b.2.2.1*(X*b'.2.2.2.1.2-b'.2.2.2.1.1*W)*b'.2.2.2.2.2*g.2)=b.2.2.2.2.2*b.2.2.1*b'.2.2.2.2.2*g.2*(X*b'.2.2.2.1.2*b.2.2.2.1.2-b'.2.2.2.1.1*b.2.2.2.1.2*W):=ε;rw[l,ex];grind)
  (by
   unfold bY bW;rw[es];have l:b.2.2.2.1.2*b.2.2.2.2.2*(b.2.2.1*(Y*b'.2.2.2.2.2-b'.2.2.2.2.1*W)*b'.2.2.2.1.2*g.2-g.1*(W*b'.2.2.2.1.2*b'.2.2.2.2.2))=b.2.2.2.1.2*b'.2.2.2.1.2*(b.2.2.1*Y*b'.2.2.2.2.2*g.2*b.2.2.2.2.2-b.2.2.1*W*(b'.2.2.2.2.1*(g.2*b.2.2.2.2.2))-g.1*W*b'.2.2.2.2.2*b.2.2.2.2.2):=ε;rw[l,ey];have l2:b.2.2.1*W*((b.2.2.1 * -g.1*b.2.2.2.2.2+b.2.2.2.2.1*g.2)*b'.2.2.2.2.2)=W*b'.2.2.2.2.2*(-(b.2.2.1*b.2.2.1)*g.1*b.2.2.2.2.2+b.2.2.1*b.2.2.2.2.1*g.2):=ε;rw[l2,ss];grind)
  (by unfold bW;grind)
 unfold kh;rw[pr.1,pr.2]
end
inductive dw(g:Pt):List Lb->List Lb->Prop
 |nil:dw g [] []
 |cons {b b':Lb} {l l':List Lb}:j2 g b b'->dw g l l'->dw g (b::l) (b'::l')
section
variable{s h g G:Pt}
theorem dw.fw(l:dw g B B')(h:b∈B):∃b'∈B',j2 g b b':=by
 induction l with
 |nil=>cases h
 | @cons x x' _ _ a _ ih=>
  rcases aO.mp h with rfl |h
  ·exact⟨x',δ,a⟩
  ·obtain⟨y,m,k⟩:=ih h;exact⟨y,by simp[m],k⟩
theorem dw.bw(l:dw g B B')(h:b'∈B'):∃b∈B,j2 g b b':=by
 induction l with
 |nil=>cases h
 | @cons x x' _ _ a _ ih=>
  rcases aO.mp h with rfl |h
  ·exact⟨x,δ,a⟩
  ·obtain⟨y,m,k⟩:=ih h;exact⟨y,by simp[m],k⟩
theorem dw.cnt(l:dw g B B')(e:∀b b',b∈B->j2 g b b'->f' b'=f b):cnt f' B'=cnt f B:=by
 induction l with
 |nil=>rfl
 | @cons x x' l l' a _ ih=>
  have i:=ih λb b' m=>e b b' (bH _ m);show(if f' x'=1 then 1 else 0)+K37.cnt f' l'=(if f x=1 then 1 else 0)+K37.cnt f l;rw[e x x' δ a,i]
theorem dw.area(l:dw g B B'):jc B'=jc B:=by
 induction l with
 |nil=>rfl
 | @cons x x' l l' a _ ih=>
  show m8 x'+jc l'=m8 x+jc l;rw[ih,show m8 x'=m8 x from a.pd.area]
theorem Ct(s2:0<s.2)(PA:j4 s g A)(PB:j4 s h B)(hh:0<h.1)(lf:dw g B B')(lo:me (g.1*h.2+h.1*g.2) (g.2*h.2) G.1 G.2):j4 s G (A++B'):=by
 have g1:=PA.h1;have g2:=PA.h2;have h2:=PB.h2;have G2:=lo.pos;have kp:0<g.2*h.2:=aJ g2 h2;have wo:=lo.worth;have t4:∀X Y W,ht s (X*g.2) (Y*g.2-g.1*W)=g.2*ht s X Y-g.1*s.2*W:=λX Y W=>by unfold ht;grind
 have key:∀T W:Int,(g.2*h.2)*(G.1*s.2*W-T*G.2)=G.2*(h.1*s.2*(W*g.2)-(g.2*T-g.1*s.2*W)*h.2):=λT W=>by
  have l:(g.2*h.2)*(G.1*s.2*W-T*G.2)=G.1*(g.2*h.2)*(s.2*W)-T*G.2*(g.2*h.2):=ε
  rw[l,wo];grind
 have sg:∀T W:Int,(0<G.1*s.2*W-T*G.2↔0<h.1*s.2*(W*g.2)-(g.2*T-g.1*s.2*W)*h.2)/\(G.1*s.2*W-T*G.2<0↔h.1*s.2*(W*g.2)-(g.2*T-g.1*s.2*W)*h.2<0):=λT W=>kO kp G2 (key T W);have gw:∀{W:Int},0<=W->0<=g.1*s.2*W:=λhw=>bT (bT g1 (aK s2)) hw;have hw':∀{W:Int},0<W->0<h.1*s.2*(W*g.2):=λhw=>aJ (aJ hh s2) (aJ hw g2);have cm:∀T:Int,T*g.2=g.2*T:=λT=>dS ..;have up:∀{X Y W:Int},(∀b'∈B',cj χ X Y W b'≠0)->∀b∈B,cj χ (X*g.2) (Y*g.2-g.1*W) (W*g.2) b≠0:=λnz b hb=>by
  obtain⟨b',m,l⟩:=lf.fw hb;rw[<-JR l];exact nz b' m
 have zero:∀{X Y W:Int},0<W->0<X->X<W->g.2*ht s X Y-g.1*s.2*W=0->∃b'∈B',cj χ X Y W b'=0:=λ{X Y W} w x0 x1 e=>by
  obtain⟨b,hb,z⟩:=PB.low hh (X*g.2) (Y*g.2-g.1*W) (W*g.2) (aJ w g2) (aJ x0 g2) (iF x1 g2) (by rw[t4];exact e);obtain⟨b',m,l⟩:=lf.fw hb;exact⟨b',m,by rw[JR l];exact z⟩
 have xo:∀{X Y W:Int},0<W->0<X->X<W->(g.2*ht s X Y-g.1*s.2*W<0\/h.1*s.2*(W*g.2)<(g.2*ht s X Y-g.1*s.2*W)*h.2)->∀b'∈B',cj χ X Y W b' = -1:=λ{X Y W} w x0 x1 o b' qj=>by
  obtain⟨b,m,l⟩:=lf.bw qj;rw[JR l];exact PB.out _ _ _ (aJ w g2) (aJ x0 g2) (iF x1 g2) (by rw[t4];exact o) b m
 refine⟨?_,G2,λX Y W w x0 x1 y0 y1 nz=>?_,λX Y W w x0 x1 o b hb=>?_,λ_ X Y W w x0 x1 e=>?_,λb hb X Y W w i=>?_,?_⟩
 ·have p:0<=(g.1*h.2+h.1*g.2)*G.2:=bT (vM (bT g1 (aK h2)) (bT (aK hh) (aK g2))) (aK G2);rw[<-wo] at p;apply fP.mp;intro k;have:=fU k kp;lia
 ·have nA:∀b∈A,cj χ X Y W b≠0:=λb hb=>nz b (dC _ hb);have nB:∀b∈B',cj χ X Y W b≠0:=λb hb=>nz b (bD _ hb);rw[K37.cnt_append];have c:=(sg (ht s X Y) W).1.mp ν;rcases fN (g.2*ht s X Y-g.1*s.2*W) 0 with k |k |k
  ·rw[YF (xo w x0 x1 (.inl k)),PA.one X Y W w x0 x1 y0 (by rw[cm];lia) nA];rfl
  ·obtain⟨b',m,z⟩:=zero w x0 x1 k;exact Ψ z (nB b' m)
  ·rw[YF (PA.out X Y W w x0 x1 (.inr (by rw[cm];lia))),lf.cnt λb b' _ l=>JR l X Y W,PB.one _ _ _ (aJ w g2) (aJ x0 g2) (iF x1 g2) (by rw[t4];exact k) (by rw[t4];lia) (up nB)];rfl
 ·have gw0:=gw (aK w);rcases o with o |o
  ·have:=eJ g2 o;rcases bQ.mp hb with m |m
   ·exact PA.out X Y W w x0 x1 (.inl o) b m
   ·exact xo w x0 x1 (.inl ν) b m
  ·have c:=(sg (ht s X Y) W).2.mp ν;rcases bQ.mp hb with m |m
   ·refine PA.out X Y W w x0 x1 (.inr ?_) b m;rw[cm];have q:=hw' w;have:0<(g.2*ht s X Y-g.1*s.2*W)*h.2:=ν;have:=oH h2 (by rw[dS];exact this);lia
   ·exact xo w x0 x1 (.inr ν) b m
 ·by_cases k:0<g.1
  ·obtain⟨b,m,z⟩:=PA.low k X Y W w x0 x1 e;exact⟨b,dC _ m,z⟩
  ·obtain⟨b,m,z⟩:=zero w x0 x1 (by rw[e,show g.1=0 by lia];simp);exact⟨b,bD _ m,z⟩
 ·have le:(g.2*ht s X Y-g.1*s.2*W)*h.2<=h.1*s.2*(W*g.2)->ht s X Y*G.2<=G.1*s.2*W:=λk=>by
   apply fP.mp;intro z;have:=(sg (ht s X Y) W).2.mp ν;lia
  rcases bQ.mp hb with m |m
  ·obtain⟨a,c,d⟩:=PA.rin b m X Y W w i;refine⟨a,c,le ?_⟩;rw[cm] at d;have p1:(g.2*ht s X Y-g.1*s.2*W)*h.2<=0:=dP ν (aK h2);have p2:0<=h.1*s.2*(W*g.2):=bT (bT (aK hh) (aK s2)) (bT w (aK g2));lia
  ·obtain⟨b0,m0,l⟩:=lf.bw m;obtain⟨⟨a1,a2⟩,c,d⟩:=PB.rin b0 m0 _ _ _ (bT w (aK g2)) ((l.pd.closed X Y W).mp i);rw[t4] at c d;have gw0:=gw w;refine⟨⟨?_,dQ a2 g2⟩,?_,le d⟩
   ·apply fP.mp;intro z;have:=fU z g2;lia
   ·apply fP.mp;intro z;have:=eJ g2 z;lia
 ·rw[XZ,lf.area,PA.area,PB.area];have n1:=jZ g2;have n2:=jZ h2;have n3:=jZ G2;have w':=Φ (λx:Int=>(x:Rat)) wo;simp only[gY,oN] at w'⊢;have e2:((2:Int):Rat)=2:=rfl;rw[e2];grind
end
theorem Ci{L:ω Lb}{X Y W:Int}:∃n0:Int,0<n0/\∀n,n0<=n->∀b∈L,¬gu b.1 b.2.1 X Y W->¬gu b.1 b.2.1 (n*X) (n*Y+1) (n*W):=by
 have one:∀b:Lb,∃n0:Int,0<n0/\∀n,n0<=n->¬gu b.1 b.2.1 X Y W->¬gu b.1 b.2.1 (n*X) (n*Y+1) (n*W):=λb=>by
  by_cases k:gu b.1 b.2.1 X Y W
  ·exact⟨1,η,λn _ z=>Ψ k z⟩
  ·have:∃u v,az b.2.1 u v/\fe b.1 X Y W u v<0:=bK λz=>k λu v c=>fP.mp λq=>z ⟨u,v,c,q⟩;obtain⟨u,v,c,q⟩:=this;refine⟨1+((b.1*(v.1-u.1)).natAbs:Int),ν,λn hn _ z=>?_⟩;have:=z u v c;have e:fe b.1 (n*X) (n*Y+1) (n*W) u v=n*fe b.1 X Y W u v+b.1*(v.1-u.1):=(by rw[xE,xE];grind);rw[e] at this;have:=dY (show fe b.1 X Y W u v<=-1 by lia) (show 0<=n by lia);lia
 induction L with
 |nil=>exact⟨1,η,λn _ b hb=>Ψ hb eM⟩
 |cons b L ih=>
  obtain⟨n1,p1,k1⟩:=one b;obtain⟨n2,p2,k2⟩:=ih;refine⟨n1+n2,ν,λn hn x hx=>?_⟩;rcases aO.mp hx with rfl |hx
  ·exact k1 n ν
  ·exact k2 n ν x hx
section
variable{s h:Pt}{bs:ω Bt}
theorem ZA{X Y W:Int}:(cj χ X Y W b=1↔im b.1 b.2.1 X Y W)/\(cj χ X Y W b≠-1↔gu b.1 b.2.1 X Y W):=by
 rw[ut];rcases ME (sh:=b.1) (cs:=b.2.1) (X:=X) (Y:=Y) (W:=W) with⟨e,k⟩ | ⟨e,k,n⟩ | ⟨e,k,n⟩
 ·rw[e];exact⟨⟨λ_=>k,λ_=>rfl⟩,⟨λ_=>im.c k,λ_=>by decide⟩⟩
 ·rw[e];exact⟨⟨λz=>Ψ z η,λz=>Ψ z n⟩,⟨λ_=>k,λ_=>by decide⟩⟩
 ·rw[e];exact⟨⟨λz=>Ψ z η,λz=>Ψ z n⟩,⟨λz=>Ψ rfl z,λz=>Ψ z k⟩⟩
theorem Sv(s2:0<s.2)(h1:0<h.1)(t7:∀b∈bs,c7 b.2.1 b.2.2.1)(U:ko h bs us)(P:j4 s h (bs.map g8)){X Y W:Int}(w:0<W)(x0:0<X)(x1:X<W)(y0:0<Y)(y1:h.2*Y<h.1*W)
  (nz:∀c∈mG us,cj χ X Y W c≠0):cnt (cj χ X Y W) (mG us)=1:=by
 have h2:=P.h2;have wp:0<W*h.2:=aJ w h2;obtain⟨A,hA⟩:∃A,A=h.2*ht s X Y:=⟨_,rfl⟩;obtain⟨B,hB⟩:∃B,B=h.1*s.2*W:=⟨_,rfl⟩;have B0:0<B:=by rw[hB];exact aJ (aJ h1 s2) w
 have t4:∀L,ht s (X*h.2) (Y*h.2+L*h.1*W)=A+L*B:=λL=>by rw[hA,hB];unfold ht;grind
 have top:∀T:Int,(T*h.2<h.1*s.2*(W*h.2)↔T<B)/\(h.1*s.2*(W*h.2)<T*h.2↔B<T):=λT=>by
  have e:h.1*s.2*(W*h.2)=h.2*B:=by rw[hB];grind
  rw[e,dS T];exact⟨tE h2,tE h2⟩
 have band:∀L:Int,L*(h.1*(W*h.2))<h.2*(Y*h.2+L*h.1*W)/\h.2*(Y*h.2+L*h.1*W)<(L+1)*(h.1*(W*h.2)):=λL=>by
  have p1:=aJ h2 (aJ y0 h2);have p2:=lR y1 h2;have e1:h.2*(Y*h.2+L*h.1*W)=h.2*(h.2*Y)+L*(h.1*(W*h.2)):=ε
  have e2:(L+1)*(h.1*(W*h.2))=h.2*(h.1*W)+L*(h.1*(W*h.2)):=ε
  have e3:h.2*(Y*h.2)=h.2*(h.2*Y):=ε
  rw[e1,e2];lia
 have X0:=aJ x0 h2;have X1:=iF x1 h2;obtain⟨R,Ls,eR,R0,R1⟩:∃R Ls:Int,A+Ls*B=R/\0<=R/\R<B:=⟨A % B,-(A / B),by
  have:=BB A B;rw[MZ,dS (A / B)];lia,AH _ ν,vN _ B0⟩
 have off:∀L,L≠Ls->0<R->A+L*B<0\/B<A+L*B:=λL hL Rp=>by
  have e:A+L*B=R+(L-Ls)*B:=by rw[<-eR];grind
  rw[e];rcases GO hL with k |k
  ·have:=aX (show L-Ls<=-1 by lia) (aK B0);left;lia
  ·have:=aX (show 1<=L-Ls by lia) (aK B0);right;lia
 have om:∀{b:Bt}{L0:Int}{ls:ω Lb},wb h b.2.1 b.2.2.1 b.2.2.2 L0 ls->∀(j:Nat)(c:Lb),ls[j]?=ψ c->cj χ X Y W c=cj χ (X*h.2) (Y*h.2+(L0+j)*h.1*W) (W*h.2) (g8 b):=λa j c hc=>by
  rw[ut,ut];exact L4 w y0 y1 (a.each j c hc)
 have M':∀b∈bs,cj χ (X*h.2) (Y*h.2+Ls*h.1*W) (W*h.2) (g8 b)≠0:=by
  have key:∀{bs:ω Bt}{us:ω (Int×ω Lb)},ko h bs us->(∀b∈bs,c7 b.2.1 b.2.2.1)->(∀c∈mG us,cj χ X Y W c≠0)->∀b∈bs,cj χ (X*h.2) (Y*h.2+Ls*h.1*W) (W*h.2) (g8 b)≠0:=by
   intro bs us U
   induction U with
   |nil=>intro _ _ b hb;cases hb
   | @cons b bs L0 ls us a _ ih=>
    intro pc nz x hx z;rcases aO.mp hx with rfl |hx
    ·obtain⟨i,c,e1,hc⟩:=Bv h1 (pc x δ) a wp (ZA.2.mp (by rw[z];decide)) (band Ls).1 (band Ls).2;exact nz c (dC _ (eY hc)) (by rw[om a i c hc,<-e1];exact z)
    ·exact ih (λy hy=>pc y (by simp[hy])) (λc hc=>nz c (bD _ hc)) x hx z
  exact key U t7 nz
 have Rp:0<R:=by
  rcases iM R0 with k |k
  ·exact k
  ·exfalso;obtain⟨b,hb,z⟩:=P.low h1 _ _ _ wp X0 X1 (by rw[t4,eR];exact k.symm);obtain⟨b',m,rfl⟩:=bG.mp hb;exact M' b' m z
 have one:=P.one _ _ _ wp X0 X1 (by rw[t4,eR];exact Rp) (by rw[t4,eR];exact(top R).1.mpr R1) (λb hb=>by obtain⟨b',m,rfl⟩:=bG.mp hb;exact M' b' m);rw[<-one];have outs:∀L,L≠Ls->∀b∈bs,cj χ (X*h.2) (Y*h.2+L*h.1*W) (W*h.2) (g8 b) = -1:=λL hL b hb=>by
  refine P.out _ _ _ wp X0 X1 ?_ _ (cT hb);rw[t4];rcases off L hL Rp with k |k
  ·exact .inl k
  ·exact .inr ((top _).2.mpr k)
 have key:∀{bs:ω Bt}{us:ω (Int×ω Lb)},ko h bs us->(∀b∈bs,c7 b.2.1 b.2.2.1)->(∀L,L≠Ls->∀b∈bs,cj χ (X*h.2) (Y*h.2+L*h.1*W) (W*h.2) (g8 b) = -1)->cnt (cj χ X Y W) (mG us)=cnt (cj χ (X*h.2) (Y*h.2+Ls*h.1*W) (W*h.2)) (bs.map g8):=by
  intro bs us U
  induction U with
  |nil=>intro _ _;rfl
  | @cons b bs L0 ls us a _ ih=>
   intro pc oo;have i:=ih (λy hy=>pc y (by simp[hy])) λL hL y hy=>oo L hL y (by simp[hy]);show K37.cnt _ (ls++mG us)=(if _=1 then 1 else 0)+K37.cnt _ (bs.map g8);rw[K37.cnt_append,i];congr 1;by_cases z:cj χ (X*h.2) (Y*h.2+Ls*h.1*W) (W*h.2) (g8 b)=1
   ·rw[Ω z];obtain⟨j,c,e1,hc⟩:=Bv h1 (pc b δ) a wp (im.c (ZA.1.mp z)) (band Ls).1 (band Ls).2;refine YE hc (by rw[om a j c hc,<-e1];exact z) λk d hk hd=>?_;rw[om a k d hd,oo (L0+k) ν b δ];decide
   ·rw[υ z];refine cnt_none λc hc=>?_;obtain⟨j,hj,e⟩:=eB hc;rw[om a j c (by rw[aG hj,e])];by_cases q:(L0+j:Int)=Ls
    ·rw[q];exact z
    ·rw[oo _ q b δ];decide
 exact key U t7 outs
theorem Wn(s2:0<s.2)(h1:0<h.1)(t7:∀b∈bs,c7 b.2.1 b.2.2.1)(U:ko h bs us)(P:j4 s h (bs.map g8)):j4 (0,1) h (mG us):=by
 have h2:=P.h2;have h01:∀X Y:Int,ht (0,1) X Y=Y:=λX Y=>by unfold ht;dsimp only;lia
 have h1w:∀W:Int,h.1*(0,1).2*W=h.1*W:=λW=>by dsimp only;grind
 have each:∀c∈mG us,∃b∈bs,∃L,ud h b.2.1 b.2.2.1 b.2.2.2 L c:=by
  clear P t7
  induction U with
  |nil=>intro c hc;cases hc
  | @cons b bs L0 ls us a _ ih=>
   intro c hc;rcases bQ.mp (show c∈ls++mG us from hc) with m |m
   ·obtain⟨j,hj,e⟩:=eB m;exact⟨b,δ,_,a.each j c (by rw[aG hj,e])⟩
   ·obtain⟨x,hx,k⟩:=ih c m;exact⟨x,by simp[hx],k⟩
 have inn:∀c∈mG us,∀X Y W,0<=W->gu c.1 c.2.1 X Y W->(0<=X/\X<=W)/\0<=Y/\h.2*Y<=h.1*W:=λc hc X Y W w i=>by
  obtain⟨b,hb,L,lf⟩:=each c hc;obtain⟨k,y0,y1⟩:=(lf.closed X Y W w).mp i;obtain⟨⟨a1,a2⟩,_⟩:=P.rin (g8 b) (cT hb) _ _ _ (bT w (aK h2)) k;refine⟨⟨?_,dQ a2 h2⟩,y0,y1⟩;apply fP.mp;intro z;have:=fU z h2;lia
 refine⟨P.h1,h2,λX Y W w x0 x1 y0 y1 nz=>?_,λX Y W w x0 x1 o c hc=>?_,λ_ X Y W w x0 x1 e=>?_,λc hc X Y W w i=>?_,?_⟩
 ·rw[h01] at y0 y1;rw[h1w,dS Y] at y1;exact Sv s2 h1 t7 U P w x0 x1 y0 y1 nz
 ·rw[h01,h1w,dS Y] at o;apply bK;intro z;obtain⟨_,k1,k2⟩:=inn c hc X Y W (aK w) (ZA.2.mp z);lia
 ·rw[h01] at e;subst e;obtain⟨n,n0,no⟩:=Ci (L:=mG us) (X:=X) (Y:=0) (W:=W);have no:=no (n+h.2) ν;have m0:0<n+h.2:=ν
  generalize hm:n+h.2=m at *;have top:h.2*1<h.1*(m*W):=by
   have a1:=dY (show 1<=W by lia) (aK m0);have a2:=aX (show 1<=h.1 by lia) (show 0<=m*W by lia);lia
  have ex:∃c∈mG us,gu c.1 c.2.1 (m*X) (m*0+1) (m*W):=by
   apply bK;intro z;have vz:∀c∈mG us,cj χ (m*X) 1 (m*W) c = -1:=λc hc=>bK λq=>z ⟨c,hc,by rw[mQ,Int.zero_add];exact ZA.2.mp q⟩;have:=Sv s2 h1 t7 U P (X:=m*X) (Y:=1) (W:=m*W) (aJ m0 w) (aJ m0 x0) (lR x1 m0) η top (λc hc=>by rw[vz c hc];decide);rw[YF vz] at this;cases this
  obtain⟨c,hc,i⟩:=ex;have ic:gu c.1 c.2.1 X 0 W:=bK λq=>no c hc q i;refine⟨c,hc,?_⟩;rw[ut];obtain⟨b,hb,L,lf⟩:=each c hc;exact JS ic λo=>by have:=((lf.opened X 0 W w).mp o).2.1;lia
 ·rw[h01,h1w,dS Y];exact inn c hc X Y W w i
 ·rw[show jc (mG us)=jc (bs.map g8) from ?_,P.area];clear P t7 each inn
  induction U with
  |nil=>rfl
  | @cons b bs L0 ls us a _ ih=>
   show jc (ls++mG us)=m8 (g8 b)+jc (bs.map g8);rw[XZ,ih,a.area];rfl
end
end K38
namespace K37
open K36 K34 K33
structure UpOk(h:Pt)(L:List Lb):Prop where
 h2:0<h.2
 cop:cO h.1 h.2=1
 b1:BL 10 h.1
 b2:BL 10 h.2
 lb:∀b∈L,s_ b
 len:L.length<=640
 inb:∀c∈L,∀z∈c.2.1,(0<=z.1/\z.1<=c.1)/\0<=z.2/\h.2*z.2<=h.1*c.1
 ar:jc L=((2*h.1:Int):Rat) / (h.2:Rat)
def XT:FD:=λds Q=>∃(h:Pt)(L:ω Lb),ds=[.tup [pt h,.lst (L.map cn)],pt h]/\UpOk h L/\Q (.bl ζ)
def Ha:τ XT (AY PQ XN PY XS) ["_law_found","_law_height","_law_bit","_law_total"]:=by
 rintro ds Q ⟨h,L,rfl,l,q⟩;rw[cK 2 rfl];unfold AY;simp only[gQ,Hr,aR,bO,aW,bF];have lb7:=l.lb;have inb:=λ{c:Lb} (hc:c∈L) {z:Pt} (hz:z∈c.2.1)=>l.inb c hc z hz;have ar:=l.ar;have ll:=l.len;have ep:js (fo 5) [.int h.1,.int h.2] [.int h.1,.int h.2]=ψ ζ:=tT _ λx hx=>by
  simp only[aO,eM,or_false] at hx;rcases hx with rfl |rfl <;> exact JI 4 _
 refine eO [ae (.tup [pt h,.lst (L.map cn)]),ae (pt h),ξ,ξ] (λK hK=>?_) ?_
 ·generalize hL:D.lst (L.map cn)=LD at *;nofun;simp only[ep,fZ,aS,if_false];refine⟨h,rfl,⟨l.h2,l.cop⟩,?_⟩;nofun;exact hK
 refine eO [ae (.tup [pt h,.lst (L.map cn)]),ae (pt h),ξ,ξ] (λK hK=>?_) ?_
 ·generalize hL:D.lst (L.map cn)=LD at *;nofun;refine⟨L,by rw[hL],lb7,?_⟩;nofun;exact hK
 refine dI (λa=>∃u,a=[ae (.tup [pt h,.lst (L.map cn)]),ae (pt h),u,ξ]) (λK hK=>?_) ?_
 ·simp only[lC,riL,r2,aQ,rC,iT,aB];refine jG (λys a=>∃(dn td:ω Lb)(u:Option L2.R2.S),L=dn++td/\ys=td.map cn/\a=[ae (.tup [pt h,.lst (L.map cn)]),ae (pt h),u,ξ]) ?_ ?_ _ _ ⟨[],L,ξ,rfl,rfl,rfl⟩
  ·rintro y ys a ⟨dn,td,u,ec,ey,rfl⟩ F hr qk hn _;cases td with
   |nil=>cases ey
   |cons b td=>
    cases ey;have mb:b∈L:=(by rw[ec];simp);obtain⟨ip,bs',bz,lz,mf⟩:=lb7 b mb;generalize hL:D.lst (L.map cn)=LD;unfold wB cn;nofun;refine⟨b.1,b.2.1,(0,1),h,rfl,⟨bs'.mono,λz hz=>⟨(bz z hz).1.mono,(bz z hz).2.mono⟩,BL.const η,BL.const η,l.b1.mono,l.b2.mono⟩,ν,λz hz=>?_,?_⟩
    ·obtain⟨x,y0,y1⟩:=inb mb hz;refine⟨x,by dsimp only;lia,?_⟩;dsimp only;have e1:(z.2*1-z.1*0)*h.2=h.2*z.2:=ε;have e2:h.1*1*b.1=h.1*b.1:=ε;rw[e1,e2];exact y1
    ·nofun;exact hn _ ⟨dn++[b],td,ae (.tup [pc b.1 b.2.1,ju b.2.2]),by rw[ec];simp,rfl,by rw[hL]⟩
  ·rintro a ⟨dn,td,u,ec,ey,rfl⟩;exact hK _ ⟨u,rfl⟩
 rintro a ⟨u,rfl⟩;refine dI (λa=>∃N M,((BL 6500000 N/\BL 6500000 M)/\0<M/\(N:Rat) / (M:Rat)=jc L)/\a=[ae (.tup [pt h,.lst (L.map cn)]),ae (pt h),u,ae (.tup [.int N,.int M])]) (λK hK=>?_) ?_
 ·generalize hL:D.lst (L.map cn)=LD at *;nofun;exact⟨L,by rw[hL],⟨ll,lb7⟩,λN M b e=>hK _ ⟨N,M,⟨b,e⟩,rfl⟩⟩
 rintro a ⟨N,M,⟨⟨bN,bM⟩,mp,eq⟩,rfl⟩;have fin:N*h.2=2*h.1*M:=by
  rw[ar] at eq;have n1:=jZ mp;have n2:=jZ l.h2;apply AL.mp;simp only[gY] at eq⊢;grind
 generalize hL:D.lst (L.map cn)=LD;nofun;have b2:BL 4 2:=BL.const η;refine⟨bN.mulOk l.b2,b2.mulOk l.b1,(b2.mul l.b1).mulOk bM,?_⟩;rw[fin];simp only[decide_true];exact q
end K37
namespace K38
open K37 K36 K34 K33
theorem QV{α β:Type}(R:En->Prop)(g9:α->D)(dec:α×β->D)(Ok:α×β->Prop):∀(src:ω α){Q:ω D->Prop},(∀a∈src,∀c,R c->∀K:En->D->Prop,(∀c1 b,R c1->Ok (a,b)->K c1 (dec (a,b)))->g (g9 a) c λc1=>te c1 λd=>K c1 d) ->
  ∀(c:En)(acc:ω D),R c->(∀bs:ω (α×β),bs.map (·.1)=src->(∀b∈bs,Ok b)->Q (acc++bs.map dec))->yF g te (src.map g9) c acc Q
 | [],Q,_,c,acc,_,q=>by
  show Q acc;simpa using q [] rfl δ
 |a::src,Q,step,c,acc,h,q=>by
  show g (g9 a) c λc'=>te c' λd=>yF g te (src.map g9) c' (acc++[d]) Q;refine step a dU c h (λc1 d=>yF g te (src.map g9) c1 (acc++[d]) Q) λc1 b h1 ok=>?_;refine QV R g9 dec Ok src (λb hb=>step b (bH _ hb)) c1 _ h1 λbs e ho=>?_;have:=q ((a,b)::bs) (by rw[aR,e]) (λx hx=>by rcases aO.mp hx with rfl |hx;exact ok;exact ho x hx);simpa using this
def Jc(h:b∣a*d)(c:cO a b=1):b∣d:=by
 have h':=oS.mpr h;rw[iZ] at h';exact oS.mp (sL (show Nat.Coprime b.natAbs a.natAbs by rw[Nat.coprime_comm];exact c) h')
theorem dw.len(l:dw g B B'):B'.length=B.length:=by
 induction l with
 |nil=>rfl
 |cons _ _ i=>simp[i]
structure ga(n:Int)(g:Pt):Prop where
 h1:0<=g.1
 h2:0<g.2
 cop:cO g.1 g.2=1
 half:∃m,2*g.1=m*g.2
 le:g.1<=n*g.2
def ga.bl(H:ga n g)(hn:n<=30):g.2<=2/\BL 6 g.1/\BL 2 g.2:=by
 obtain⟨m,e⟩:=H.half;have c:=H.cop;have h1:=H.h1;have h2:=H.h2;have d:g.2∣2:=by
  have d1:g.2∣2*g.1:=⟨m,by rw[e,dS]⟩;rw[dS] at d1;exact Jc d1 c
 have g2:g.2<=2:=xH η d;have:=H.le;have:g.1<=60:=by
  have:=aX hn (aK h2);lia
 exact⟨g2,BL.of_lt (m:=6) ν ν,BL.of_lt (m:=2) ν ν⟩
def ga.zero:ga 0 (0,1):=⟨η,η,η,⟨0,η⟩,η⟩
def ga.add(a:ga n g)(b:ga k h)(l:me (g.1*h.2+h.1*g.2) (g.2*h.2) G.1 G.2):ga (n+k) G:=by
 have kp:=aJ a.h2 b.h2;have w:=l.worth;have p:=l.pos;refine⟨?_,p,l.cop,?_,?_⟩
 ·have q:0<=(g.1*h.2+h.1*g.2)*G.2:=bT (vM (bT a.h1 (aK b.h2)) (bT b.h1 (aK a.h2))) (aK p);rw[<-w] at q;apply fP.mp;intro k;have:=fU k kp;lia
 ·obtain⟨m1,e1⟩:=a.half;obtain⟨m2,e2⟩:=b.half;refine⟨m1+m2,iK (a:=g.2*h.2) ν ?_⟩;have l1:2*G.1*(g.2*h.2)=2*(G.1*(g.2*h.2)):=ε
  rw[l1,w];have l2:2*((g.1*h.2+h.1*g.2)*G.2)=(2*g.1*h.2+2*h.1*g.2)*G.2:=ε
  rw[l2,e1,e2];grind
 ·have q:G.1*(g.2*h.2)<=(n+k)*G.2*(g.2*h.2):=by
   rw[w];have x1:=aX a.le (aK b.h2);have x2:=aX b.le (aK a.h2);have x3:=aX (QF x1 x2) (aK p);have e:(n*g.2*h.2+k*h.2*g.2)*G.2=(n+k)*G.2*(g.2*h.2):=ε;lia
  exact dQ q kp
def MC{a b c d:Int}(cop:cO a b=1)(b0:0<b)(d0:0<d)(e:a*d=c*b):a.natAbs<=c.natAbs/\b.natAbs<=d.natAbs:=by
 have d1:b∣a*d:=⟨c,by rw[e,dS]⟩;obtain⟨k,rfl⟩:b∣d:=Jc d1 cop;have k0:0<k:=oH b0 d0;have ec:c=a*k:=iK (a:=b) ν (by rw[<-e];grind);rw[ec,iZ,iZ];exact⟨kP _ ν,kP _ ν⟩
abbrev gm:=Int×Pt×ω Bt
def gl(x:gm):D:=.tup [.int x.1,pt x.2.1,.lst (x.2.2.map jr)]
structure BtM(b:Mv):Prop where
 mf:kn b
 bp:BL 210 b.2.1.1
 bq:BL 3 b.2.1.2
 bu:BL 210 b.2.2.1
 bv:BL 3 b.2.2.2
structure sv(s:Pt)(x:gm):Prop where
 ls:rh s
 h1:0<x.2.1.1
 ho:ga 6 x.2.1
 each:∀b∈x.2.2,b.1∈wX/\Gp s x.2.1 b.1 b.2.1 b.2.2.1/\BtM b.2.2.2
 way:x.2.2.map (·.1)∈VJ
def sv.fm{s:Pt}(B:sv s x):Fm s x.2.1:=by
 obtain⟨_,b1,b2⟩:=B.ho.bl η;exact⟨B.ls.ln,B.h1,b1.mono,B.ho.h2,b2.mono⟩
structure Sz8(b:Lb):Prop where
 ip:c7 b.1 b.2.1
 bs:BL 19 b.1
 bz:∀z∈b.2.1,BL 24 z.1/\BL 24 z.2
 len:b.2.1.length<=4
def sv.sz{s:Pt}(B:sv s x)(hb:b∈x.2.2):Sz8 (g8 b):=by
 obtain⟨hP,g,_⟩:=B.each b hb;have f:=B.fm;obtain⟨_,c1,c2⟩:=B.ho.bl η;have bS:BL 14 (s.2*x.2.1.2):=f.ls.bot.mul c2;have b1:BL 16 s.1:=by
  have e:s.2.natAbs<2 ^ 12:=f.ls.bot;have:=f.ls.pos;have:=B.ls.lo;have:=B.ls.hi;show s.1.natAbs<2 ^ 16;lia
 obtain⟨q1,q2,q3⟩:=Kf f.ep g (k:=19) (n:=24) ((BL.const (n:=5) (i:=24) η).mul bS) (λa ha=>by
  obtain⟨z,hz,rfl⟩:=bG.mp ha;obtain⟨⟨x0,x1⟩,y0,y1⟩:=SV _ hP z hz;have bx:=Tk x0 x1;have ro:=Tk y0 y1;exact⟨(bx.mul bS).mono,((bx.mul (b1.mul c2)).add (ro.mul (c1.mul f.ls.bot))).mono⟩)
 have l4:∀P∈wX,P.length<=4:=η
 exact⟨ZY f.ep g (OV f.sp f.hp (EV _ hP)),q1,q2,by rw[q3,aY];exact l4 _ hP⟩
def sv.pile{s:Pt}(B:sv s x):j4 s x.2.1 (x.2.2.map g8):=by
 have f:=B.fm;refine Ob f (λb hb=>⟨(B.each b hb).1,(B.each b hb).2.1⟩) B.way ?_;have key:∀l:ω Bt,(∀b∈l,b∈x.2.2)->jc (l.map g8)=((x.2.1.1*(l.map λb=>hV c6 b.1).sum:Int):Rat) / ((576*x.2.1.2:Int):Rat):=by
  intro l
  induction l with
  |nil=>intro _;show(0:Rat)=_;simp;grind
  |cons b l ih=>
   intro hl;show m8 (g8 b)+jc (l.map g8)=_;rw[ih λy hy=>hl y (bH _ hy),show m8 (g8 b)=_ from Uc f (B.each b (hl b δ)).2.1,aR,List.sum_cons,Int.mul_add,oN];grind
 have w:=Nh _ B.way;rw[dF] at w;rw[key _ λ_ h=>h,show(x.2.2.map λb=>hV c6 b.1).sum=1152 from w];have n2:=jZ f.h2;simp only[gY];rw[show((1152:Int):Rat)=1152 from rfl,show((576:Int):Rat)=576 from rfl,show((2:Int):Rat)=2 from rfl];grind
inductive oj(s:Pt):List gm->Pt->List Lb->Prop
 |nil:oj s [] (0,1) []
 |snoc {xs:List gm} {x:gm} {g G:Pt} {A B':List Lb}:oj s xs g A->sv s x->dw g (x.2.2.map g8) B'->me (g.1*x.2.1.2+x.2.1.1*g.2) (g.2*x.2.1.2) G.1 G.2->oj s (xs++[x]) G (A++B')
structure V'(b:Lb):Prop where
 ip:c7 b.1 b.2.1
 bs:BL 40 b.1
 bz:∀z∈b.2.1,BL 70 z.1/\BL 70 z.2
 len:b.2.1.length<=4
 mf:kn b.2.2
 bp:BL 220 b.2.2.2.1.1
 bq:BL 20 b.2.2.2.1.2
 bu:BL 220 b.2.2.2.2.1
 bv:BL 20 b.2.2.2.2.2
def Ur(z:Sz8 b)(m:BtM b.2.2)(g2:0<g.2)(b1:BL 6 g.1)(b2:BL 2 g.2)(l:j2 g b b'):V' b':=by
 obtain⟨s1,s2⟩:=l.pd.size z.bs z.bz b1 (b2.mono);have v0:=m.mf.v0;have q0:=m.mf.q0;have bg:BL 2 b.2.2.1:=by have:=m.mf.sg;exact BL.of_lt (m:=2) ν ν
 obtain⟨x1,x2⟩:=MC l.mf.cx l.mf.q0 q0 l.ms.x;obtain⟨y1,y2⟩:=MC l.mf.cy l.mf.v0 (aJ g2 v0) l.ms.y;exact⟨l.pd.ip,s1.mono,λz hz=>⟨(s2 z hz).1.mono,(s2 z hz).2.mono⟩,by rw[l.pd.len];exact z.len,l.mf,(m.bp.mono:BL 220 _).le x1,(m.bq.mono:BL 20 _).le x2,
  (((((bg.mul b1.neg).mul m.bv).add (m.bu.mul b2)).mono:BL 220 _)).le y1,((b2.mul m.bv).mono:BL 20 _).le y2⟩
section
variable{s G:Pt}{xs:ω gm}
theorem oj.ok(S':oj s xs G A)(s2:0<s.2):ga (6*xs.length) G/\(xs.length<=5->j4 s G A/\(∀b∈A,V' b)/\A.length<=2*xs.length)/\(xs≠[]->0<G.1):=by
 induction S' with
 |nil=>exact⟨ga.zero,λ_=>⟨Cu,δ,δ⟩,λh=>Ψ rfl h⟩
 | @snoc xs x g G A B' _ bx lf lo ih=>
  obtain⟨h0,p0,_⟩:=ih;have hG:=h0.add bx.ho lo;have e:6*(((xs++[x]).length:Nat):Int)=6*(xs.length:Int)+6:=by rw[bR];simp;lia
  refine⟨by rw[e];exact hG,λl5=>?_,λ_=>?_⟩
  ·have l5':xs.length<=4:=(by rw[bR] at l5;simp at l5;lia);obtain⟨p,sb,la⟩:=p0 ν;obtain⟨_,c1,c2⟩:=h0.bl ν;refine⟨Ct s2 p bx.pile bx.h1 lf lo,λb hb=>?_,?_⟩
   ·rcases bQ.mp hb with k |k
    ·exact sb b k
    ·obtain⟨b0,m0,l⟩:=lf.bw k;obtain⟨y,my,rfl⟩:=bG.mp m0;exact Ur (bx.sz my) (bx.each y my).2.2 h0.h2 c1 c2 l
   ·have ll:=lf.len;have:=(vH _ bx.way).1;rw[aY] at ll this;simp only[bR,bP,dG];lia
  ·have kp:=aJ h0.h2 bx.ho.h2;have q:0<(g.1*x.2.1.2+x.2.1.1*g.2)*G.2:=aJ (by have:=bT h0.h1 (aK bx.ho.h2);have:=aJ bx.h1 h0.h2;lia) lo.pos;rw[<-lo.worth] at q;exact oH kp (by rw[dS];exact q)
abbrev lG(xs:ω gm):ω Lb:=xs.flatMap λx=>x.2.2.map g8
theorem oj.homes(S':oj s xs G A)(X Y W:Int):cnt (cj ζ X Y W) A=cnt (cj ζ X Y W) (lG xs)/\((∀b∈lG xs,cj ζ X Y W b≠0)->∀b∈A,cj ζ X Y W b≠0):=by
 induction S' with
 |nil=>exact⟨rfl,λ_ b hb=>Ψ hb eM⟩
 | @snoc xs x g G A B' st bx lf lo ih=>
  have g2:0<g.2:=by
   cases st with
   |nil=>decide
   |snoc _ _ _ l=>exact l.pos
  have eh:∀b b',b∈x.2.2.map g8->j2 g b b'->cj ζ X Y W b'=cj ζ X Y W b:=λb b' m l=>by
   obtain⟨y,my,rfl⟩:=bG.mp m;exact WM g2 l (bx.each y my).2.2.mf X Y W
  have eb:lG (xs++[x])=lG xs++x.2.2.map g8:=by unfold lG;rw[kX];simp
  rw[eb];refine⟨by rw[K37.cnt_append,K37.cnt_append,ih.1,lf.cnt eh],λnz b hb=>?_⟩;rcases bQ.mp hb with k |k
  ·exact ih.2 (λy hy=>nz y (dC _ hy)) b k
  ·obtain⟨b0,m0,l⟩:=lf.bw k;rw[eh b0 b m0 l];exact nz b0 (bD _ m0)
end
theorem By:∀ps:ω (Lb×Lb),(∀p∈ps,j2 g p.1 p.2)->dw g (ps.map (·.1)) (ps.map (·.2))
 | [],_=>.nil
 |p::ps,h=>.cons (h p δ) (By ps λq hq=>h q (bH _ hq))
structure Lf8(b:Lb):Prop where
 ip:c7 b.1 b.2.1
 bs:BL 1500 b.1
 bz:∀z∈b.2.1,BL 3400 z.1/\BL 3400 z.2
 len:b.2.1.length<=14
 mf:kn b.2.2
 bp:BL 300 b.2.2.2.1.1
 bq:BL 300 b.2.2.2.1.2
 bu:BL 300 b.2.2.2.2.1
 bv:BL 300 b.2.2.2.2.2
def WL(g2:0<g.2)(b1:BL 6 g.1)(b2:BL 2 g.2)(hL:∀b∈L,Lf8 b)(q:∀L',dw g L L'->Q (L'.map cn)):
  yF (cY 0) (cH zB (aD (bV 0) (aD (bV 1) aV))) (L.map cn) [ξ,ae (pt g)] [] Q:=by
 refine QV (λc=>∃a,c=[a,ae (pt g)]) cn (λp:Lb×Lb=>cn p.2) (λp=>j2 g p.1 p.2) L ?_ _ [] ⟨ξ,rfl⟩ λps e ok=>?_
 ·rintro b mb c ⟨a,rfl⟩ K hK;obtain⟨ip,bs,bz,len,mf,p1,p2,p3,p4⟩:=hL b mb;generalize hB:cn b=BD;simp only[cY,cH,aD,aV,bV,aB,aE,aM];refine⟨g,b.1,b.2.1,b.2.2,by rw[<-hB];rfl,⟨g2,b1.mono,b2.mono⟩,⟨ip,bs,bz,len⟩,⟨mf,p1,p2,p3,p4⟩,λcf zs m' pd ms mf'=>hK _ (cf,zs,m') ⟨ae BD,rfl⟩ ⟨pd,ms,mf'⟩⟩
 ·have:=q (ps.map (·.2)) (by rw[<-e];exact By ps ok);rw[bF]
  rwa [dF] at this
def IC:FD:=λds Q=>∃(s:Pt)(c:Int)(xs:ω gm),ds=[.lst (xs.map gl)]/\(xs≠[]/\xs.length<=5)/\(∀x∈xs,x.1=c/\sv s x)/\∀G A,oj s xs G A->Q (.tup [.int c,pt G,.lst (A.map cn)])
def Hf:τ IC (Dx zB qO) ["boxes","height","bits","box"]:=by
 rintro ds Q ⟨s,c,xs,rfl,⟨ne,l5⟩,hx,q⟩;obtain⟨x0,xr,ex⟩:∃x r,xs=x::r:=by
  cases xs with
  |nil=>exact Ψ rfl ne
  |cons x r=>exact⟨x,r,rfl⟩
 have s2:0<s.2:=(hx x0 (by rw[ex];simp)).2.ls.ln.pos;rw[cK 3 rfl];unfold Dx;simp only[gQ,Ea,aR,bO,aW,bF];generalize hX:D.lst (xs.map gl)=XD;refine eO [ae XD,ae (pt (0,1)),ξ,ξ] (λK hK=>?_) ?_
 ·nofun;exact hK
 refine eO [ae XD,ae (pt (0,1)),ψ (.own []),ξ] (λK hK=>?_) ?_
 ·nofun;exact hK
 refine dI (λa=>∃(G:Pt)(A:ω Lb)(u:Option L2.R2.S),oj s xs G A/\a=[ae XD,ae (pt G),ψ (.own (A.map cn)),u]) (λK hK=>?_) ?_
 ·rw[<-hX];simp only[lC,riL,bV,aB];rw[hX];refine jG (λys a=>∃(dn td:ω gm)(g:Pt)(A:ω Lb)(u:Option L2.R2.S),xs=dn++td/\ys=td.map gl/\oj s dn g A/\a=[ae XD,ae (pt g),ψ (.own (A.map cn)),u]) ?_ ?_ _ _ ⟨[],xs,(0,1),[],ξ,rfl,rfl,.nil,rfl⟩
  ·rintro y ys a ⟨dn,td,g,A,u,ec,ey,S',rfl⟩ F hr qk hn _;cases td with
   |nil=>cases ey
   |cons x td=>
    cases ey;have ld:dn.length<=4:=(by have:=Φ eW ec;simp at this;lia);have B:=(hx x (by rw[ec];simp)).2;obtain⟨h0,p0,_⟩:=S'.ok s2;obtain⟨_,sb,la⟩:=p0 ν;obtain⟨_,c1,c2⟩:=h0.bl ν;obtain⟨_,d1,d2⟩:=B.ho.bl η;have lw:=(vH _ B.way).1;rw[aY] at lw;have em:x.2.2.map jr=(x.2.2.map g8).map cn:=(by rw[dF];rfl);unfold NP;simp only[cY,aM,aP];refine dI (λa=>∃B',dw g (x.2.2.map g8) B'/\a=[ae XD,ae (pt g),ψ (.own ((A++B').map cn)),ae (gl x)]) (λK2 fi=>?_) ?_
    ·unfold gl at fi⊢;simp only[DQ,qL,riL,r2,aQ,rC,yG,zQ,QT,VF,aR,bO,aW,bF,aB,aE,aM,aP];rw[em];refine⟨mX θ,WL h0.h2 c1 c2 (λb hb=>?_) λL' lf=>?_⟩
     ·obtain⟨b',mb,rfl⟩:=bG.mp hb;obtain⟨ip,bs,bz,len⟩:=B.sz mb;obtain⟨mf,q1,q2,q3,q4⟩:=(B.each b' mb).2.2;exact⟨ip,bs.mono,λz hz=>⟨(bz z hz).1.mono,(bz z hz).2.mono⟩,ν,mf,q1.mono,q2.mono,q3.mono,q4.mono⟩
     ·have:=lf.len;refine⟨mX (by simp at *;lia),?_⟩;rw[<-cI,<-em];exact fi _ ⟨L',lf,rfl⟩
    rintro a ⟨B',lf,rfl⟩;unfold gl;simp only[eI,cH,aD,aV,r2,bV,aQ,rC,iT,aB,aE,aM,aP];refine⟨g.1,g.2,x.2.1.1,x.2.1.2,rfl,⟨h0.h2,B.ho.h2⟩,⟨c1.mono,c2.mono,d1.mono,d2.mono⟩,λp q' l=>?_⟩;exact hn _ ⟨dn++[x],td,(p,q'),A++B',ae (.tup [.int x.1,pt x.2.1,.lst (x.2.2.map jr)]),by rw[ec];simp,rfl,.snoc S' B lf l,rfl⟩
  ·rintro a ⟨dn,td,g,A,u,ec,ey,S',rfl⟩;have:td=[]:=(by simpa using ey.symm);subst this;rw[eH] at ec;subst ec;exact hK _ ⟨g,A,u,S',rfl⟩
 rintro a ⟨G,A,u,S',rfl⟩;have c0:=(hx x0 (by rw[ex];simp)).1;rw[<-hX,ex];unfold gl;simp only[sX,L2.R2.S.fz,fM,jH,aD,aV,r2,bV,aQ,rC,Av,nU,aR,aB,aE,aM,aP,bP,dG];refine⟨sz3,?_⟩;rw[c0];exact q G A S'
abbrev kx:gm->Int:=λx=>x.1
def qm(xs:ω gm):ω (Int×ω D):=xs.foldl (λm x=>putL m x.1 (gl x)) []
def CY(xs:ω gm)(x:gm):qm (xs++[x])=putL (qm xs) x.1 (gl x):=by unfold qm;rw[wP];rfl
structure KvB(xs:List gm):Prop where
 sz:(qm xs).length<=xs.length/\∀p∈qm xs,p.2.length<=xs.length
 nd:((qm xs).map (·.1)).Nodup
 mem:∀c,c∈(qm xs).map (·.1)↔∃x∈xs,x.1=c
 om:∀c,AO (qm xs) c=(kw kx xs c).map gl
def Qh(xs:ω gm):KvB xs:=by
 refine Zo.snoc_ind (P:=KvB) ?_ ?_ xs
 ·exact⟨⟨bU _,λp h=>by cases h⟩,QJ,λc=>⟨λh=>(by cases h),λ⟨e,h,_⟩=>(by cases h)⟩,λc=>rfl⟩
 ·rintro E e ⟨⟨h1,h2⟩,h3,h4,h5⟩;refine⟨by rw[CY,bR];exact ZQ _ _ _ _ h1 h2,?_,λc=>?_,λc=>?_⟩
  ·rw[CY,CV];split
   ·exact h3
   ·rename_i n;exact jQ.mpr ⟨h3,nR _ _,λa ha b hb e'=>n (by rw[cJ.mp hb] at e';exact e'▸ha)⟩
  ·have eq:(∃x∈E++[e],x.1=c)↔(∃x∈E,x.1=c)\/e.1=c:=(by simp[bQ,or_and_right,exists_or]);rw[eq,<-h4 c,CY,CV];split
   ·rename_i m;exact⟨.inl,λh=>h.elim id λh=>h▸m⟩
   ·rw[bQ,cJ];exact⟨λh=>h.imp id Eq.symm,λh=>h.imp id Eq.symm⟩
  ·rw[CY,SH,h5 c,kw,kw,lS,cI];by_cases hc:e.1=c
   ·rw[Ω hc];simp[kx,hc]
   ·rw[υ hc];simp[kx,hc]
abbrev q8:=Int×Pt×ω Lb
def ww(x:q8):D:=.tup [.int x.1,pt x.2.1,.lst (x.2.2.map cn)]
structure uc(fs:List Pt)(xs:List gm)(gs:List q8):Prop where
 nd:(gs.map (·.1)).Nodup
 mem:∀c,c∈gs.map (·.1)↔∃x∈xs,x.1=c
 each:∀g∈gs,∃s,rh s/\oj s (kw kx xs g.1) g.2.1 g.2.2
structure t_(fs:List Pt)(x:gm):Prop where
 p0:0<=x.1
 ex:∃s,fs[x.1.toNat]?=ψ s/\sv s x
def yC:FD:=λds Q=>∃(fs:ω Pt)(xs:ω gm),ds=[.lst (xs.map gl)]/\xs.length<=5/\(∀x∈xs,t_ fs x)/\∀gs,uc fs xs gs->Q (.lst (gs.map ww))
def ZP:τ yC (TL IC) ["boxes","groups","box"]:=by
 rintro ds Q ⟨fs,xs,rfl,l5,hx,q⟩;rw[cK 2 rfl];unfold TL;simp only[gQ,Hr,aR,bO,aW,bF];refine eO [ae (.lst (xs.map gl)),ψ (.dcl (qm [])),ξ] (λK hK=>?_) ?_
 ·nofun;exact hK
 refine dI (λb=>∃u,b=[ae (.lst (xs.map gl)),ψ (.dcl (qm xs)),u]) (λK hK=>?_) ?_
 ·simp only[lC,riL,bV,aB];refine jG (λys b=>∃(dn td:ω gm)(u:Option L2.R2.S),xs=dn++td/\ys=td.map gl/\b=[ae (.lst (xs.map gl)),ψ (.dcl (qm dn)),u]) ?_ ?_ _ _ ⟨[],xs,ξ,rfl,rfl,rfl⟩
  ·rintro y ys b ⟨dn,td,u,ec,ey,rfl⟩ F hr qk hn _;cases td with
   |nil=>cases ey
   |cons x td=>
    cases ey;have ld:dn.length<=4:=(by have:=Φ eW ec;simp at this;lia);obtain⟨⟨k1,k2⟩,_⟩:=Qh dn;unfold GI;have eX:gl x = .tup [.int x.1,pt x.2.1,.lst (x.2.2.map jr)]:=rfl;simp only[cY,Jt,r2,bV,aQ,rC,eX,nU,aB,aE,aM,aP];refine⟨mX ν,λp hp=>mX (by have:=k2 p hp;lia),hn _ ⟨dn++[x],td,ae (gl x),by rw[ec];simp,rfl,by rw[CY];rfl⟩⟩
  ·rintro b ⟨dn,td,u,ec,ey,rfl⟩;have:td=[]:=(by simpa using ey.symm);subst this;rw[eH] at ec;subst ec;exact hK _ ⟨u,rfl⟩
 rintro b ⟨u,rfl⟩;obtain⟨⟨k1,k2⟩,k3,k4,k5⟩:=Qh xs;simp only[sX,L2.R2.S.fz,fM,qL,riL,Hm,Hl,bV,zQ,QT,VF,aR,bO,aW,bF,aB,aE,aM,aP];refine⟨_,_,rfl,δ,_,rfl,θ,λms pm _=>⟨mX (by have:=pm.length_eq;simp at *;lia),?_⟩⟩;have ml:∀c,c∈ms↔∃x∈xs,x.1=c:=λc=>by rw[pm.mem_iff];exact k4 c
 refine QV (λb=>∃a,b=[a,ae (.dct ((qm xs).map (·.1)) ((qm xs).map λp=>.lst p.2))]) D.int (λp:Int×Pt×ω Lb=>ww p) (λp=>∃s,rh s/\oj s (kw kx xs p.1) p.2.1 p.2.2) ms ?_ _ [] ⟨ξ,rfl⟩ λgs e ok=>?_
 ·rintro c mc b ⟨a,rfl⟩ K hK;obtain⟨x,mx,ex⟩:=(ml c).mp mc;obtain⟨_,s,hs,B⟩:=hx x mx;simp only[cY,cH,aD,aV,r2,Tu,bV,aB,aE,aM];refine⟨_,Ay _ c ((k4 c).mpr ⟨x,mx,ex⟩),s,c,kw kx xs c,by rw[k5],⟨λz=>?_,?_⟩,λy hy=>?_,λG A S'=>hK _ (G,A) ⟨ae (.int c),rfl⟩ ⟨s,B.ls,S'⟩⟩
  ·have:x∈kw kx xs c:=jE.mpr ⟨mx,by simpa using ex⟩;rw[z] at this;cases this
  ·exact fR (oT ..) l5
  ·obtain⟨my,ky⟩:=jE.mp hy;have ky:y.1=c:=of_decide_eq_true ky;obtain⟨_,s',ot,B'⟩:=hx y my;rw[ky,<-ex,hs] at ot;cases ot;exact⟨ky,B'⟩
 ·rw[bF];refine q gs ⟨by rw[e];exact(pm.nodup_iff).mpr k3,λc=>by rw[e];exact ml c,ok⟩
abbrev sf(b:Lb):Bt:=([],b)
def Fd:FD:=λds Q=>∃(h:Pt)(c:Int)(x:D)(A:ω Lb),ds=[.tup [.int c,pt h,.lst (A.map cn)],x]/\(Hh h/\A.length<=10/\∀b∈A,yj h (sf b))/\∀us,ko h (A.map sf) us->Q (.tup [pt h,.lst ((mG us).map cn)])
def Mt:τ Fd (TM Ia) ["box","leans","bits","bit"]:=by
 rintro ds Q ⟨h,c,x,A,rfl,⟨H,lA,hA⟩,q⟩;rw[cK 2 rfl];unfold TM;simp only[gQ,Hr,aR,bO,aW,bF];refine eO [ae (.tup [.int c,pt h,.lst (A.map cn)]),ae x,ψ (.own []),ξ] (λK hK=>?_) ?_
 ·nofun;exact hK
 refine dI (λa=>∃us u,ko h (A.map sf) us/\a=[ae (.tup [.int c,pt h,.lst (A.map cn)]),ae x,ψ (.own ((mG us).map cn)),u]) (λK hK=>?_) ?_
 ·simp only[lC,riL,r2,aQ,rC,yG,aB];refine jG (λys a=>∃(dn td:ω Lb)(us:ω (Int×ω Lb))(u:Option L2.R2.S),A=dn++td/\ys=td.map cn/\ko h (dn.map sf) us/\a=[ae (.tup [.int c,pt h,.lst (A.map cn)]),ae x,ψ (.own ((mG us).map cn)),u]) ?_ ?_ _ _ ⟨[],A,[],ξ,rfl,rfl,.nil,rfl⟩
  ·rintro y ys a ⟨dn,td,us,u,ec,ey,U,rfl⟩ F hr qk hn _;cases td with
   |nil=>cases ey
   |cons b td=>
    cases ey;obtain⟨pz,mf,b1,b2,b3,b4⟩:=hA b (by rw[ec];simp);have ld:dn.length+1<=10:=(by have:=Φ eW ec;simp at this;lia);have lu:=U.len;rw[aY] at lu;unfold GJ;simp only[cY,DQ,cH,aD,aV,r2,bV,aQ,rC,iT,aB,aE,aM,aP];refine⟨h,b.1,b.2.1,b.2.2,rfl,⟨H,pz⟩,⟨mf,b1,b2,b3,b4⟩,λL0 ls st=>?_⟩;have:=st.len;refine⟨mX (by rw[aY,aY];lia),hn _ ⟨dn++[b],td,us++[(L0,ls)],ae (cn b),by rw[ec];simp,rfl,by rw[cI];exact U.snoc st,?_⟩⟩;have:mG (us++[(L0,ls)])=mG us++ls:=(by unfold mG;rw[kX];simp);rw[this,cI]
  ·rintro a ⟨dn,td,us,u,ec,ey,U,rfl⟩;have:td=[]:=(by simpa using ey.symm);subst this;rw[eH] at ec;subst ec;exact hK _ ⟨us,u,U,rfl⟩
 rintro a ⟨us,u,U,rfl⟩;simp only[sX,L2.R2.S.fz,fM,jH,aD,aV,r2,bV,aQ,rC,iT,aB,aE,aM,aP,bP,dG];exact⟨sz2,q us U⟩
inductive ni(xs:List gm):List q8->Pt->List Lb->Prop
 |nil:ni xs [] (0,1) []
 |snoc {gs:List q8} {x:q8} {g G s:Pt} {T B':List Lb} {us:List (Int×List Lb)}:ni xs gs g T->rh s->oj s (kw kx xs x.1) x.2.1 x.2.2->ko x.2.1 (x.2.2.map sf) us->dw g (mG us) B'->me (g.1*x.2.1.2+x.2.1.1*g.2) (g.2*x.2.1.2) G.1 G.2->ni xs (gs++[x]) G (T++B')
theorem RP(xs:ω gm):∀ms:ω Int,ms.Nodup->(ms.flatMap λc=>kw kx xs c).Perm (xs.filter λx=>decide (x.1∈ms))
 | [],_=>by simp
 |c::ms,h=>by
  obtain⟨hc,hm⟩:=fS.mp h;have i:=RP xs ms hm;have p:=List.filter_append_perm (λx:gm=>decide (x.1=c)) (xs.filter λx=>decide (x.1∈c::ms));have e1:(xs.filter λx=>decide (x.1∈c::ms)).filter (λx:gm=>decide (x.1=c))=kw kx xs c:=by
   rw[GR];refine wO λx _=>?_;by_cases k:x.1=c <;> simp[k,kx]
  have e2:(xs.filter λx=>decide (x.1∈c::ms)).filter (λx:gm=>!decide (x.1=c))=xs.filter λx=>decide (x.1∈ms):=by
   rw[GR];refine wO λx _=>?_;by_cases k:x.1=c
   ·simp[k,hc]
   ·simp[k]
  rw[e1,e2] at p;rw[IJ];exact(BC _ i).trans p
abbrev AM(xs:ω gm)(gs:ω q8):ω gm:=(gs.map (·.1)).flatMap λc=>kw kx xs c
def HI(xs:ω gm)(gs:ω q8)(x:q8):AM xs (gs++[x])=AM xs gs++kw kx xs x.1:=by unfold AM;rw[cI,kX];simp
def VQ(nd:(gs.map (·.1)).Nodup):(AM xs gs).length<=xs.length:=by
 rw[(RP xs _ nd).length_eq];exact oT ..
def CP:ω gm->Rat
 | []=>0
 |x::xs=>(x.2.1.1:Rat) / (x.2.1.2:Rat)+CP xs
theorem JO:∀a b:ω gm,CP (a++b)=CP a+CP b
 | [],b=>by show CP b=0+CP b;grind
 |x::a,b=>by show _+CP (a++b)=_+CP a+CP b;rw[JO a b];grind
theorem Le(p:a.Perm b):CP a=CP b:=by
 induction p with
 |nil=>rfl
 |cons x _ ih=>show _+_=_+_;rw[ih]
 |swap x y l=>show _+(_+_)=_+(_+_);grind
 |trans _ _ a b=>exact a.trans b
theorem Oe{f:Lb->Int}{a b:ω Lb}(p:a.Perm b):cnt f a=cnt f b:=by
 induction p with
 |nil=>rfl
 | @cons x l l' _ ih=>show(if f x=1 then 1 else 0)+K37.cnt f l=(if f x=1 then 1 else 0)+K37.cnt f l';rw[ih]
 |swap x y l=>show(if f y=1 then 1 else 0)+((if f x=1 then 1 else 0)+K37.cnt f l)=(if f x=1 then 1 else 0)+((if f y=1 then 1 else 0)+K37.cnt f l);lia
 |trans _ _ a b=>exact a.trans b
def Jg{a b c d p q:Int}(hb:0<b)(hd:0<d)(l:me (a*d+c*b) (b*d) p q):(p:Rat) / (q:Rat)=(a:Rat) / (b:Rat)+(c:Rat) / (d:Rat):=by
 have n1:=jZ hb;have n2:=jZ hd;have n3:=jZ l.pos;have w:=Φ (λx:Int=>(x:Rat)) l.worth;simp only[gY,oN] at w;grind
theorem oj.val{s G:Pt}(S':oj s xs G A):0<G.2/\(G.1:Rat) / (G.2:Rat)=CP xs:=by
 induction S' with
 |nil=>exact⟨η,by show((0:Int):Rat) / ((1:Int):Rat)=0;simp;grind⟩
 |snoc _ bx _ lo ih=>
  refine⟨lo.pos,?_⟩;rw[Jg ih.1 bx.ho.h2 lo,JO,ih.2];show _=_+(_+0);grind
structure q9(s:Pt)(x:q8)(n:Nat):Prop where
 ho:ga (6*n) x.2.1
 h1:0<x.2.1.1
 pile:j4 s x.2.1 x.2.2
 sb:∀b∈x.2.2,V' b
 len:x.2.2.length<=2*n
def Px{s:Pt}(l5:xs.length<=5)(ls:rh s)(S':oj s (kw kx xs x.1) x.2.1 x.2.2)(ne:∃y∈xs,y.1=x.1):q9 s x (kw kx xs x.1).length:=by
 have lg:(kw kx xs x.1).length<=5:=fR (oT ..) l5;obtain⟨a,b,c⟩:=S'.ok ls.ln.pos;obtain⟨p,sb,la⟩:=b lg;refine⟨a,c λz=>?_,p,sb,la⟩;obtain⟨y,my,ey⟩:=ne;have:y∈kw kx xs x.1:=jE.mpr ⟨my,by simpa using ey⟩;rw[z] at this;cases this
def q9.btz{s:Pt}(ls:rh s)(O:q9 s x n)(hn:n<=5):Hh x.2.1/\∀b∈x.2.2,yj x.2.1 (sf b):=by
 obtain⟨g2,b1,b2⟩:=O.ho.bl ν;have h1:=O.h1;have h2:=O.ho.h2;refine⟨⟨h1,h2,b1.mono,b2.mono⟩,λb hb=>?_⟩;obtain⟨ip,bs,bz,len,mf,p1,p2,p3,p4⟩:=O.sb b hb
 suffices pz:Pz x.2.1 b.1 b.2.1 from⟨pz,mf,p1.mono,p2.mono,p3.mono,p4.mono⟩
 refine⟨ip,bs,bz,ν,λz hz=>?_⟩;obtain⟨⟨x0,x1⟩,y0,y1⟩:=O.pile.rin b hb z.1 z.2 b.1 (aK ip.pos) (MM ip hz);unfold ht at y0 y1;have sp:=ls.ln.pos;have sh:=ip.pos;have lo:=dY ls.lo x0;have hi:=dY ls.hi x0;have z4:-4*b.1*s.2<=z.1*s.1:=by
  have:=aX x1 (aK sp);have e:z.1*(-4*s.2) = -4*(z.1*s.2):=ε
  have e2:-4*b.1*s.2 = -4*(b.1*s.2):=ε
  lia
 have z13:z.1*s.1<=13*b.1*s.2:=by
  have:=aX x1 (aK sp);have e:z.1*(13*s.2)=13*(z.1*s.2):=ε
  have e2:13*b.1*s.2=13*(b.1*s.2):=ε
  lia
 have hb1:b.1<=x.2.1.1*b.1:=by
  have:=aX (show 1<=x.2.1.1 by lia) (aK sh);lia
 have hb2:x.2.1.2*b.1<=2*b.1:=aX g2 (aK sh);constructor
 ·have q:-4*b.1<=z.2:=dQ (show -4*b.1*s.2<=z.2*s.2 by lia) sp;have:=dY q (aK h2);have e:x.2.1.2*(-4*b.1) = -4*(x.2.1.2*b.1):=ε
  have e2:-26*x.2.1.1*b.1 = -26*(x.2.1.1*b.1):=ε
  have:=bT (aK h2) (aK sh);lia
 ·have q:x.2.1.2*(z.2*s.2)<=(x.2.1.1*b.1+13*(x.2.1.2*b.1))*s.2:=by
   have:=dY z13 (aK h2);have e1:x.2.1.2*(z.2*s.2)=(z.2*s.2-z.1*s.1)*x.2.1.2+x.2.1.2*(z.1*s.1):=ε;have e2:(x.2.1.1*b.1+13*(x.2.1.2*b.1))*s.2=x.2.1.1*s.2*b.1+x.2.1.2*(13*b.1*s.2):=ε;lia
  have q2:x.2.1.2*z.2<=x.2.1.1*b.1+13*(x.2.1.2*b.1):=dQ (show x.2.1.2*z.2*s.2<=_ by rw[lI];exact q) sp;have e2:27*x.2.1.1*b.1=27*(x.2.1.1*b.1):=ε
  lia
def Sw{h:Pt}{A:ω Lb}{us:ω (Int×ω Lb)}(H:Hh h)(b1:BL 6 h.1)(b2:BL 2 h.2)(U:ko h (A.map sf) us)(hz:∀b∈A,yj h (sf b))(sb:∀b∈A,V' b):(∀c∈mG us,Lf8 c)/\(∀c∈mG us,BL 1400 c.1/\∀z∈c.2.1,BL 3300 z.1/\BL 3300 z.2):=by
 have key:∀c∈mG us,∃b∈A,∃L,(-90<=L/\L<=90)/\ud h b.1 b.2.1 b.2.2 L c:=by
  clear sb;generalize hbs:A.map sf=bs at U;have xj:∀b∈bs,yj h b/\b.2∈A:=λb hb=>by
   rw[<-hbs] at hb;obtain⟨y,my,rfl⟩:=bG.mp hb;exact⟨hz y my,my⟩
  clear hbs hz
  induction U with
  |nil=>intro c hc;cases hc
  | @cons b bs L0 ls us a _ ih=>
   intro c hc;rcases bQ.mp (show c∈ls++mG us from hc) with m |m
   ·obtain⟨j,hj,e⟩:=eB m;obtain⟨z8,mA⟩:=xj b δ;have P:=z8.pz;have c3:=P.ip.cvx.len;obtain⟨z,hzm⟩:∃z,z∈b.2.2.1:=by
     cases q:b.2.2.1 with
     |nil=>rw[q] at c3;simp at c3
     |cons z r=>exact⟨z,δ⟩
    obtain⟨r1,r2⟩:=P.rows z hzm;have lo:=a.lo z hzm;have hi:=a.hi z hzm;have ll:=a.len;have hp:=aJ H.h1 P.ip.pos;have k1:L0<=27:=by
     refine dQ (a:=h.1*b.2.1) ?_ hp;have e1:L0*(h.1*b.2.1)=L0*h.1*b.2.1:=ε;have e2:27*(h.1*b.2.1)=27*h.1*b.2.1:=ε;lia
    have k2:-26<=L0+ls.length:=by
     refine dQ (a:=h.1*b.2.1) ?_ hp;have e1:(L0+ls.length)*(h.1*b.2.1)=(L0+ls.length)*h.1*b.2.1:=ε;have e2:-26*(h.1*b.2.1) = -26*h.1*b.2.1:=ε;lia
    exact⟨b.2,mA,L0+j,⟨ν,ν⟩,a.each j c (by rw[aG hj,e])⟩
   ·exact ih (λy hy=>xj y (by simp[hy])) c m
 refine⟨λc hc=>?_,λc hc=>?_⟩
 ·obtain⟨b,hb,L,⟨l0,l1⟩,f⟩:=key c hc;obtain⟨ip,bs,bz,len,mf,p1,p2,p3,p4⟩:=sb b hb;have bL:BL 7 L:=BL.of_lt (m:=7) ν ν;have bg:BL 2 b.2.2.1:=by have:=mf.sg;exact BL.of_lt (m:=2) ν ν
  obtain⟨x1,x2⟩:=MC f.mf.cx f.mf.q0 mf.q0 f.x;obtain⟨y1,y2⟩:=MC f.mf.cy f.mf.v0 (aJ H.h2 mf.v0) f.y;exact⟨f.ip,f.bs.mono,λz hz=>⟨(f.bz z hz).1.mono,(f.bz z hz).2.mono⟩,f.len,f.mf,(p1.mono:BL 300 _).le x1,(p2.mono:BL 300 _).le x2,
   ((((bg.mul (bL.mul b1)).mul p4).add (p3.mul b2)).mono:BL 300 _).le y1,((b2.mul p4).mono:BL 300 _).le y2⟩
 ·obtain⟨b,hb,L,_,f⟩:=key c hc;exact⟨f.bs,f.bz⟩
def Qp{c c':Lb}(b1:BL 6 g.1)(b2:BL 2 g.2)(l:Lf8 c)(z:BL 1400 c.1/\∀z∈c.2.1,BL 3300 z.1/\BL 3300 z.2)(k:j2 g c c'):s_ c':=by
 obtain⟨s1,s2⟩:=k.pd.size z.1 z.2 b1 (b2.mono);exact⟨k.pd.ip,s1.mono,λz hz=>⟨(s2 z hz).1.mono,(s2 z hz).2.mono⟩,by rw[k.pd.len];exact l.len,k.mf⟩
structure u9(ys:List gm)(G:Pt)(T:List Lb):Prop where
 ho:ga (6*ys.length) G
 pile:j4 (0,1) G T
 lb:∀b∈T,s_ b
 len:T.length<=120*ys.length
 val:(G.1:Rat) / (G.2:Rat)=CP ys
 homes:∀X Y W,0<W->(∀b∈lG ys,cj ζ X Y W b≠0)->(∀b∈T,cj ζ X Y W b≠0)->cnt (cj ζ X Y W) T=cnt (cj ζ X Y W) (lG ys)
theorem Sl(l5:xs.length<=5)(S':ni xs gs G T):(gs.map (·.1)).Nodup->(∀x∈gs,∃y∈xs,y.1=x.1)->u9 (AM xs gs) G T:=by
 induction S' with
 |nil=>exact λ_ _=>⟨ga.zero,Cu,δ,δ,by show((0:Int):Rat) / ((1:Int):Rat)=0;simp;grind,λ_ _ _ _ _ _=>rfl⟩
 | @snoc gs x g G s T B' us st ls S0 U lf lo ih=>
  intro nd ne;have nd':(gs.map (·.1)).Nodup:=by rw[cI] at nd;exact(jQ.mp nd).1
  obtain⟨h0,p0,lb0,ln0,v0,hm0⟩:=ih nd' λy hy=>ne y (by simp[hy]);have O:=Px l5 ls S0 (ne x δ);have la:=VQ (xs:=xs) nd;rw[HI,bR] at la;have lg:(kw kx xs x.1).length<=5:=ν
  obtain⟨_,c1,c2⟩:=O.ho.bl ν;obtain⟨_,d1,d2⟩:=h0.bl ν;obtain⟨H,bz⟩:=O.btz ls lg;obtain⟨l8,z8⟩:=Sw H c1 c2 U bz O.sb;have em:(x.2.2.map sf).map g8=x.2.2:=by rw[dF];exact mR _
  have up:j4 (0,1) x.2.1 (mG us):=Wn ls.ln.pos O.h1 (λb hb=>by obtain⟨y,my,rfl⟩:=bG.mp hb;exact(O.sb y my).ip) U (by rw[em];exact O.pile);have hl:∀b'∈B',∃c∈mG us,j2 g c b':=λb' qj=>lf.bw qj;have hG:=h0.add O.ho lo;rw[HI];refine⟨?_,Ct η p0 up O.h1 lf lo,λb hb=>?_,?_,?_,λX Y W w n1 n2=>?_⟩
  ·rw[bR];have e:6*(((AM xs gs).length+(kw kx xs x.1).length:Nat):Int)=6*((AM xs gs).length:Int)+6*((kw kx xs x.1).length:Int):=ν;rw[e];exact hG
  ·rcases bQ.mp hb with k |k
   ·exact lb0 b k
   ·obtain⟨c,mc,l⟩:=hl b k;exact Qp d1 d2 (l8 c mc) (z8 c mc) l
  ·have:=lf.len;have:=U.len;have:=O.len;rw[aY] at *;simp only[bR];lia
  ·rw[Jg h0.h2 O.ho.h2 lo,JO,v0,S0.val.2]
  ·have eb:lG (AM xs gs++kw kx xs x.1)=lG (AM xs gs)++lG (kw kx xs x.1):=(by unfold lG;rw[kX]);rw[eb] at n1⊢;have nA:=λb hb=>n1 b (dC _ hb);have nB:=λb hb=>n1 b (bD _ hb);obtain⟨e1,e2⟩:=S0.homes X Y W;have x_:∀c c',c∈mG us->j2 g c c'->cj ζ X Y W c'=cj ζ X Y W c:=λc c' m l=>WM h0.h2 l (l8 c m).mf X Y W;have hs:=Fz (X:=X) (Y:=Y) H.h1 H.h2 w U (λb hb=>by obtain⟨y,my,rfl⟩:=bG.mp hb;exact⟨(O.sb y my).ip,(O.sb y my).mf⟩) (by rw[em];exact e2 nB) (λc hc=>by
    obtain⟨c',m',l⟩:=lf.fw hc;rw[<-x_ c c' hc l];exact n2 c' (bD _ m'))
   rw[em] at hs;rw[K37.cnt_append,K37.cnt_append,hm0 X Y W w nA (λb hb=>n2 b (dC _ hb)),lf.cnt λb b' m l=>x_ b b' m l,<-hs,e1]
def ID:FD:=λds Q=>∃(fs:ω Pt)(xs:ω gm)(y:D),ds=[.lst (xs.map gl),y]/\xs.length<=5/\(∀x∈xs,t_ fs x)/\∀gs G T,uc fs xs gs->ni xs gs G T->Q (.tup [pt G,.lst (T.map cn)])
def Hg:τ ID (Dy zB qO yC Fd) ["boxes","leans","height","bits","box","told"]:=by
 rintro ds Q ⟨fs,xs,y0,rfl,l5,hx,q⟩;rw[cK 4 rfl];unfold Dy;simp only[gQ,Eb,aR,bO,aW,bF];generalize hX:D.lst (xs.map gl)=XD;refine eO [ae XD,ae y0,ae (pt (0,1)),ξ,ξ,ξ] (λK hK=>?_) ?_
 ·nofun;exact hK
 refine eO [ae XD,ae y0,ae (pt (0,1)),ψ (.own []),ξ,ξ] (λK hK=>?_) ?_
 ·nofun;exact hK
 refine dI (λa=>∃(gs:ω q8)(G:Pt)(T:ω Lb)(u v:Option L2.R2.S),(uc fs xs gs/\ni xs gs G T)/\a=[ae XD,ae y0,ae (pt G),ψ (.own (T.map cn)),u,v]) (λK hK=>?_) ?_
 ·simp only[lC,riL,cH,aD,aV,bV,aB];refine⟨fs,xs,by rw[hX],l5,hx,λgs gr=>?_⟩;refine jG (λys a=>∃(dn td:ω q8)(g:Pt)(T:ω Lb)(u v:Option L2.R2.S),gs=dn++td/\ys=td.map ww/\ni xs dn g T/\a=[ae XD,ae y0,ae (pt g),ψ (.own (T.map cn)),u,v]) ?_ ?_ _ _ ⟨[],gs,(0,1),[],ξ,ξ,rfl,rfl,.nil,rfl⟩
  ·rintro y ys a ⟨dn,td,g,T,u,v,ec,ey,S',rfl⟩ F hr qk hn _;cases td with
   |nil=>cases ey
   |cons x td=>
    cases ey;have mx:x∈gs:=(by rw[ec];simp);have ndd:(dn.map (·.1)++(x::td).map (·.1)).Nodup:=(by have:=gr.nd;rw[ec,cI] at this;exact this);have nd:((dn++[x]).map (·.1)).Nodup:=by
     have e:dn.map (·.1)++(x::td).map (·.1)=(dn++[x]).map (·.1)++td.map (·.1):=δ;rw[e] at ndd;exact(jQ.mp ndd).1
    have nem:∀w∈gs,∃y∈xs,y.1=w.1:=λw hw=>(gr.mem w.1).mp (cT hw);have K0:=Sl l5 S' (jQ.mp ndd).1 λw hw=>nem w (by rw[ec];simp[hw]);have la:=VQ (xs:=xs) nd;rw[HI,bR] at la;obtain⟨s,ls,S0⟩:=gr.each x mx;have O:=Px l5 ls S0 (nem x mx);obtain⟨_,c1,c2⟩:=O.ho.bl ν;obtain⟨_,d1,d2⟩:=K0.ho.bl ν;obtain⟨H,bz⟩:=O.btz ls ν;have lt:=K0.len;have lo:=O.len;have eX:ww x = .tup [.int x.1,pt x.2.1,.lst (x.2.2.map cn)]:=rfl;unfold NQ;simp only[cY,aM,aP];refine dI (λa=>∃us,ko x.2.1 (x.2.2.map sf) us/\a=[ae XD,ae y0,ae (pt g),ψ (.own (T.map cn)),ae (ww x),ae (.tup [pt x.2.1,.lst ((mG us).map cn)])]) (λK2 fi=>?_) ?_
    ·simp only[eI,cH,aD,aV,bV,aB,aE,aM,aP];exact⟨x.2.1,x.1,y0,x.2.2,rfl,⟨H,ν,bz⟩,λus U=>fi _ ⟨us,U,rfl⟩⟩
    rintro a ⟨us,U,rfl⟩;obtain⟨l8,_⟩:=Sw H c1 c2 U bz O.sb;have lu:=U.len;rw[aY] at lu;refine dI (λa=>∃B',dw g (mG us) B'/\a=[ae XD,ae y0,ae (pt g),ψ (.own ((T++B').map cn)),ae (ww x),ae (.tup [pt x.2.1,.lst ((mG us).map cn)])]) (λK2 fi=>?_) ?_
    ·simp only[DQ,qL,riL,r2,aQ,rC,iT,zQ,QT,VF,aR,bO,aW,bF,aB,aE,aM,aP];refine⟨mX (by rw[aY];lia),WL K0.ho.h2 d1 d2 l8 λL' lf=>?_⟩;have:=lf.len;refine⟨mX (by rw[aY,aY];lia),?_⟩;rw[<-cI];exact fi _ ⟨L',lf,rfl⟩
    rintro a ⟨B',lf,rfl⟩;simp only[eI,cH,aD,aV,r2,bV,aQ,rC,nU,aB,aE,aM,aP];refine⟨g.1,g.2,x.2.1.1,x.2.1.2,rfl,⟨K0.ho.h2,O.ho.h2⟩,⟨d1.mono,d2.mono,c1.mono,c2.mono⟩,λp q' l=>?_⟩;exact hn _ ⟨dn++[x],td,(p,q'),T++B',ae (ww x),ae (.tup [pt x.2.1,.lst ((mG us).map cn)]),by rw[ec];simp,rfl,.snoc S' ls S0 U lf l,rfl⟩
  ·rintro a ⟨dn,td,g,T,u,v,ec,ey,S',rfl⟩;have:td=[]:=(by simpa using ey.symm);subst this;rw[eH] at ec;subst ec;exact hK _ ⟨gs,g,T,u,v,⟨gr,S'⟩,rfl⟩
 rintro a ⟨gs,G,T,u,v,⟨gr,S'⟩,rfl⟩;simp only[sX,L2.R2.S.fz,fM,jH,aD,aV,bV,aB,aE,aM,aP,bP,dG];exact⟨sz2,q gs G T gr S'⟩
def PR:FD:=λds Q=>∃(ns:ω Int)(fs:ω Pt),ds=[il ns,fv fs]/\(1<=fs.length/\fs.length<=4/\ns.length<=63)/\(∀f∈fs,rh f)/\∀xs:ω gm,xs.length<=5->(∀x∈xs,t_ fs x)->Q (.lst (xs.map gl))
def Dg:τ PR (FZ IA PU VO QB) ["_law_script","_law_leans_here","_law_found","_law_k","_law_number","_law_place","_law_height","_law_bits_here","_law_piece"]:=by
 rintro ds Q ⟨ns,fs,rfl,⟨f1,f4,n63⟩,hf,q⟩;rw[cK 7 rfl];unfold FZ;simp only[gQ,N9,aR,bO,aW,bF];generalize hS:il ns=SD;refine eO [ae SD,ae (fv fs),ψ (.own []),ξ,ξ,ξ,ξ,ξ,ξ] (λK hK=>?_) ?_
 ·nofun;exact hK
 refine dI (λg=>∃(xs:ω gm)(a3 a4 a5 a6 a7 a8:Option L2.R2.S),(xs.length<=5/\∀x∈xs,t_ fs x)/\g=[ae SD,ae (fv fs),ψ (.own (xs.map gl)),a3,a4,a5,a6,a7,a8]) (λK hK=>?_) ?_
 ·rw[<-hS];simp only[lC,Vw,aD,aV,rC,rCB,r1,aQ,sB,Aw,aB,aY];rw[hS];obtain⟨m,hm,m7⟩:∃m:Int,m=(if(7:Int)<(ns.length:Int) then 7 else(ns.length:Int))/\m<=7:=⟨_,rfl,by split <;> lia⟩;rw[<-hm];refine⟨⟨⟨η,η⟩,⟨by rw[hm];split <;> lia,ν⟩⟩,?_⟩;have n5:(m-2).toNat<=5:=ν
  generalize (m-2).toNat=n at n5;refine JM 2 n (λi g=>∃(xs:ω gm)(a3 a4 a5 a6 a7 a8:Option L2.R2.S),(xs.length<=i/\∀x∈xs,t_ fs x)/\g=[ae SD,ae (fv fs),ψ (.own (xs.map gl)),a3,a4,a5,a6,a7,a8]) ?_ ?_ _ ⟨[],ξ,ξ,ξ,ξ,ξ,ξ,⟨gH _,δ⟩,rfl⟩
  ·rintro i g hi ⟨xs,a3,a4,a5,a6,a7,a8,⟨lx,hx⟩,rfl⟩ F _ _ hn _;unfold yR;simp only[cY,aM,aP];refine dI (λg=>∃k:Int,(0<=k/\k<big)/\g=[ae SD,ae (fv fs),ψ (.own (xs.map gl)),ae (.int (2+(i:Int))),ae (.int k),a5,a6,a7,a8]) (λK2 fi=>?_) ?_
   ·simp only[eI,cH,aD,aV,bV,aB,aE,aM,aP];exact⟨ns,2+i,by rw[hS],ν,λc c0 c1 _=>fi _ ⟨c,⟨c0,c1⟩,rfl⟩⟩
   rintro g ⟨k,⟨k0,k1⟩,rfl⟩;have fl:(0:Int)<fs.length:=ν;refine dI (λg=>∃c:Int,(0<=c/\c<fs.length)/\g=[ae SD,ae (fv fs),ψ (.own (xs.map gl)),ae (.int (2+(i:Int))),ae (.int k),ae (.int c),a6,a7,a8]) (λK2 fi=>?_) ?_
   ·nofun;simp only[aY];exact⟨⟨ν⟩,fi _ ⟨_,fQ fl,rfl⟩⟩
   rintro g ⟨c,hc,rfl⟩;refine dI (λg=>∃c:Int,(0<=c/\c<fs.length)/\g=[ae SD,ae (fv fs),ψ (.own (xs.map gl)),ae (.int (2+(i:Int))),ae (.int k),ae (.int c),a6,a7,a8]) (λK2 fi=>?_) ?_
   ·simp only[jU,dZ,r2,cH,aD,aV,bV,rC,aB,aE];refine⟨ns,1,by rw[hS],η,λd d0 d1 _=>?_⟩;simp only[oP,sN];refine⟨nG,?_⟩;by_cases e:d.fmod 2=1
    ·simp only[e,decide_true,if_true,aS,if_false,eI,r1,r2,cH,aD,aV,bV,aQ,rC,aB,aE,aM,aP];refine⟨ns,1,by rw[hS],η,λd' _ _ _=>?_⟩;simp only[jX,oP,sB,aY];exact⟨(BL.const (n:=9000) η).divOk η,⟨ν⟩,fi _ ⟨_,fQ fl,rfl⟩⟩
    ·simp only[e,decide_false,aS,if_false,gP];exact fi _ ⟨c,hc,rfl⟩
   clear hc c;rintro g ⟨c,⟨c0,c1⟩,rfl⟩;obtain⟨s,hs⟩:∃s,fs[c.toNat]?=ψ s:=⟨fs[c.toNat]'ν,aG _⟩;have ls:=hf s (eY hs);refine dI (λg=>∃h:Pt,(0<h.1/\ga 6 h)/\g=[ae SD,ae (fv fs),ψ (.own (xs.map gl)),ae (.int (2+(i:Int))),ae (.int k),ae (.int c),ae (pt h),a7,a8]) (λK2 fi=>?_) ?_
   ·nofun;obtain⟨a0,a1⟩:=fQ (a:=k.fdiv 7) (b:=6) η;obtain⟨b0,b1⟩:=fQ (a:=k.fdiv 11) (b:=2) η;refine⟨(BL.const (n:=9000) η).divOk η,nG,(BL.const (n:=9000) η).divOk η,nG,?_⟩;have bb:BL 10 (1+(k.fdiv 11).fmod 2):=BL.of_lt (m:=10) ν ν;refine⟨_,_,rfl,⟨ν,bb.mono⟩,λp q' l=>fi _ ⟨(p,q'),?_,rfl⟩⟩;have w:=l.worth;have ha:1<=1+(k.fdiv 7).fmod 6/\1+(k.fdiv 7).fmod 6<=6:=ν;clear a0 a1;generalize 1+(k.fdiv 7).fmod 6=a at *;have hb:1+(k.fdiv 11).fmod 2=1\/1+(k.fdiv 11).fmod 2=2:=ν;generalize 1+(k.fdiv 11).fmod 2=b at *;have lp:=l.pos;have pa:0<p:=by
     have:0<a*q':=aJ ν lp;rw[<-w,dS] at this;exact oH ν this
    refine⟨pa,aK pa,lp,l.cop,?_,?_⟩
    ·dsimp only;rcases hb with rfl |rfl
     ·exact⟨2*a,by rw[lI,<-w];lia⟩
     ·exact⟨a,by rw[<-w];lia⟩
    ·dsimp only;have m1:=aX (show a<=6 by lia) (aK lp);rcases hb with rfl |rfl <;> lia
   rintro g ⟨h,⟨h1,ho⟩,rfl⟩;obtain⟨_,e1,e2⟩:=ho.bl η;have f:Fm s h:=⟨ls.ln,h1,e1.mono,ho.h2,e2.mono⟩;refine eO [ae SD,ae (fv fs),ψ (.own (xs.map gl)),ae (.int (2+(i:Int))),ae (.int k),ae (.int c),ae (pt h),ψ (.own []),a8] (λK2 fi=>?_) ?_
   ·nofun;exact fi
   refine dI (λg=>∃(bs:ω Bt)(u:Option L2.R2.S),sv s (c,h,bs)/\g=[ae SD,ae (fv fs),ψ (.own (xs.map gl)),ae (.int (2+(i:Int))),ae (.int k),ae (.int c),ae (pt h),ψ (.own (bs.map jr)),u]) (λK2 fi=>?_) ?_
   ·simp only[lC,riL,cH,aD,aV,bV,aQ,r2,rC,aB,aE];refine Rr c0 ν λs' ot=>?_;rw[hs] at ot;cases ot;simp only[jX,oP];obtain⟨a0,a1⟩:=fQ (a:=k.fdiv 13) (b:=4) η;refine⟨(BL.const (n:=9000) η).divOk η,nG,s,h,_,rfl,⟨f,a0,a1⟩,λL hL hg=>?_⟩;have wi:=F7 a0 a1;obtain⟨wl,wp⟩:=vH _ wi;rw[<-hL] at wi wl wp;rw[aY] at wl;refine jG (λys g=>∃(dn td:ω (ω Pt×Int×ω Pt))(bs:ω Bt)(u:Option L2.R2.S),L=dn++td/\ys=td.map (λp=>pc p.2.1 p.2.2)/\(bs.map (λb=>(b.1,b.2.1,b.2.2.1))=dn/\∀b∈bs,b.1∈wX/\Gp s h b.1 b.2.1 b.2.2.1/\BtM b.2.2.2)/\g=[ae SD,ae (fv fs),ψ (.own (xs.map gl)),ae (.int (2+(i:Int))),ae (.int k),ae (.int c),ae (pt h),ψ (.own (bs.map jr)),u]) ?_ ?_ _ _ ⟨[],L,[],a8,rfl,rfl,⟨rfl,δ⟩,rfl⟩
    ·rintro y ys g ⟨dn,td,bs,u,ec,ey,⟨eb,sd⟩,rfl⟩ F' hr' hbk' uq _;cases td with
     |nil=>cases ey
     |cons b td=>
      cases ey;have mb:b∈L:=(by rw[ec];simp);have lb:bs.length<=2:=by
       have l1:=Φ eW eb;have l2:=Φ eW ec;simp at l1 l2;lia
      generalize hPC:pc b.2.1 b.2.2=PD;unfold yQ;nofun;simp only[aY];have bd:BL 201 (k.fdiv 52):=by
       have e:big<((2 ^ 200:Nat):Int):=η;rw[cS _ η];exact BL.of_lt (m:=201) ν ν
      refine⟨(BL.const (n:=9000) η).divOk η,(BL.const (n:=9000) η).mulOk (BL.of_lt (m:=20) ν ν),(BL.const (n:=9000) η).mulOk (BL.of_lt (m:=20) ν ν),?_⟩;refine⟨_,rfl,((bd.add (BL.of_lt (m:=20) ν ν)).add (BL.of_lt (m:=20) ν ν)).mono,λm mf bm=>?_⟩;refine⟨mX θ,uq _ ⟨dn++[b],td,bs++[(b.1,b.2.1,b.2.2,m)],ae PD,by rw[ec];simp,rfl,⟨by rw[cI,eb];rfl,λx hx=>?_⟩,?_⟩⟩
      ·rcases bQ.mp hx with z |z
       ·exact sd x z
       ·rw[cJ.mp z];exact⟨wp b.1 (cT mb),hg b mb,mf,bm.1,bm.2.1,bm.2.2.1,bm.2.2.2⟩
      ·rw[cI,<-hPC];rfl
    ·rintro g ⟨dn,td,bs,u,ec,ey,⟨eb,sd⟩,rfl⟩;have:td=[]:=(by simpa using ey.symm);subst this;rw[eH] at ec;subst ec;refine fi _ ⟨bs,u,⟨ls,h1,ho,sd,?_⟩,rfl⟩;rw[<-eb,dF] at wi;exact wi
   rintro g ⟨bs,u,B,rfl⟩;simp only[sX,L2.R2.S.fz,wY,jH,aD,aV,bV,aB,aE,aM,aP,bP,dG];refine⟨sz3,mX θ,hn _ ⟨xs++[(c,h,bs)],ae (.int (2+(i:Int))),ae (.int k),ae (.int c),ae (pt h),ae (.lst (bs.map jr)),u,⟨θ,λx ou=>?_⟩,?_⟩⟩
   ·rcases bQ.mp ou with z |z
    ·exact hx x z
    ·rw[cJ.mp z];exact⟨c0,s,hs,B⟩
   ·rw[cI];rfl
  ·rintro g ⟨xs,a3,a4,a5,a6,a7,a8,⟨lx,hx⟩,rfl⟩;exact hK _ ⟨xs,a3,a4,a5,a6,a7,a8,⟨ν,hx⟩,rfl⟩
 rintro g ⟨xs,a3,a4,a5,a6,a7,a8,⟨lx,hx⟩,rfl⟩;simp only[sX,L2.R2.S.fz,fM,bV,aB,aE,aM,aP];exact q xs lx hx
abbrev spT(t:Int×Int×Int):D:=i8 t.1 t.2.1 t.2.2
def OT:FD:=λds Q=>∃(T O:ω Lb)(d:D),ds=[.lst (T.map cn),.lst (O.map cn),d]/\((T.length<=640/\∀b∈T,s_ b)/\O.length<=640/\∀b∈O,s_ b) /\
 (d = .non\/∃hs:ω (Int×Int×Int),(∀t∈hs,0<t.2.2/\BL 4000 t.1/\BL 4000 t.2.1/\BL 4000 t.2.2)/\d = .lst (hs.map spT))/\(∀X Y W,0<W->(∀b∈O,cj ζ X Y W b≠0)->(∀b∈T,cj ζ X Y W b≠0)->cnt (cj ζ X Y W) T=cnt (cj ζ X Y W) O)/\Q (.bl ζ)
def Gy:τ OT (KI OU) ["_law_found","_law_bits_here","_law_homes","_law_home","_law_one","_law_other"]:=by
 rintro ds Q ⟨T,O,d,rfl,⟨⟨lT,hT⟩,lO,hO⟩,hd,same,q⟩;rw[cK 3 rfl];unfold KI;simp only[gQ,Ea,aR,bO,aW,bF];generalize x8:D.lst (T.map cn)=TD;generalize hOD:D.lst (O.map cn)=OD;rcases hd with rfl | ⟨hs,hh,rfl⟩
 ·simp only[cW,jU,dZ,r2,fM,aQ,rC,BG,CQ,aB,aE,if_true];exact q
 refine eO [ae TD,ae OD,ae (.lst (hs.map spT)),ξ,ξ,ξ] (λK hK=>?_) ?_
 ·simp only[jU,dZ,r2,gP,aQ,rC,BG,CQ,aB,aE,aS,if_false];exact hK
 refine dI (λe=>∃a b c,e=[ae TD,ae OD,ae (.lst (hs.map spT)),a,b,c]) (λK hK=>?_) ?_
 ·simp only[lC,riL,bV,aB,aE];refine jG (λys e=>∃(dn td:ω (Int×Int×Int))(a b c:Option L2.R2.S),hs=dn++td/\ys=td.map spT/\e=[ae TD,ae OD,ae (.lst (hs.map spT)),a,b,c]) ?_ ?_ _ _ ⟨[],hs,ξ,ξ,ξ,rfl,rfl,rfl⟩
  ·rintro y ys e ⟨dn,td,a,b,c,ec,ey,rfl⟩ F hr qk uq _;cases td with
   |nil=>cases ey
   |cons t td=>
    cases ey;obtain⟨t0,b1,b2,b3⟩:=hh t (by rw[ec];simp);generalize hHD:D.lst (hs.map spT)=HD;obtain⟨X,Y,W⟩:=t;dsimp only at t0 b1 b2 b3;unfold AU;simp only[cY,aM,aP];have fin:∀a b c,F.nx [ae TD,ae OD,ae HD,a,b,c]:=λa b c=>uq _ ⟨dn++[(X,Y,W)],td,a,b,c,by rw[ec];simp,rfl,by rw[hHD]⟩;refine dI (λe=>∃x:D,(x = .non\/(∀b∈O,cj ζ X Y W b≠0)/\x = .int (cnt (cj ζ X Y W) O))/\e=[ae TD,ae OD,ae HD,ae (i8 X Y W),ae x,c]) (λK2 fi=>?_) ?_
    ·simp only[eI,cH,aD,aV,bV,rC,aB,aE,aM,aP];exact⟨O,X,Y,W,ζ,by rw[hOD],⟨lO,hO⟩,⟨b1,b2,b3⟩,λ_=>fi _ ⟨.non,.inl rfl,rfl⟩,λnz=>fi _ ⟨_,.inr ⟨nz,rfl⟩,rfl⟩⟩
    rintro e ⟨x1,h1,rfl⟩;refine dI (λe=>∃x:D,(x = .non\/(∀b∈T,cj ζ X Y W b≠0)/\x = .int (cnt (cj ζ X Y W) T))/\e=[ae TD,ae OD,ae HD,ae (i8 X Y W),ae x1,ae x]) (λK2 fi=>?_) ?_
    ·simp only[eI,cH,aD,aV,bV,rC,aB,aE,aM,aP];exact⟨T,X,Y,W,ζ,by rw[x8],⟨lT,hT⟩,⟨b1,b2,b3⟩,λ_=>fi _ ⟨.non,.inl rfl,rfl⟩,λnz=>fi _ ⟨_,.inr ⟨nz,rfl⟩,rfl⟩⟩
    rintro e ⟨x2,h2,rfl⟩;rcases h1 with rfl | ⟨n1,rfl⟩
    ·simp only[jU,OR,dZ,r2,gP,aQ,rC,BG,CQ,aB,aE,if_true,fZ,aS,if_false];exact fin _ _ _
    ·rcases h2 with rfl | ⟨n2,rfl⟩
     ·simp only[jU,OR,dZ,r2,gP,aQ,rC,BG,CQ,aB,aE,if_true,fZ,nH,aS,if_false];exact fin _ _ _
     ·rw[same X Y W t0 n1 n2];generalize cnt (cj ζ X Y W) O=C;simp only[jU,OR,dZ,r2,gP,aQ,rC,BG,CQ,dNe,aB,aE,if_true,fZ,nH,aS,if_false];exact fin _ _ _
  ·rintro e ⟨dn,td,a,b,c,ec,ey,rfl⟩;exact hK _ ⟨a,b,c,rfl⟩
 rintro e ⟨a,b,c,rfl⟩;simp only[fM,rC];exact q
def Yw(n:Nat)(b:Bt):fo (n+5) (jr b) (jr b)=ψ ζ:=by
 show js (fo (n+4)) _ _=_;refine tT _ λx hx=>?_;simp only[aO,eM,or_false] at hx;rcases hx with rfl |rfl
 ·show js (fo (n+3)) _ _=_;refine tT _ λx hx=>?_;simp only[aO,eM,or_false] at hx;rcases hx with rfl |rfl
  ·exact JI (n+2) _
  ·show js (fo (n+2)) _ _=_;exact OZ λz _=>JJ n z
 ·show js (fo (n+3)) _ _=_;refine tT _ λx hx=>?_;simp only[aO,eM,or_false] at hx;rcases hx with rfl |rfl |rfl
  ·exact JI (n+2) _
  ·exact JJ (n+1) _
  ·exact JJ (n+1) _
def Yx(xs:ω gm):js (fo 8) (xs.map gl) (xs.map gl)=ψ ζ:=OZ λx _=>by
 show js (fo 7) _ _=_;refine tT _ λy hy=>?_;simp only[aO,eM,or_false] at hy;rcases hy with rfl |rfl |rfl
 ·exact JI 6 _
 ·exact JJ 5 _
 ·show js (fo 6) _ _=_;exact OZ λb _=>Yw 1 b
def Pq{a b c d:Int}(g1:cO a b=1)(g2:cO c d=1)(b0:0<b)(d0:0<d)(e:(a:Rat) / (b:Rat)=(c:Rat) / (d:Rat)):a=c/\b=d:=by
 have n1:=jZ b0;have n2:=jZ d0;have e':a*d=c*b:=by
  apply AL.mp;simp only[gY];grind
 obtain⟨_,l1⟩:=MC g1 b0 d0 e';obtain⟨_,l2⟩:=MC g2 d0 b0 e'.symm;have eb:b=d:=ν
 subst eb;exact⟨iK ν e',rfl⟩
structure yp(fs:List Pt)(xs:List gm)(G:Pt)(T:List Lb):Prop where
 ok:u9 xs G T
 nil:xs=[]->T=[]
 pos:xs≠[]->0<G.1
def S8{fs:ω Pt}(l5:xs.length<=5)(hx:∀x∈xs,t_ fs x)(gr:uc fs xs gs)(S':ni xs gs G T):yp fs xs G T:=by
 have O:=Sl l5 S' gr.nd λx hx=>(gr.mem x.1).mp (cT hx);have p:(AM xs gs).Perm xs:=by
  have:=RP xs _ gr.nd
  rwa [List.filter_eq_self.mpr λx hx=>by simpa using(gr.mem x.1).mpr ⟨x,hx,rfl⟩] at this
 have pb:(lG (AM xs gs)).Perm (lG xs):=p.flatMap_right _;have va:=O.val;rw[Le p] at va;refine⟨⟨by have:=O.ho;rwa [p.length_eq] at this,O.pile,O.lb,by have:=O.len;rwa [p.length_eq] at this,va,λX Y W w n1 n2=>?_⟩,λe=>?_,λne=>?_⟩
 ·rw[O.homes X Y W w (λb hb=>n1 b (pb.mem_iff.mp hb)) n2,Oe pb]
 ·have:T.length<=120*(AM xs gs).length:=O.len;rw[p.length_eq,e] at this;exact kF (by simpa using this)
 ·have hp:∀ys:ω gm,(∀y∈ys,y∈xs)->ys≠[]->(0:Rat)<CP ys:=by
   intro ys
   induction ys with
   |nil=>intro _ h;exact Ψ rfl h
   |cons y ys ih=>
    intro hy _;obtain⟨_,s,_,B⟩:=hx y (hy y δ);have q:(0:Rat)<(y.2.1.1:Rat) / (y.2.1.2:Rat):=by
     have a1:(0:Rat)<(y.2.1.1:Rat):=(by have:=zO.mpr B.h1;simpa using this);have a2:(0:Rat)<(y.2.1.2:Rat):=(by have:=zO.mpr B.ho.h2;simpa using this);exact Rat.mul_pos a1 (Rat.inv_pos.mpr a2)
    show(0:Rat)<_+CP ys;by_cases e:ys=[]
    ·subst e;show(0:Rat)<_+0;grind
    ·have:=ih (λz hz=>hy z (by simp[hz])) e;grind
  have v:=hp xs (λ_ h=>h) ne;rw[<-va] at v;have g2:=O.ho.h2;rcases iM O.ho.h1 with k |k
  ·exact k
  ·rw[<-k] at v;simp at v;grind
def O7{X Y W I J N:Int}(h2:0<h.2)(sp:u6 (0,1) h X Y W I J N)(i0:0<I)(i1:I<24*N):0<X/\X<W:=by
 obtain⟨sw,sn,sx,_⟩:=sp;unfold eF at sx;dsimp only at sx;have e:(24*N)*X=W*I:=cV (a:=h.2) ν ε;have c1:0<24*N:=ν
 refine⟨(kO c1 sw e).1.mpr i0,?_⟩;have e2:(24*N)*(W-X)=W*(24*N-I):=by rw[Int.mul_sub,e];grind
 have:=(kO c1 sw e2).1.mpr ν;lia
def Nz{fs:ω Pt}(hx:∀x∈xs,t_ fs x):∀b∈lG xs,s_ b:=λb hb=>by
 obtain⟨x,mx,hb⟩:=List.mem_flatMap.mp hb;obtain⟨y,my,rfl⟩:=bG.mp hb;obtain⟨_,s,_,B⟩:=hx x mx;obtain⟨ip,bs,bz,len⟩:=B.sz my;exact⟨ip,bs.mono,λz hz=>⟨(bz z hz).1.mono,(bz z hz).2.mono⟩,ν,(B.each y my).2.2.mf⟩
theorem Ak{fs:ω Pt}(hx:∀x∈xs,t_ fs x):(lG xs).length<=2*xs.length:=by
 induction xs with
 |nil=>simp
 |cons x xs ih=>
  have i:=ih λy hy=>hx y (bH _ hy);obtain⟨_,s,_,B⟩:=hx x δ;have:=(vH _ B.way).1;rw[aY] at this;show((x.2.2.map g8)++lG xs).length<=_;rw[bR,aY];simp only[bP];lia
abbrev e8(ns:ω Int)(fs:ω Pt)(xs:ω gm)(r:En):En:=ae (il ns)::ae (fv fs)::ae (.lst (xs.map gl))::r
abbrev e9(ns:ω Int)(fs:ω Pt)(xs:ω gm)(G:Pt)(TD:D)(r:En):En:=e8 ns fs xs (ae (.lst (xs.map gl))::ae (fv fs)::ae (.tup [pt G,TD])::r)
abbrev e0(ns:ω Int)(fs:ω Pt)(xs:ω gm)(G:Pt)(TD OD:D)(r:En):En:=e9 ns fs xs G TD (ae (pt G)::ae OD::r)
def Gz:τ (Nk 63) (TH HZ PR IA VO PX OT QA OU QE XT ID) ["_law_script","_law_leans_here","_law_boxes_here","_law_handed","_law_kept_here","_law_found","_law_height","_law_every","_law_place","_law_more","_law_bits_here","_law_cell_here"]:=by
 rintro ds Q ⟨ns,rfl,hn,Qt⟩;rw[cK 11 rfl];unfold TH;simp only[gQ,Ya,aR,bO,aW,bF];refine dI (λj=>∃fs:ω Pt,((1<=fs.length/\fs.length<=4)/\∀f∈fs,rh f)/\j=[ae (il ns),ae (fv fs),ξ,ξ,ξ,ξ,ξ,ξ,ξ,ξ,ξ,ξ]) (λK hK=>?_) ?_
 ·nofun;refine⟨ns,0,rfl,η,λc c0 c1 _=>?_⟩;nofun;refine⟨(BL.const (n:=9000) η).divOk η,?_⟩;refine⟨ns,0,rfl,η,λd d0 d1 _=>?_⟩;nofun;obtain⟨a0,a1⟩:=fQ (a:=d) (b:=3) η;refine⟨nG,?_⟩;exact⟨_,_,rfl,⟨ν,ν⟩,λfs h1 h2=>hK _ ⟨fs,⟨⟨ν,ν⟩,h2⟩,rfl⟩⟩
 rintro j ⟨fs,⟨⟨fl1,fl4⟩,hf⟩,rfl⟩;refine dI (λj=>∃xs:ω gm,(xs.length<=5/\∀x∈xs,t_ fs x)/\j=e8 ns fs xs [ξ,ξ,ξ,ξ,ξ,ξ,ξ,ξ,ξ]) (λK hK=>?_) ?_
 ·simp only[eI,cH,aD,aV,bV,aB,aE,aM,aP];exact⟨ns,fs,rfl,⟨fl1,fl4,ν⟩,hf,λxs l5 hx=>hK _ ⟨xs,⟨l5,hx⟩,rfl⟩⟩
 rintro j ⟨xs,⟨l5,hx⟩,rfl⟩;unfold e8;refine eO (e8 ns fs xs [ψ (.own (xs.map gl)),ξ,ξ,ξ,ξ,ξ,ξ,ξ,ξ]) (λK hK=>?_) ?_
 ·simp only[qM,qL,riL,bV,zQ,Ea,bO,eH,aB,aE,aM,aP];refine⟨mX θ,vW (λj=>∃a b c,j=[a,b,c]) gl gl xs ?_ ⟨ξ,ξ,ξ,rfl⟩ (hK)⟩;rintro x _ j ⟨a,b,c,rfl⟩ K2 fi;unfold gl;simp only[nX,fW,nW,cY,jH,aD,aV,bV,aQ,r1,zW,bP,dG,true_and,aB,aE,aM,aP];exact⟨sz3,fi _ ⟨ae (.int x.1),ae (pt x.2.1),ae (.lst (x.2.2.map jr)),rfl⟩⟩
 unfold e8;refine eO (e8 ns fs xs [ψ (.own (xs.map gl)),ae (fv fs),ξ,ξ,ξ,ξ,ξ,ξ,ξ]) (λK hK=>?_) ?_
 ·simp only[eI,r1,aQ,zW,aB,aE,aM,aP];exact hK
 unfold e8;refine dI (λj=>∃(G:Pt)(T:ω Lb),yp fs xs G T/\j=e8 ns fs xs [ae (.lst (xs.map gl)),ae (fv fs),ae (.tup [pt G,.lst (T.map cn)]),ξ,ξ,ξ,ξ,ξ,ξ]) (λK hK=>?_) ?_
 ·simp only[sX,L2.R2.S.fz,eI,cH,aD,aV,bV,aB,aE,aM,aP];exact⟨fs,xs,_,rfl,l5,hx,λgs G T gr st=>hK _ ⟨G,T,S8 l5 hx gr st,rfl⟩⟩
 rintro j ⟨G,T,L,rfl⟩;have O:=L.ok;have D_:=O.lb;have xn:T.length<=640:=by have:=O.len;lia
 have lbO:=Nz hx;have lenO:(lG xs).length<=640:=by have:=Ak hx;lia
 obtain⟨_,gb1,gb2⟩:=O.ho.bl ν;generalize x8:D.lst (T.map cn)=TD;unfold e8;refine eO (e9 ns fs xs G TD [ae (pt (0,1)),ξ,ξ,ξ,ξ,ξ]) (λK hK=>?_) ?_
 ·simp only[eI,jH,aD,aV,rC,aM,aP,bP,dG];exact⟨sz2,hK⟩
 unfold e9 e8;refine eO (e9 ns fs xs G TD [ae (pt (0,1)),ae (.lst []),ξ,ξ,ξ,ξ]) (λK hK=>?_) ?_
 ·simp only[eI,oZ,aV,aM,aP,dG];exact⟨sz0,hK⟩
 unfold e9 e8;refine dI (λj=>∃(N M:Int)(a b c:Option L2.R2.S),((BL 60 N/\BL 60 M)/\0<M/\(N:Rat) / (M:Rat)=CP xs)/\j=e9 ns fs xs G TD [ae (pt (N,M)),ae (.lst ((lG xs).map cn)),a,b,c,ξ]) (λK hK=>?_) ?_
 ·simp only[lC,riL,bV,aB,aE];refine jG (λys j=>∃(dn td:ω gm)(N M:Int)(a b c:Option L2.R2.S),xs=dn++td/\ys=td.map gl/\((BL (10*(dn.length+1)) N/\BL (10*(dn.length+1)) M)/\0<M/\(N:Rat) / (M:Rat)=CP dn)/\j=e9 ns fs xs G TD [ae (pt (N,M)),ae (.lst ((lG dn).map cn)),a,b,c,ξ]) ?_ ?_ _ _
   ⟨[],xs,0,1,ξ,ξ,ξ,rfl,rfl,⟨⟨BL.const η,BL.const η⟩,η,by show((0:Int):Rat) / ((1:Int):Rat)=0;simp;grind⟩,rfl⟩
  ·rintro y ys j ⟨dn,td,N,M,a,b,c,ec,ey,⟨⟨bN,bM⟩,m0,va⟩,rfl⟩ F hr qk uq _;cases td with
   |nil=>cases ey
   |cons x td=>
    cases ey;have ld:dn.length<=4:=(by have:=Φ eW ec;simp at this;lia);obtain⟨_,s,_,B⟩:=hx x (by rw[ec];simp);obtain⟨_,c1,c2⟩:=B.ho.bl η;have h2:=B.ho.h2;have lw:=(vH _ B.way).1;rw[aY] at lw;have lb:=Ak (fs:=fs) (xs:=dn) λy hy=>hx y (by rw[ec];simp[hy]);unfold GF e9 e8 gl;simp only[nX,fW,nW,cY,bP,dG,true_and,aM,aP,cW,eI,cH,aD,aV,bV,r2,aQ,AN,aB,aE];refine⟨N,M,x.2.1.1,x.2.1.2,rfl,⟨bN.mono ν,bM.mono ν,c1.mono,c2.mono⟩,mX (by simp at *;lia),?_⟩;refine uq _ ⟨dn++[x],td,N*x.2.1.2+x.2.1.1*M,M*x.2.1.2,ae (.int x.1),ae (pt x.2.1),ae (.lst (x.2.2.map jr)),by rw[ec];simp,rfl,⟨⟨?_,?_⟩,aJ m0 h2,?_⟩,?_⟩
    ·exact((bN.mul c2).add (c1.mul bM)).mono (by rw[bR];simp;lia)
    ·exact(bM.mul c2).mono (by rw[bR];simp;lia)
    ·rw[JO,<-va];have n1:=jZ m0;have n2:=jZ h2;show _=_+(_+0);simp only[gY,oN];grind
    ·have e:lG (dn++[x])=lG dn++x.2.2.map g8:=(by unfold lG;rw[kX];simp);rw[e,cI,dF];rfl
  ·rintro j ⟨dn,td,N,M,a,b,c,ec,ey,⟨⟨bN,bM⟩,m0,va⟩,rfl⟩;have:td=[]:=(by simpa using ey.symm);subst this;rw[eH] at ec;subst ec;exact hK _ ⟨N,M,a,b,c,⟨⟨bN.mono ν,bM.mono ν⟩,m0,va⟩,rfl⟩
 rintro j ⟨N,M,a,b,c,⟨⟨bN,bM⟩,m0,va⟩,rfl⟩;generalize hOD:D.lst ((lG xs).map cn)=OD;unfold e9 e8;refine eO (e0 ns fs xs G TD OD [a,b,c,ξ]) (λK hK=>?_) ?_
 ·simp only[eI,cH,aD,aV,r2,aQ,rC,nU,iT,aB,aE,aM,aP];refine⟨N,M,rfl,⟨m0,bM.mono⟩,λp q' l=>?_⟩;have e:(p:Rat) / (q':Rat)=(G.1:Rat) / (G.2:Rat):=by
   rw[O.val,<-va];have n1:=jZ m0;have n2:=jZ l.pos;have w:=Φ (λx:Int=>(x:Rat)) l.worth;simp only[gY] at w;grind
  obtain⟨rfl,rfl⟩:=Pq l.cop O.ho.cop l.pos O.ho.h2 e;exact hK
 unfold e0 e9 e8;have ebx:=Yx xs;have epf:js (fo 8) (fs.map pt) (fs.map pt)=ψ ζ:=OZ λz _=>JJ 6 z;refine eO (e0 ns fs xs G TD OD [a,b,c,ξ]) (λK hK=>?_) ?_
 ·simp only[jU,rOr,tU,dZ,cH,aD,aV,bV,aB,aE];refine⟨G,T,by rw[x8],⟨O.ho.h2,O.ho.cop,gb1.mono,gb2.mono,D_,xn,λc hc z hz=>?_,O.pile.area⟩,?_⟩
  ·obtain⟨x,y0,y1⟩:=O.pile.rin c hc z.1 z.2 c.1 (aK (D_ c hc).ip.pos) (MM (D_ c hc).ip hz);have e1:ht (0,1) z.1 z.2=z.2:=(by unfold ht;dsimp only;lia);rw[e1] at y0 y1;dsimp only at y1;exact⟨x,y0,by rw[dS];rw[rN] at y1;exact y1⟩
  ·simp only[fZ,aS,if_false,r2,aQ,Ox,ebx,epf,aB,aE,true_and,gP];exact hK
 unfold e0 e9 e8;refine dI (λj=>xs≠[]/\j=e0 ns fs xs G TD OD [a,b,c,ξ]) (λK hK=>?_) ?_
 ·cases hxs:xs with
  |nil=>
   have eT:=L.nil hxs;subst eT;have e9:fo 9 (.lst []) (.lst [])=ψ ζ:=(by simp[fo,js]);simp only[jU,dZ,fM,oZ,aV,r2,aQ,rC,Ku,iT,e9,bO,dG,aB,aE,if_true];refine⟨sz0,?_⟩;rw[<-x8];simp only[bO,e9];exact⟨sz0,Qt⟩
  |cons x r=>
   have e9:fo 9 (.lst ((x::r).map gl)) (.lst [])=ψ χ:=(by simp[fo,js]);simp only[jU,dZ,oZ,aV,r2,aQ,Ku,e9,dG,aB,aE,aS,if_false,gP];exact⟨sz0,hK _ ⟨by rw[hxs];simp,by rw[hxs]⟩⟩
 rintro j ⟨ne,rfl⟩;have G1:=L.pos ne;have G2:=O.ho.h2;have f0:Fm (0,1) G:=⟨⟨η,BL.const η,BL.const η⟩,G1,gb1.mono,G2,gb2.mono⟩;unfold e0 e9 e8;refine dI (λj=>∃a8 a9 rn uh,j=e0 ns fs xs G TD OD [a8,a9,rn,uh]) (λK hK=>?_) ?_
 ·simp only[lC,riL,r2,cH,aD,aV,bV,aQ,rC,AN,Jw,sH,DR,oZ,aB,aE,bP,dG,sz1,true_and];refine⟨ns,1,rfl,η,λn _ _ _=>?_⟩;have lc:(cutD (ns.map D.int) ξ (ψ 5)).length<=63:=by
   unfold cutD;rw[nQ,nN,aY];exact qz1 hn
  have hi:∀d∈cutD (ns.map D.int) ξ (ψ 5)++[D.int n],∃i,d = .int i:=λd hd=>by
   rcases bQ.mp hd with z |z
   ·obtain⟨i,_,e⟩:=bG.mp (CB (kH z));exact⟨i,e.symm⟩
   ·exact⟨n,cJ.mp z⟩
  refine⟨mX ν,?_⟩;generalize hys:cutD (ns.map D.int) ξ (ψ 5)++[D.int n]=ys0 at *;refine jG (λys j=>∃a8 a9 rn uh:Option L2.R2.S,(∀d∈ys,∃i,d=D.int i)/\j=e0 ns fs xs G TD OD [a8,a9,rn,uh]) ?_ ?_ _ _ ⟨a,b,c,ξ,hi,rfl⟩
  ·rintro y ys j ⟨a8,a9,rn,uh,hy,rfl⟩ F hr qk uq _;obtain⟨i,rfl⟩:=hy y (dU ..);unfold GE e0 e9 e8;simp only[cY,aM,aP];refine dI (λj=>j=e0 ns fs xs G TD OD [a8,a9,rn,ae (.int i)]) (λK2 fi=>?_) ?_
   ·simp only[jU,dZ,r2,cH,jH,oZ,aD,aV,bV,aQ,rC,gP,iT,aB,aE,bP,dG,sz2,true_and];refine⟨i,(0,1),G,rfl,f0,λX Y W I J N' sp rg bb=>?_⟩;refine⟨T,X,Y,W,χ,by rw[x8],⟨xn,D_⟩,⟨bb.1.mono,bb.2.1.mono,bb.2.2.mono⟩,λ_=>⟨rfl,?_⟩,λnz=>⟨rfl,?_⟩⟩
    ·dsimp only;simp only[aS,if_false];exact fi _ rfl
    ·obtain⟨x0,x1⟩:=O7 G2 sp rg.1.1 rg.1.2;obtain⟨y0,y1⟩:=Sj f0 sp rg.2.1 rg.2.2;have e1:ht (0,1) X Y=Y:=(by unfold ht;dsimp only;lia);have e:cnt (cj χ X Y W) T=1:=O.pile.one X Y W sp.w x0 x1 (by rw[e1];exact y0) (by rw[e1,dS Y];dsimp only;rw[rN];exact y1) nz;rw[e];dsimp only;simp only[decide_true,fZ,aS,if_false];exact fi _ rfl
   rintro j rfl;unfold e0 e9 e8;have lx:(0:Int)<xs.length:=(by have:=jT.mpr ne;lia);refine dI (λj=>∃x∈xs,j=e0 ns fs xs G TD OD [ae (.int x.1),ae (pt x.2.1),ae (.lst (x.2.2.map jr)),ae (.int i)]) (λK2 fi=>?_) ?_
   ·simp only[Du,r1,r2,aQ,sB,oP,aB,aE,aY];refine⟨⟨ν⟩,?_⟩;obtain⟨m0',m1'⟩:=fQ (a:=i) (b:=((xs.length:Nat):Int)) lx;refine YG m0' (by rw[aY];exact m1') λd hd=>?_;obtain⟨x,mx,rfl⟩:=bG.mp hd;unfold gl;simp only[nX,fW,nW,cY,bP,dG,true_and,aM,aP];exact fi _ ⟨x,mx,rfl⟩
   rintro j ⟨x,mx,rfl⟩;obtain⟨p0,s,hs,B⟩:=hx x mx;have f:=B.fm;have fin:F.nx (e0 ns fs xs G TD OD [ae (.int x.1),ae (pt x.2.1),ae (.lst (x.2.2.map jr)),ae (.int i)]):=uq _ ⟨_,_,_,_,λd hd=>hy d (bH _ hd),rfl⟩;unfold e0 e9 e8 at fin⊢;simp only[jU,tU,dZ,r2,cH,aD,aV,bV,aQ,rC,iT,aB,aE];refine Rr p0 (by have:=(cB.mp hs).1;lia) λs' ot=>?_;rw[hs] at ot;cases ot;refine⟨i,s,x.2.1,rfl,f,λX Y W I J N' sp rg bb=>?_⟩;have HBx:HB s x.2.1 x.2.2:=⟨f,by have:=(vH _ B.way).1;rw[aY] at this;lia,λb hb=>by
    obtain⟨hP,g,m⟩:=B.each b hb;have l4:∀P∈wX,P.length<=4:=η;exact⟨g,⟨EV _ hP,by have:=l4 _ hP;lia⟩,SV _ hP,m.mf⟩⟩
   have go:∀d,(d = .non\/∃hs:ω (Int×Int×Int),(∀t∈hs,0<t.2.2/\BL 4000 t.1/\BL 4000 t.2.1/\BL 4000 t.2.2)/\d = .lst (hs.map spT))->OT [TD,OD,d] λv=>match v with
     | .bl k=>if(!k)=ζ then fM (rC (.bl χ)) F (e0 ns fs xs G TD OD [ae (.int x.1),ae (pt x.2.1),ae (.lst (x.2.2.map jr)),ae (.int i)]) else gP F (e0 ns fs xs G TD OD [ae (.int x.1),ae (pt x.2.1),ae (.lst (x.2.2.map jr)),ae (.int i)])
     |_=>False:=λd hd=>⟨T,lG xs,d,by rw[x8,hOD],⟨⟨xn,D_⟩,lenO,lbO⟩,hd,O.homes,fin⟩
   refine⟨s,x.2.1,x.2.2,X,Y,W,I,J,N',rfl,⟨HBx,sp⟩,⟨bb.1.mono,bb.2.1.mono,bb.2.2.mono⟩,λ_=>go _ (.inl rfl),λ_=>go _ (.inr ⟨(x.2.2.filter (p7 I J N')).map λb=>((b.2.2.2.1*X*b.2.2.2.2.1.2+b.2.2.2.2.1.1*W)*b.2.2.2.2.2.2,(b.2.2.2.1*Y*b.2.2.2.2.2.2+b.2.2.2.2.2.1*W)*b.2.2.2.2.1.2,W*b.2.2.2.2.1.2*b.2.2.2.2.2.2),λt ht=>?_,by rw[dF];rfl⟩)⟩;obtain⟨b,hb,rfl⟩:=bG.mp ht;have mf:=(B.each b (jE.mp hb).1).2.2.mf;exact⟨aJ (aJ sp.w mf.q0) mf.v0,Yl mf (bb.1.mono) (bb.2.1.mono) (bb.2.2.mono)⟩
  ·rintro j ⟨a8,a9,rn,uh,_,rfl⟩;exact hK _ ⟨a8,a9,rn,uh,rfl⟩
 rintro j ⟨a8,a9,rn,uh,rfl⟩;simp only[fM,rC];exact Qt
local macro_rules | `(tactic|walk_at "len")=>`(tactic| (intro ds Q h;(repeat obtain⟨_,h⟩:=h);all_goals (subst_vars;rfl)))
def top(i:Nat):Stmt:=PySem.Challenge.pw_recut_k38_whole_strip.main.body.getD i (.Pass ⟨0,0,0,0⟩)
structure TopF(K:aI)(mg:Str->Option aF):Prop where
 d0:aj K mg "_law_added" (top 52) ["_law_one","_law_other"]
 d1:aj K mg "_law_cell" (top 63) ["_law_script","_law_k"]
 d2:aj K mg "_law_divisor" (top 41) ["_law_one","_law_other"]
 d3:aj K mg "_law_due" (top 43) ["_law_share","_law_ring"]
 d4:aj K mg "_law_cut_box" (top 59) ["_law_s","_law_h","_law_way"]
 d5:aj K mg "_law_fraction" (top 42) ["_law_top","_law_bottom"]
 d6:aj K mg "_law_move" (top 55) ["_law_number"]
 d7:aj K mg "_law_boxes" (top 64) ["_law_script","_law_leans_here"]
 d8:aj K mg "_law_led" (top 61) ["_law_move_here","_law_spot"]
 d9:aj K mg "_law_lies" (top 50) ["_law_piece","_law_spot"]
 d10:aj K mg "_law_homes_of" (top 62) ["_law_bits_here","_law_spot"]
 d11:aj K mg "_law_back" (top 56) ["_law_spot","_law_move_here"]
 d12:aj K mg "_law_many" (top 57) ["_law_bits_here","_law_spot","_law_home"]
 d13:aj K mg "_law_kept" (top 66) ["_law_found","_law_bits_here","_law_homes"]
 d14:aj K mg "_law_digit" (top 39) ["_law_number","_law_base","_law_place"]
 d15:aj K mg "_law_leans" (top 54) ["_law_number","_law_many_here"]
 d16:aj K mg "_law_spot_in" (top 60) ["_law_cell_here","_law_s","_law_h"]
 d17:aj K mg "_law_area" (top 51) ["_law_piece"]
 d18:aj K mg "_law_areas" (top 53) ["_law_bits_here"]
 d19:aj K mg "_law_whole" (top 40) ["_law_found"]
 d20:aj K mg "_law_is_fraction" (top 47) ["_law_found"]
 d21:aj K mg "_law_numbers_whole" (top 45) ["_law_piece"]
 d22:aj K mg "_law_turn" (top 44) ["_law_one","_law_two","_law_three"]
 d23:aj K mg "_law_is_piece" (top 46) ["_law_piece"]
 d24:aj K mg "_law_is_bit" (top 48) ["_law_bit"]
 d25:aj K mg "_law_bits" (top 49) ["_law_bits_here"]
 d26:aj K mg "_law_in_box" (top 58) ["_law_piece","_law_s","_law_h"]
 d27:aj K mg "_law_upright" (top 65) ["_law_found","_law_height"]
 d28:aj K mg "shared_divisor" (top 4) ["one","other"]
 d29:aj K mg "ratio" (top 6) ["top","bottom"]
 d30:aj K mg "plus" (top 7) ["one","other"]
 d31:aj K mg "signed" (top 12) ["sign","one"]
 d32:aj K mg "led" (top 13) ["move","spot"]
 d33:aj K mg "behind" (top 14) ["first","second"]
 d34:aj K mg "turn" (top 18) ["one","middle","other"]
 d35:aj K mg "half_round" (top 19) ["points"]
 d36:aj K mg "outline" (top 20) ["points"]
 d37:aj K mg "settled" (top 21) ["share","points"]
 d38:aj K mg "shared_multiple" (top 5) ["one","other"]
 d39:aj K mg "pushed" (top 27) ["piece","move"]
 d40:aj K mg "way_back" (top 15) ["move"]
 d41:aj K mg "carried" (top 29) ["bit","move"]
 d42:aj K mg "lifted" (top 30) ["bit","height"]
 d43:aj K mg "stack" (top 32) ["boxes"]
 d44:aj K mg "stacked" (top 33) ["boxes"]
 d45:aj K mg "excess" (top 22) ["line","point","share"]
 d46:aj K mg "crossing" (top 23) ["one","one_excess","other","other_excess"]
 d47:aj K mg "neighbours" (top 17) ["ones"]
 d48:aj K mg "points_within" (top 24) ["corners","excesses"]
 d49:aj K mg "part_within" (top 25) ["piece","line"]
 d50:aj K mg "cut" (top 26) ["piece","line"]
 d51:aj K mg "floor_of" (top 10) ["one"]
 d52:aj K mg "lowest" (top 34) ["piece"]
 d53:aj K mg "over" (top 9) ["one","other"]
 d54:aj K mg "times" (top 8) ["one","other"]
 d55:aj K mg "levelled" (top 35) ["bit","height"]
 d56:aj K mg "upright" (top 36) ["box","leans"]
 d57:aj K mg "strip" (top 37) ["boxes","leans"]
 d58:aj K mg "law" (top 67) ["_law_script"]
 b0:mg "len" = ξ
 b1:mg "abs" = ξ
 b2:mg "tuple" = ξ
 b3:mg "min" = ξ
 b4:mg "range" = ξ
 b5:mg "int" = ξ
 b6:mg "isinstance" = ξ
 b7:mg "bool" = ξ
 b8:mg "list" = ξ
 b9:mg "reversed" = ξ
 b10:mg "sorted" = ξ
 b11:mg "set" = ξ
 b12:mg "zip" = ξ
 b13:mg "max" = ξ
section
variable{P:cC}{w:cZ}{K:aI}{mg:Str->Option aF}{base:Heap}(T:TopF K mg)
theorem DD:nE (["_law_x","_law_y","_law_most"]:ω Str):=ι
theorem FR:nE (["x","y","divisor"]:ω Str):=ι
theorem JV:nE (["x","y","scale","right","up"]:ω Str):=ι
theorem Cf:nE (["bit","height"]:ω Str):=ι
theorem UX:nE (["number","groups"]:ω Str):=ι
theorem sE:nE (["x","y","own","factor"]:ω Str):=ι
theorem JU:nE (["corner","line","share"]:ω Str):=ι
theorem JT:nE (["x","y"]:ω Str):=ι
theorem Cg:nE (["bit","height"]:ω Str):=ι
theorem MG:nE (["_law_place","_law_height","_law_bits_here"]:ω Str):=ι
include T
def FU:T.d0.W P w base 1 HZ:=
 T.d0.mkD Db λnd hr=>
 c5 (fT (aC (dL gZ (aw cM (av 0) (av 1)) (aw cM (av 1) (av 0))) (aC (dL cM (av 0) (av 1)) aT)))
def qF:T.d1.W P w base 1 IA:=
 T.d1.mkD OO λnd hr=>
 aL (jN (gC DJ (ah 1) (eb (oW T.b0 (ah 0)))) (c5 (dL jW (eb (kL (ah 0) (ah 1))) (aw gZ (aw ZE bJ bJ) bJ))) fV)
 (c5 gI)
def mL:T.d2.W P w base 1 BS:=
 T.d2.mkD MR λnd hr=>
 aL (cL nd (tS HJ T.b1 sW (aC (dv 0) aT)))
 (aL (cL nd (tS HJ T.b1 sW (aC (dv 1) aT)))
 (aL (JH cU (gC WR (ah 1) bJ) (eV (Yt rfl nd (aC (dv 1) (aC (dL jW (ah 0) (ah 1)) aT)))))
 (c5 (dv 0))))
def pT:T.d3.W P w base 2 VN:=
 T.d3.mkD (N:=["_law_share","_law_ring","_law_most","_law_x","_law_y","_law_corners","_law_at"]) ZM λnd hr=>
 aL (cL nd (dv 0))
 (aL (kM cU rfl (jF (dv 1)) (oX rfl (eS (dH nd) (eS (dH nd) mF))) (eV (cL nd (aZ (mL T) hr (aC (aZ (mL T) hr (aC (dv 2) (aC (dv 3) aT))) (aC (dv 4) aT))))))
 (aL (OY ["_law_x","_law_y","_law_most"] 2 [2] nd (jF (dv 1)) (λcl C s H fp=>oX rfl (eS (dH DD) (eS (dH DD) mF))) (λcl C s H fp=>fT (aC (dL hE (ah 0) (ah 2)) (aC (dL hE (ah 1) (ah 2)) aT))))
 (aL (cL nd (Pb hr (ah 5) (Iw hr T.b3 rfl (ah 5))))
 (c5 (fT (aC (dL hE (ah 0) (ah 2)) (aC (Az T.b2 (aw JW (eb (CO (ah 5) (EO (dv 6)) EN)) (eb (CO (ah 5) EN (EO (dv 6)))))) aT)))))))
def OJ:T.d4.W P w base 3 PU:=
 T.d4.mkD Dh λnd hr=>
 aL (cL nd (dL cM (av 0) (av 1)))
 (aL (cL nd (dL cM (av 0) (av 1)))
 (aL (cL nd (dL cM (av 1) (av 0)))
 (aL (jN (gC DJ (ah 2) bJ) (aL (cL nd (fT (aC gI (aC gI aT))))
 (aL (cL nd (fT (aC (dv 3) (aC (dv 4) aT))))
 (aL (cL nd (fT (aC (dv 3) (aC (dL gZ (ah 4) (ah 5)) aT))))
 (aL (cL nd (fT (aC gI (aC (dv 5) aT))))
 (aL (jN (gC uF (ah 2) bJ) (c5 (DO.val (jV (aC (aZ (pT T) hr (aC (dv 3) (aC (DO.val (jV (aC (dv 6) (aC (dv 7) (aC (dv 8) (aC (dv 9) aT)))))) aT))) aT)))) fV)
 (aL (jN (gC uF (ah 2) bJ) (c5 (DO.val (jV (aC (aZ (pT T) hr (aC (dv 3) (aC (DO.val (jV (aC (dv 6) (aC (dv 7) (aC (dv 8) aT))))) aT))) (aC (aZ (pT T) hr (aC (dv 3) (aC (DO.val (jV (aC (dv 6) (aC (dv 8) (aC (dv 9) aT))))) aT))) aT))))) fV)
 (c5 (DO.val (jV (aC (aZ (pT T) hr (aC (dv 3) (aC (DO.val (jV (aC (dv 6) (aC (dv 7) (aC (dv 9) aT))))) aT))) (aC (aZ (pT T) hr (aC (dv 3) (aC (DO.val (jV (aC (dv 7) (aC (dv 8) (aC (dv 9) aT))))) aT))) aT))))))))))) fV)
 (aL (cL nd (DO.val (jV (aC (fT (aC (dv 3) (aC (dv 4) aT))) (aC (fT (aC (dv 3) (aC (dL gZ (ah 4) (aw cM bJ (ah 5))) aT))) aT)))))
 (aL (cL nd (aZ (pT T) hr (aC (dL cM bJ (ah 3)) (aC (DO.val (jV (aC (fT (aC gI (aC gI aT))) (aC (c9 10) (aC (c9 10) (aC (fT (aC gI (aC (dL cM bJ (ah 5)) aT))) aT)))))) aT))))
 (c5 (DO.val (jV (aC (dv 11) (aC (aZ (pT T) hr (aC (dL cM bJ (ah 3)) (aC (DO.val (jV (aC (c9 10) (aC (fT (aC (dL cM bJ (ah 3)) (aC (dL cM bJ (ah 4)) aT))) (aC (fT (aC (dL cM bJ (ah 3)) (aC (dL gZ (aw cM bJ (ah 4)) (aw cM bJ (ah 5))) aT))) (aC (c9 10) aT)))))) aT))) aT))))))))))
def lN:T.d5.W P w base 2 VO:=
 T.d5.mkD KD λnd hr=>
 aL (cL nd (aZ (mL T) hr (aC (dv 0) (aC (dv 1) aT))))
 (c5 (fT (aC (dL hE (ah 0) (ah 2)) (aC (dL hE (ah 1) (ah 2)) aT))))
def ZJ:T.d6.W P w base 3 QB:=
 T.d6.mkD Dp λnd hr=>
 aL (cL nd (kL (eb (DO.val (jV (aC gI (aC (dL ZE bJ bJ) aT))))) (aw jW (aw hE (ah 0) bJ) bJ)))
 (aL (cL nd (aZ (lN T) hr (aC (dL iV (aw jW (aw cM (aw jW (aw cM (ah 0) bJ) bJ) bJ) (aw gZ (aw cM bJ (ah 1)) bJ)) (ah 1)) (aC (dL gZ bJ (aw jW (aw hE (ah 0) bJ) bJ)) aT))))
 (aL (cL nd (aZ (lN T) hr (aC (dL iV (aw jW (ah 0) (aw gZ (aw cM bJ (ah 1)) bJ)) (ah 1)) (aC (dL gZ bJ (aw jW (aw hE (ah 0) bJ) bJ)) aT))))
 (c5 (fT (aC (dL iV bJ (aw cM bJ (aw jW (ah 0) bJ))) (aC (dv 2) (aC (dv 3) aT)))))))
def UZ:T.d7.W P w base 4 PR:=
 T.d7.mkD Dg λnd hr=>
 aL (tN nd (jV aT))
 (aL (kM cU rfl (La T.b4 (aC gI (aC (tS (Tn rfl) T.b3 Km (aC (oW T.b0 (ah 0)) (aC gI aT))) aT))) (dH nd) (aL (cL nd (aZ (qF T) hr (aC (dv 0) (aC (dv 3) aT))))
 (aL (cL nd (dL jW (ah 4) (eb (oW T.b0 (ah 1)))))
 (aL (jN (gC uF (aw jW (eb (aZ (qF T) hr (aC (dv 0) (aC gI aT)))) bJ) bJ) (eV (cL nd (dL jW (aw hE (eb (aZ (qF T) hr (aC (dv 0) (aC gI aT)))) bJ) (eb (oW T.b0 (ah 1)))))) fV)
 (aL (cL nd (aZ (lN T) hr (aC (dL gZ bJ (aw jW (aw hE (ah 4) bJ) bJ)) (aC (dL gZ bJ (aw jW (aw hE (ah 4) bJ) bJ)) aT))))
 (aL (tN nd (jV aT))
 (aL (kM cU rfl (jF (aZ (OJ T) hr (aC (kL (ah 1) (ah 5)) (aC (dv 6) (aC (dL jW (aw hE (ah 4) bJ) bJ) aT))))) (dH nd) (eV (rO 7 (fT (aC (dv 8) (aC (aZ (ZJ T) hr (aC (dL gZ (aw gZ (aw hE (ah 4) bJ) (aw cM bJ (ah 3))) (aw cM bJ (eb (oW T.b0 (ah 7))))) aT)) aT))))))
 (eV (yJ 7 (rO 2 (fT (aC (dv 5) (aC (dv 6) (aC (dv 7) aT))))))))))))))
 (eV (yJ 2 (vZ (dv 2)))))
def Ck:T.d8.W P w base 1 Fa:=
 T.d8.mkD Mp λnd hr=>
 aL (RF (dv 0) (oX rfl (eS (dH nd) (eS (dH nd) (eS (dH nd) mF)))))
 (aL (cL nd (dL cM (aw gZ (aw cM (aw cM (ah 2) (av 1)) (av 3)) (aw cM (av 3) (av 1))) (av 4)))
 (aL (cL nd (dL cM (aw gZ (aw cM (aw cM (ah 2) (av 1)) (av 4)) (aw cM (av 4) (av 1))) (av 3)))
 (c5 (fT (aC (dv 5) (aC (dv 6) (aC (dL cM (aw cM (av 1) (av 3)) (av 4)) aT)))))))
def JX:T.d9.W P w base 1 IB:=
 T.d9.mkD (N:=["_law_piece","_law_spot","_law_share","_law_corners","_law_least","_law_k","_law_one","_law_x","_law_y","_law_side"]) OP λnd hr=>
 aL (RF (dv 0) (oX rfl (eS (dH nd) (eS (dH nd) mF))))
 (aL (cL nd vY)
 (aL (kM cU rfl (yI T.b4 (aC (oW T.b0 (ah 3)) aT)) (dH nd) (aL (cL nd (kL (ah 3) (aw iV (ah 5) bJ)))
 (aL (cL nd (dL iV (aw cM (av 1) (ah 2)) (aw cM (av 6) (av 1))))
 (aL (cL nd (dL iV (aw cM (av 1) (ah 2)) (aw cM (av 6) (av 1))))
 (aL (cL nd (dL iV (aw cM (aw iV (eb (kL (eb (kL (ah 3) (ah 5))) bJ)) (av 6)) (ah 8)) (aw cM (aw iV (eb (kL (eb (kL (ah 3) (ah 5))) bJ)) (av 6)) (ah 7))))
 (eV (jN (DW.tst (qK (gC Qy (ah 4) (eb vY)) (uE (gC DJ (ah 9) (ah 4))))) (eV (cL nd (dv 9))) fV)))))))
 (c5 (dL iV (eb (LQ Fr T.b5 EK (aC (xP WR (ah 4) bJ) aT))) (eb (LQ Fr T.b5 EK (aC (xP DJ (ah 4) bJ) aT)))))))
def MI:T.d10.W P w base 2 PX:=
 T.d10.mkD Dk λnd hr=>
 aL (tN nd (jV aT))
 (aL (kM cU rfl (jF (dv 0)) (oX rfl (eS (dH nd) (eS (dH nd) mF))) (aL (cL nd (aZ (JX T) hr (aC (dv 3) (aC (dv 1) aT))))
 (aL (jN (gC uF (ah 5) bJ) (c5 vY) fV)
 (eV (jN (gC uF (ah 5) bJ) (eV (rO 2 (aZ (Ck T) hr (aC (dv 4) (aC (dv 1) aT))))) fV)))))
 (eV (yJ 2 (vZ (dv 2)))))
def ZG:T.d11.W P w base 1 Ex:=
 T.d11.mkD Mk λnd hr=>
 aL (RF (dv 1) (oX rfl (eS (dH nd) (eS (dH nd) (eS (dH nd) mF)))))
 (aL (cL nd (dL cM (aw cM (ah 2) (aw iV (aw cM (av 0) (av 3)) (aw cM (av 3) (av 0)))) (av 4)))
 (aL (cL nd (dL cM (aw cM (ah 2) (aw iV (aw cM (av 0) (av 4)) (aw cM (av 4) (av 0)))) (av 3)))
 (c5 (fT (aC (dv 5) (aC (dv 6) (aC (dL cM (aw cM (av 0) (av 3)) (av 4)) aT)))))))
def AC:T.d12.W P w base 2 OU:=
 T.d12.mkD Hc λnd hr=>
 aL (cL nd gI)
 (aL (kM cU rfl (jF (dv 0)) (oX rfl (eS (dH nd) (eS (dH nd) mF))) (aL (cL nd (dv 1))
 (aL (jN (lX (dv 2)) (eV (cL nd (aZ (ZG T) hr (aC (dv 1) (aC (dv 5) aT))))) fV)
 (aL (cL nd (aZ (JX T) hr (aC (dv 4) (aC (dv 6) aT))))
 (aL (jN (gC uF (ah 7) bJ) (c5 vY) fV)
 (eV (cL nd (dL gZ (ah 3) (eb (LQ Fr T.b5 EK (aC (xP uF (ah 7) bJ) aT)))))))))))
 (c5 (dv 3)))
def ZI:T.d13.W P w base 3 OT:=
 T.d13.mkD Gy λnd hr=>
 aL (jN (gC Qy (ah 2) (eb vY)) (c5 mV) fV)
 (aL (kM cU rfl (jF (dv 2)) (dH nd) (aL (cL nd (aZ (AC T) hr (aC (dv 1) (aC (dv 3) (aC mV aT)))))
 (aL (cL nd (aZ (AC T) hr (aC (dv 0) (aC (dv 3) (aC mV aT)))))
 (eV (jN (DW.tst (YL (gC ZD (ah 4) (eb vY)) (YL (gC ZD (ah 5) (eb vY)) (YM (gC (Xr hr) (ah 4) (ah 5)))))) (c5 mV) fV)))))
 (c5 mV))
def FV:T.d14.W P w base 1 XR:=
 T.d14.mkD SX λnd hr=>
 aL (kM cU rfl (yI T.b4 (aC (dv 2) aT)) (dH nd) (eV (cL nd (dL hE (ah 0) (ah 1)))))
 (c5 (dL jW (ah 0) (ah 1)))
def VA:T.d15.W P w base 3 QA:=
 T.d15.mkD Do λnd hr=>
 aL (tN nd (jV (aC (aZ (lN T) hr (aC (dL iV (aw jW (ah 0) bJ) bJ) (aC (dL gZ bJ (aw jW (aw hE (ah 0) bJ) bJ)) aT))) aT)))
 (aL (kM cU rfl (yI T.b4 (aC (dL iV (ah 1) bJ) aT)) (dH nd) (aL (cL nd (dL gZ bJ (eb (aZ (FV T) hr (aC (dL hE (ah 0) bJ) (aC gI (aC (dv 3) aT)))))))
 (aL (cL nd (dL gZ bJ (aw jW (eb (aZ (FV T) hr (aC (dL hE (ah 0) bJ) (aC gI (aC (dv 3) aT))))) bJ)))
 (eV (rO 2 (aZ (lN T) hr (aC (dL gZ (aw cM (eb (kL (eb (kL (ah 2) (eb (yH tI bJ)))) bJ)) (ah 5)) (aw cM (ah 4) (eb (kL (eb (kL (ah 2) (eb (yH tI bJ)))) bJ)))) (aC (dL cM (eb (kL (eb (kL (ah 2) (eb (yH tI bJ)))) bJ)) (ah 5)) aT))))))))
 (eV (yJ 2 (vZ (dv 2)))))
def AQ:T.d16.W P w base 1 QE:=
 T.d16.mkD Ds λnd hr=>
 aL (cL nd (dL jW (aw cM (aw cM (aw gZ (aw jW (ah 0) (aw ZE bJ bJ)) bJ) (aw gZ (aw jW (ah 0) (aw ZE bJ bJ)) bJ)) bJ) bJ))
 (aL (cL nd (dL gZ bJ (aw jW (ah 3) bJ)))
 (aL (cL nd (dL gZ bJ (aw jW (aw jW (aw cM (ah 3) bJ) bJ) bJ)))
 (aL (cL nd (dL cM (aw cM (aw cM bJ bJ) (av 1)) (av 2)))
 (c5 (fT (aC (dL cM (aw cM (aw cM (ah 4) bJ) (av 1)) (av 2)) (aC (dL gZ (aw cM (aw cM (aw cM (ah 4) (av 1)) bJ) (av 2)) (aw cM (aw cM (aw cM (ah 5) (av 2)) bJ) (av 1))) (aC (dv 6) aT))))))))
def ZF:T.d17.W P w base 1 XM:=
 T.d17.mkD Gw λnd hr=>
 aL (cL nd gI)
 (aL (kM cU rfl (yI T.b4 (aC (oW T.b0 (av 0)) aT)) (dH nd) (aL (cL nd (kL (av 0) (aw iV (ah 2) bJ)))
 (aL (cL nd (kL (av 0) (ah 2)))
 (eV (cL nd (dL iV (aw gZ (ah 1) (aw cM (av 3) (av 4))) (aw cM (av 3) (av 4))))))))
 (c5 (fT (aC (dv 1) (aC (dL cM (av 0) (av 0)) aT)))))
def UY:T.d18.W P w base 2 PQ:=
 T.d18.mkD Dc λnd hr=>
 aL (cL nd (fT (aC gI (aC gI aT))))
 (aL (kM cU rfl (jF (dv 0)) (dH nd) (eV (cL nd (aZ (FU T) hr (aC (dv 1) (aC (aZ (ZF T) hr (aC (c9 2) aT)) aT))))))
 (c5 (dv 1)))
def oQ:T.d19.W P w base 1 IE:=
 T.d19.mkD SY λnd hr=>
 c5 (RB (xQ (Wi _) T.b6 T.b5 EK (dv 0)) (YH (Yr (xQ (Sn _) T.b6 T.b7 Fo (dv 0)))))
def qQ:T.d20.W P w base 2 XS:=
 T.d20.mkD Mn λnd hr=>
 aL (jN (DW.tst (qK (mK (lX (xQ (tH _) T.b6 T.b2 pN (dv 0)))) (qK (gC DK (eb (oW T.b0 (ah 0))) bJ) (qK (mK (lX (aZ (oQ T) hr (aC (c9 0) aT)))) (uE (mK (lX (aZ (oQ T) hr (aC (c9 0) aT))))))))) (c5 mV) fV)
 (c5 (RB (xP WR (av 0) bJ) (YH (xP uF (eb (aZ (mL T) hr (aC (c9 0) (aC (c9 0) aT)))) bJ))))
def BH:T.d21.W P w base 2 QC:=
 T.d21.mkD AD λnd hr=>
 aL (jN (DW.tst (qK (mK (lX (xQ (tH _) T.b6 T.b2 pN (dv 0)))) (qK (gC DK (eb (oW T.b0 (ah 0))) bJ) (qK (mK (lX (aZ (oQ T) hr (aC (c9 0) aT)))) (uE (gC DJ (av 0) bJ)))))) (c5 mV) fV)
 (aL (jN (DW.tst (qK (mK (lX (xQ (tH _) T.b6 T.b2 pN (c9 0)))) (uE (gC DJ (eb (oW T.b0 (av 0))) bJ)))) (c5 mV) fV)
 (aL (kM cU rfl (RC (c9 0)) (dH nd) (aL (jN (DW.tst (qK (mK (lX (xQ (tH _) T.b6 T.b2 pN (dv 1)))) (uE (gC DK (eb (oW T.b0 (ah 1))) bJ)))) (c5 mV) fV)
 (eV (jN (DW.tst (qK (mK (lX (aZ (oQ T) hr (aC (c9 1) aT)))) (uE (mK (lX (aZ (oQ T) hr (aC (c9 1) aT))))))) (c5 mV) fV))))
 (c5 mV)))
def ZK:T.d22.W P w base 1 XU:=
 T.d22.mkD VD λnd hr=>
 aL (cL nd (dL cM (aw iV (av 1) (av 0)) (aw iV (av 2) (av 1))))
 (c5 (dL iV (ah 3) (aw cM (aw iV (av 1) (av 0)) (aw iV (av 2) (av 1)))))
def MJ:T.d23.W P w base 3 Nl:=
 T.d23.mkD (N:=["_law_piece","_law_share","_law_corners","_law_most","_law_falls","_law_k"]) KE λnd hr=>
 aL (jN (mK (lX (aZ (BH T) hr (aC (dv 0) aT)))) (c5 mV) fV)
 (aL (RF (dv 0) (oX rfl (eS (dH nd) (eS (dH nd) mF))))
 (aL (cL nd (dv 1))
 (aL (cL nd gI)
 (aL (kM cU rfl (yI T.b4 (aC (oW T.b0 (ah 2)) aT)) (dH nd) (aL (cL nd (aZ (mL T) hr (aC (aZ (mL T) hr (aC (dv 3) (aC (kL (eb (kL (ah 2) (ah 5))) bJ) aT))) (aC (kL (eb (kL (ah 2) (ah 5))) bJ) aT))))
 (aL (jN (gC Jk (eb (aZ (ZK T) hr (aC (kL (ah 2) (aw iV (ah 5) bJ)) (aC (kL (ah 2) (aw iV (ah 5) bJ)) (aC (kL (ah 2) (ah 5)) aT))))) bJ) (c5 mV) fV)
 (eV (jN (DW.tst (YL (gC (Qz hr) (eb (kL (ah 2) (aw iV (ah 5) bJ))) (eb (kL (ah 2) (aw iV (ah 5) bJ)))) (YM (gC (Qz hr) (eb (kL (ah 2) (aw iV (ah 5) bJ))) (eb (kL (ah 2) (ah 5))))))) (eV (cL nd (dL gZ (ah 4) bJ))) fV)))))
 (c5 (RB (xP uF (ah 3) bJ) (RB (xP uF (ah 4) bJ) (YH (xP (L8 hr) (av 2) (eb (Iw hr T.b3 rfl (ah 2))))))))))))
def SO:T.d24.W P w base 4 PZ:=
 T.d24.mkD Dm λnd hr=>
 aL (jN (DW.tst (qK (mK (lX (xQ (tH _) T.b6 T.b2 pN (dv 0)))) (qK (gC DK (eb (oW T.b0 (ah 0))) bJ) (uE (mK (lX (aZ (MJ T) hr (aC (c9 0) aT)))))))) (c5 mV) fV)
 (aL (cL nd (c9 0))
 (aL (jN (DW.tst (qK (mK (lX (xQ (tH _) T.b6 T.b2 pN (dv 1)))) (qK (gC DK (eb (oW T.b0 (ah 1))) bJ) (qK (mK (lX (aZ (oQ T) hr (aC (c9 1) aT)))) (uE (gC DK (eb (tS HJ T.b1 sW (aC (c9 1) aT))) bJ)))))) (c5 mV) fV)
 (c5 (RB (aZ (qQ T) hr (aC (c9 1) aT)) (YH (aZ (qQ T) hr (aC (c9 1) aT)))))))
def ZH:T.d25.W P w base 5 XN:=
 T.d25.mkD Gx λnd hr=>
 aL (jN (mK (lX (xQ (So _) T.b6 T.b8 Fp (dv 0)))) (c5 mV) fV)
 (aL (kM cU rfl (jF (dv 0)) (dH nd) (eV (jN (mK (lX (aZ (SO T) hr (aC (dv 1) aT)))) (c5 mV) fV)))
 (c5 mV))
def SN:T.d26.W P w base 1 PY:=
 T.d26.mkD Dl λnd hr=>
 aL (kM cU rfl (RC (c9 0)) (oX rfl (eS (dH nd) (eS (dH nd) mF))) (aL (jN (DW.tst (qK (gC DJ (ah 3) bJ) (uE (gC WR (ah 3) (av 0))))) (c5 mV) fV)
 (aL (cL nd (dL iV (aw cM (ah 4) (av 1)) (aw cM (ah 3) (av 1))))
 (eV (jN (DW.tst (qK (gC DJ (ah 5) bJ) (uE (gC WR (aw cM (ah 5) (av 2)) (aw cM (aw cM (av 2) (av 1)) (av 0)))))) (c5 mV) fV)))))
 (c5 mV)
def OL:T.d27.W P w base 6 XT:=
 T.d27.mkD Ha λnd hr=>
 aL (jN (DW.tst (qK (mK (lX (xQ (tH _) T.b6 T.b2 pN (dv 0)))) (qK (gC DK (eb (oW T.b0 (ah 0))) bJ) (qK (gC (Xr hr) (av 0) (ah 1)) (uE (mK (lX (aZ (qQ T) hr (aC (c9 0) aT))))))))) (c5 mV) fV)
 (aL (jN (mK (lX (aZ (ZH T) hr (aC (c9 0) aT)))) (c5 mV) fV)
 (aL (kM cU rfl (jF (c9 0)) (dH nd) (eV (jN (mK (lX (aZ (SN T) hr (aC (c9 2) (aC (fT (aC gI (aC gI aT))) (aC (dv 1) aT)))))) (c5 mV) fV)))
 (aL (cL nd (aZ (UY T) hr (aC (c9 0) aT)))
 (c5 (xP uF (aw cM (av 3) (av 1)) (aw cM (aw cM bJ (av 1)) (av 3)))))))
def pH:T.d28.W P w base 1 BS:=
 T.d28.mkD FG λnd hr=>
 aL (cL nd (tS HJ T.b1 sW (aC (dv 0) aT)))
 (aL (cL nd (tS HJ T.b1 sW (aC (dv 1) aT)))
 (aL (JH cU (gC DK (ah 3) bJ) (aL (cL nd (dL jW (ah 2) (ah 3)))
 (aL (cL nd (dv 3))
 (eV (cL nd (dv 4))))))
 (c5 (dv 2))))
def JY:T.d29.W P w base 2 pC:=
 T.d29.mkD He λnd hr=>
 aL (jN (gC uF (ah 1) bJ) (eV Pj) fV)
 (aL (cL nd (aZ (pH T) hr (aC (dv 0) (aC (dv 1) aT))))
 (aL (jN (gC DJ (ah 1) bJ) (eV (cL nd (yH tI (ah 2)))) fV)
 (c5 (fT (aC (dL hE (ah 0) (ah 2)) (aC (dL hE (ah 1) (ah 2)) aT))))))
def PH:T.d30.W P w base 3 qO:=
 T.d30.mkD Mr λnd hr=>
 c5 (aZ (JY T) hr (aC (dL gZ (aw cM (av 0) (av 1)) (aw cM (av 1) (av 0))) (aC (dL cM (av 0) (av 1)) aT)))
def ET:T.d31.W P w base 1 qR:=
 T.d31.mkD Dr λnd hr=>
 c5 (fT (aC (dL cM (ah 0) (av 1)) (aC (c9 1) aT)))
def Zy:T.d32.W P w base 4 Ab:=
 T.d32.mkD Rs λnd hr=>
 aL (cL nd (c9 0))
 (c5 (fT (aC (aZ (PH T) hr (aC (aZ (ET T) hr (aC (dv 2) (aC (c9 1) aT))) (aC (c9 0) aT))) (aC (aZ (PH T) hr (aC (aZ (ET T) hr (aC (dv 2) (aC (c9 1) aT))) (aC (c9 0) aT))) aT))))
def Lz:T.d33.W P w base 5 BQ:=
 T.d33.mkD Df λnd hr=>
 aL (cL nd (aZ (Zy T) hr (aC (dv 1) (aC (fT (aC (c9 0) (aC (c9 0) aT))) aT))))
 (c5 (fT (aC (dL cM (av 0) (av 1)) (aC (c9 2) (aC (c9 2) aT)))))
def Uy:T.d34.W P w base 1 zC:=
 T.d34.mkD Ms λnd hr=>
 aL (cL nd (dL cM (aw iV (av 1) (av 0)) (aw iV (av 2) (av 0))))
 (aL (cL nd (dL cM (aw iV (av 1) (av 0)) (aw iV (av 2) (av 0))))
 (c5 (dL iV (ah 3) (ah 4))))
def FW:T.d35.W P w base 2 Ez:=
 T.d35.mkD ON λnd hr=>
 aL (tN nd (jV aT))
 (aL (kM cU rfl (jF (dv 0)) (dH nd) (aL (JH cU (DW.tst (YL (gC WR (eb (oW T.b0 (ah 1))) bJ) (YM (gC Jk (eb (aZ (Uy T) hr (aC (kL (ah 1) (eb (yH tI bJ))) (aC (kL (ah 1) (eb (yH tI bJ))) (aC (dv 2) aT))))) bJ)))) (eV (Yu 1)))
 (eV (rO 1 (dv 2)))))
 (c5 (CO (ah 1) EN (EO (yH tI bJ)))))
def Go:T.d36.W P w base 3 yB:=
 T.d36.mkD ZN λnd hr=>
 aL (cL nd (DO.val (Fw hr T.b10 T.b11 rfl (ah 0))))
 (c5 (dL JW (eb (aZ (FW T) hr (aC (dv 1) aT))) (eb (aZ (FW T) hr (aC (DO.val (Fv T.b8 T.b9 rfl (ah 1))) aT)))))
def SQ:T.d37.W P w base 4 rL:=
 T.d37.mkD ZO λnd hr=>
 aL (cL nd (aZ (Go T) hr (aC (dv 1) aT)))
 (aL (jN (gC DJ (eb (oW T.b0 (ah 2))) bJ) (c5 vY) fV)
 (aL (cL nd (dv 0))
 (aL (kM cU rfl (jF (dv 2)) (oX rfl (eS (dH nd) (eS (dH nd) mF))) (eV (cL nd (aZ (pH T) hr (aC (aZ (pH T) hr (aC (dv 3) (aC (dv 4) aT))) (aC (dv 5) aT))))))
 (c5 (fT (aC (dL hE (ah 0) (ah 3)) (aC (Az T.b2 (eb (DO.val (EM ["x","y","divisor"] 2 [3] (jF (dv 2)) (λcl C s H fp=>oX rfl (eS (dH FR) (eS (dH FR) mF))) (λcl C s H fp=>fT (aC (dL hE (ah 0) (ah 2)) (aC (dL hE (ah 1) (ah 2)) aT))))))) aT)))))))
def wA:T.d38.W P w base 2 Nm:=
 T.d38.mkD DN λnd hr=>
 c5 (dL cM (ah 0) (aw hE (ah 1) (eb (aZ (pH T) hr (aC (dv 0) (aC (dv 1) aT))))))
def Mc:T.d39.W P w base 5 BT:=
 T.d39.mkD Dq λnd hr=>
 aL (cL nd (c9 1))
 (aL (cL nd (c9 1))
 (aL (cL nd (aZ (wA T) hr (aC (aZ (wA T) hr (aC (c9 0) (aC (c9 2) aT))) (aC (c9 3) aT))))
 (aL (cL nd (dL cM (av 1) (aw hE (ah 4) (av 0))))
 (aL (cL nd (dL cM (av 2) (aw hE (ah 4) (av 2))))
 (aL (cL nd (dL cM (av 3) (aw hE (ah 4) (av 3))))
 (c5 (aZ (SQ T) hr (aC (dv 4) (aC (DO.val (EM ["x","y","scale","right","up"] 2 [5,6,7] (RC (c9 0)) (λcl C s H fp=>oX rfl (eS (dH JV) (eS (dH JV) mF))) (λcl C s H fp=>fT (aC (dL gZ (aw cM (ah 2) (ah 0)) (ah 3)) (aC (dL gZ (aw cM (ah 2) (ah 1)) (ah 4)) aT))))) aT)))))))))
def Co:T.d40.W P w base 2 vL:=
 T.d40.mkD VE λnd hr=>
 aL (cL nd (c9 0))
 (c5 (fT (aC (dv 1) (aC (aZ (ET T) hr (aC (yH tI (ah 1)) (aC (c9 0) aT))) (aC (aZ (ET T) hr (aC (yH tI (ah 1)) (aC (c9 0) aT))) aT)))))
def Gn:T.d41.W P w base 6 Ey:=
 T.d41.mkD Ml λnd hr=>
 c5 (fT (aC (aZ (Mc T) hr (aC (c9 0) (aC (dv 1) aT))) (aC (aZ (Lz T) hr (aC (aZ (Co T) hr (aC (dv 1) aT)) (aC (c9 0) aT))) aT)))
def MK:T.d42.W P w base 7 zB:=
 T.d42.mkD Hb λnd hr=>
 c5 (aZ (Gn T) hr (aC (dv 0) (aC (fT (aC gI (aC (fT (aC gI (aC gI aT))) (aC (dv 1) aT)))) aT)))
def Rc:T.d43.W P w base 8 IC:=
 T.d43.mkD Hf λnd hr=>
 aL (cL nd (fT (aC gI (aC gI aT))))
 (aL (tN nd (jV aT))
 (aL (kM cU rfl (jF (dv 0)) (dH nd) (aL (LU 2 (DO.val (EM ["bit","height"] 1 [1] (jF (c9 3)) (λcl C s H fp=>dH Cf) (λcl C s H fp=>aZ (MK T) hr (aC (dv 0) (aC (dv 1) aT))))))
 (eV (cL nd (aZ (PH T) hr (aC (dv 1) (aC (c9 3) aT)))))))
 (eV (yJ 2 (vZ (fT (aC (kL (av 0) bJ) (aC (dv 1) (aC (dv 2) aT)))))))))
def Gq:T.d44.W P w base 9 yC:=
 T.d44.mkD ZP λnd hr=>
 aL (Ua nd)
 (aL (kM cU rfl (jF (dv 0)) (dH nd) (eV (Tz 1 (c9 2) (dv 2))))
 (eV (yJ 1 (vZ (DO.val (EM ["number","groups"] 1 [1] (jF (DO.val (Ph T.b10 (eb (DO.val (Pf T.b8 rfl (dv 1))))))) (λcl C s H fp=>dH UX) (λcl C s H fp=>aZ (Rc T) hr (aC (Yq hr (dv 1) (dv 0)) aT))))))))
def Ma:T.d45.W P w base 1 BR:=
 T.d45.mkD Di λnd hr=>
 c5 (dL iV (aw gZ (aw cM (av 0) (av 1)) (aw cM (av 0) (av 1))) (aw cM (av 0) (ah 2)))
def Cl:T.d46.W P w base 1 XO:=
 T.d46.mkD VC λnd hr=>
 aL (cL nd (tS HJ T.b1 sW (aC (dv 1) aT)))
 (aL (cL nd (tS HJ T.b1 sW (aC (dv 3) aT)))
 (c5 (fT (aC (dL gZ (aw cM (av 0) (ah 5)) (aw cM (av 2) (ah 4))) (aC (dL gZ (aw cM (av 0) (ah 5)) (aw cM (av 2) (ah 4))) (aC (dL gZ (ah 4) (ah 5)) aT))))))
def VB:T.d47.W P w base 1 XV:=
 T.d47.mkD OQ λnd hr=>
 c5 (DO.val (RD T.b8 T.b12 rfl (ah 0) (aw JW (eb (CO (ah 0) (EO gI) EN)) (eb (CO (ah 0) EN (EO gI))))))
def ML:T.d48.W P w base 2 QD:=
 T.d48.mkD HR λnd hr=>
 aL (tN nd (jV aT))
 (aL (kM cU rfl (jF (aZ (VB T) hr (aC (DO.val (RD T.b8 T.b12 rfl (ah 0) (ah 1))) aT))) (oX rfl (eS (dH nd) (eS (dH nd) mF))) (aL (jN (gC Jk (av 3) bJ) (eV (rO 2 (fT (aC (kL (av 3) bJ) (aC (kL (av 3) bJ) (aC gI aT)))))) fV)
 (eV (jN (gC DJ (aw cM (av 3) (av 4)) bJ) (eV (rO 2 (aZ (Cl T) hr (aC (c9 3) (aC (c9 3) (aC (c9 4) (aC (c9 4) aT))))))) fV))))
 (eV (yJ 2 (vZ (dv 2)))))
def DL:T.d49.W P w base 5 Fc:=
 T.d49.mkD MS λnd hr=>
 aL (cL nd (c9 0))
 (aL (OY ["corner","line","share"] 1 [1,2] nd (RC (c9 0)) (λcl C s H fp=>dH JU) (λcl C s H fp=>aZ (Ma T) hr (aC (dv 1) (aC (dv 0) (aC (dv 2) aT)))))
 (aL (jN (gC Jk (eb (Ty T.b13 rfl (ah 3))) bJ) (c5 (dv 0)) fV)
 (aL (jN (gC L9 (eb (Iv T.b3 rfl (ah 3))) bJ) (c5 vY) fV)
 (aL (yJ 3 (cL nd (aZ (ML T) hr (aC (c9 0) (aC (dv 3) aT)))))
 (aL (cL nd gI)
 (aL (kM cU rfl (jF (dv 4)) (dH nd) (eV (cL nd (dL cM (ah 5) (av 6)))))
 (aL (OY ["x","y","own","factor"] 3 [5] nd (jF (dv 4)) (λcl C s H fp=>oX rfl (eS (dH sE) (eS (dH sE) (eS (dH sE) mF)))) (λcl C s H fp=>fT (aC (dL cM (ah 0) (aw hE (ah 3) (ah 2))) (aC (dL cM (ah 1) (aw hE (ah 3) (ah 2))) aT))))
 (eV (yJ 7 (vZ (aZ (SQ T) hr (aC (dL cM (ah 2) (ah 5)) (aC (dv 7) aT)))))))))))))
def Zx:T.d50.W P w base 6 XQ:=
 T.d50.mkD Mm λnd hr=>
 aL (cL nd (fT (aC (yH tI (av 1)) (aC (yH tI (av 1)) (aC (yH tI (av 1)) aT)))))
 (c5 (fT (aC (aZ (DL T) hr (aC (dv 0) (aC (dv 1) aT))) (aC (aZ (DL T) hr (aC (dv 0) (aC (dv 2) aT))) aT))))
def Cm:T.d51.W P w base 1 PV:=
 T.d51.mkD Dj λnd hr=>
 c5 (dL hE (av 0) (av 0))
def Mb:T.d52.W P w base 3 Fb:=
 T.d52.mkD Mq λnd hr=>
 c5 (aZ (JY T) hr (aC (Iv T.b3 rfl (eb (DO.val (EM ["x","y"] 2 [] (RC (c9 0)) (λcl C s H fp=>oX rfl (eS (dH JT) (eS (dH JT) mF))) (λcl C s H fp=>dv 1))))) (aC (c9 0) aT)))
def Ux:T.d53.W P w base 3 XW:=
 T.d53.mkD Hd λnd hr=>
 c5 (aZ (JY T) hr (aC (dL cM (av 0) (av 1)) (aC (dL cM (av 0) (av 1)) aT)))
def Rf:T.d54.W P w base 3 wJ:=
 T.d54.mkD Hi λnd hr=>
 c5 (aZ (JY T) hr (aC (dL cM (av 0) (av 1)) (aC (dL cM (av 0) (av 1)) aT)))
def Cn:T.d55.W P w base 8 Ia:=
 T.d55.mkD Rt λnd hr=>
 aL (cL nd (c9 0))
 (aL (cL nd (aZ (Cm T) hr (aC (aZ (Ux T) hr (aC (aZ (Mb T) hr (aC (dv 2) aT)) (aC (dv 1) aT))) aT)))
 (aL (tN nd (jV aT))
 (aL (JH cU (gC ZD (ah 2) (eb vY)) (aL (cL nd (aZ (Zx T) hr (aC (dv 2) (aC (fT (aC gI (aC (c9 1) (aC (dL cM (aw gZ (ah 3) bJ) (av 1)) aT)))) aT))))
 (aL (rO 4 (aZ (MK T) hr (aC (fT (aC (c9 5) (aC (c9 0) aT))) (aC (aZ (Rf T) hr (aC (dv 1) (aC (fT (aC (yH tI (ah 3)) (aC gI aT))) aT))) aT))))
 (aL (cL nd (c9 5))
 (eV (cL nd (dL gZ (ah 3) bJ)))))))
 (eV (yJ 4 (vZ (dv 4)))))))
def Gr:T.d56.W P w base 9 Fd:=
 T.d56.mkD Mt λnd hr=>
 aL (tN nd (jV aT))
 (aL (kM cU rfl (jF (c9 0)) (dH nd) (eV (LU 2 (aZ (Cn T) hr (aC (dv 3) (aC (c9 0) aT))))))
 (eV (yJ 2 (vZ (fT (aC (c9 0) (aC (dv 2) aT)))))))
def Re:T.d57.W P w base 10 ID:=
 T.d57.mkD Hg λnd hr=>
 aL (cL nd (fT (aC gI (aC gI aT))))
 (aL (tN nd (jV aT))
 (aL (kM cU rfl (jF (aZ (Gq T) hr (aC (dv 0) aT))) (dH nd) (aL (cL nd (aZ (Gr T) hr (aC (dv 4) (aC (dv 1) aT))))
 (aL (LU 3 (DO.val (EM ["bit","height"] 1 [2] (jF (c9 5)) (λcl C s H fp=>dH Cg) (λcl C s H fp=>aZ (MK T) hr (aC (dv 0) (aC (dv 1) aT))))))
 (eV (cL nd (aZ (PH T) hr (aC (dv 2) (aC (c9 5) aT))))))))
 (eV (yJ 3 (vZ (fT (aC (dv 2) (aC (dv 3) aT))))))))
def fo_law{f:Addr}{fd:nK}(Fu:u3 K "law" "law" (top 67) f fd):jo P w K mg base m_ 11 f fd ["_law_script"] (t9 K (Nk 63)):=
 Zt Fu Ul Gz λnd hr=>
 aL (cL nd (aZ (VA T) hr (aC (dL hE (eb (aZ (qF T) hr (aC (dv 0) (aC gI aT)))) bJ) (aC (dL gZ bJ (aw jW (eb (aZ (qF T) hr (aC (dv 0) (aC gI aT)))) bJ)) aT))))
 (aL (cL nd (aZ (UZ T) hr (aC (dv 0) (aC (dv 1) aT))))
 (aL (OY ["_law_place","_law_height","_law_bits_here"] 3 [] nd (jF (dv 2)) (λcl C s H fp=>oX rfl (eS (dH MG) (eS (dH MG) (eS (dH MG) mF)))) (λcl C s H fp=>fT (aC (dv 0) (aC (dv 1) (aC (WE T.b8 (ah 2)) aT)))))
 (aL (cL nd (WE T.b8 (ah 1)))
 (aL (yJ 3 (cL nd (aZ (Re T) hr (aC (dv 3) (aC (dv 4) aT)))))
 (aL (cL nd (fT (aC gI (aC gI aT))))
 (aL (cL nd (DO.val (jV aT)))
 (aL (kM cU rfl (jF (dv 2)) (oX rfl (eS (dH nd) (eS (dH nd) (eS (dH nd) mF)))) (aL (cL nd (aZ (FU T) hr (aC (dv 6) (aC (dv 9) aT))))
 (eV (cL nd (dL JW (ah 7) (ah 10))))))
 (aL (cL nd (aZ (lN T) hr (aC (c9 6) (aC (c9 6) aT))))
 (aL (jN (DW.tst (qK (mK (lX (aZ (OL T) hr (aC (dv 5) (aC (dv 6) aT))))) (qK (gC (Ra hr) (ah 3) (ah 2)) (uE (gC (Ra hr) (ah 4) (ah 1)))))) (c5 mV) fV)
 (aL (jN (gC (Qx hr) (ah 2) (eb (DO.val (jV aT)))) (c5 (xP (Qx hr) (av 5) (eb (DO.val (jV aT))))) fV)
 (aL (kM cU rfl (jF (dL JW (eb (DO.val (Pg (ah 0) EN (EO gI)))) (eb (DO.val (jV (aC (aZ (qF T) hr (aC (dv 0) (aC gI aT))) aT)))))) (dH nd) (aL (jN (gC (Rb hr) (eb (aZ (AC T) hr (aC (c9 5) (aC (aZ (AQ T) hr (aC (dv 11) (aC (fT (aC gI (aC gI aT))) (aC (dv 6) aT)))) (aC mV aT))))) (eb (DO.val (jV (aC gI (aC vY aT))))) rfl) (c5 mV) fV)
 (aL (RF (kL (ah 2) (aw jW (ah 11) (eb (oW T.b0 (ah 2))))) (oX rfl (eS (dH nd) (eS (dH nd) (eS (dH nd) mF)))))
 (eV (jN (mK (lX (aZ (ZI T) hr (aC (c9 5) (aC (dv 7) (aC (aZ (MI T) hr (aC (dv 10) (aC (aZ (AQ T) hr (aC (dv 11) (aC (kL (ah 1) (ah 8)) (aC (dv 9) aT)))) aT))) aT)))))) (c5 mV) fV)))))
 (c5 mV))))))))))))
end
end K38
end
end L2.R2
inductive PySem.W.Fast:Prop|tw18281250394439407939|tw11270745238404743354|tw11839444612127268248|tw3754824524318848749|tw4632001908769720993|tw12938771327952435359|tw1509535329573549543|tw3035513659447215279|tw6234278681400490382|tw555723810501445031|tw10753176352041373082|tw12566549848632372604|tw15522850572673608174|tw10401159459398937755|tw2000738417436494301|tw17078556064515528713|tw17475237990683012745|tw10345105200316024842|tw11288945979052497893|tw8280441334565780689|tw8032844398461665857|tw18028870067565656210|tw5948156060500626063|tw16970900578674051012|tw3210198687379005407|tw5249435790037008990|tw10025533357884261640|tw9250694194750645456|tw11982072456215600266|tw834869863044921956|tw5335600149950563914|tw9268486079493993533|tw14692364979897353105|tw5787916562921721420|tw6585331831610120529|tw9402106442603713214|tw15303513788590663652|tw6287654765093252997|tw1425064153015875840|tw7541421279745885589|tw16316374356015445709|tw6893942579355185197|tw16461903849364510806|tw16891875342123407242|tw7087789112167334296|tw644812644467068011|tw6966364473700828013|tw140543754994158826|tw15982823918013832224|tw11630172584214637704|tw10487954247010073961|tw10108506037254633306|tw1836534467600993385|tw6033600678756902402|tw14301204526891221821|tw13693170111689327742|tw14887695444836220732|tw8608639369438892232|tw11676642826457421631|tw10887664429495848741|tw6335418235880505859|tw10250331700176220701|tw5915780913999528600|tw13351463192610304325|tw15695770967522642680|tw8179245144182929447|tw13746828590341549263|tw1358995336833936664|tw18059907520010316614|tw16547795980830096076|tw4797269105752205474|tw12907148421401878513|tw8066676516689226007|tw258017741411213959|tw10651514920406162381|tw6514910011900442138|tw6570692783996726022|tw10529301290926627603|tw10743559980072713765|tw14253338509609672984|tw16648503662435967494|tw6283395016887480227|tw6101637494229026622|tw17659233431416678346|tw11321374530306604133|tw11751613270966688755|tw16678393927318299550|tw8130774240882191254|tw13272281373346749877|tw6120651573691550035|tw5652996743136859203|tw5286432625380990778|tw5030512807373905511|tw6338652836802614679|tw4112788444053406713|tw10793978580375218985|tw4472312001635762901|tw13983105553890297306|tw8496560560806380404|tw3678778052678512979|tw366292314420487583|tw3489957917812039421|tw14214654748310395182|tw264342252473657847|tw4834818183098447541|tw1802400079865538224|tw1406408822155917193|tw1854694132095701410|tw3120814223655055791|tw8289559476197239151|tw16167416787309152951|tw12405843421050771332|tw10929673633272727983|tw17445294768336667381|tw16909516024596614720|tw15214756010566788917|tw9007844569880203366|tw13860440149022296683|tw14901095400070581906|tw14575547079642456139|tw11967334404973934994|tw4824201445490395985|tw8699327914400795416|tw7224621033539682526|tw16077066074174066922|tw1598045577524481220|tw3358363408560823951|tw15741263066375567630|tw16254067090263075975|tw12710389237314945380|tw17946806787225269387|tw7904123737472363566|tw7017723838705927669|tw219908000118654563|tw18053712224232980735|tw14921820579238688352|tw6436248758422055048|tw17868977321883658067|tw4644348470696975262|tw12272645051207878710|tw7075394163533541720|tw10115823564401925178|tw2409295534427639983|tw6464044096506404612|tw15613222293387594998|tw9440727845285457177|tw15315848818579796925|tw1271736746076250043|tw13373975290610670675
open PySem PySem.W PyProof.Rows
set_option maxRecDepth 100000 in
set_option maxHeartbeats 0 in
theorem PySem.Challenge.cw_recut_k38_whole_strip_holds : PySem.Challenge.rw_recut_k38_whole_strip.Holds := by
 w_on;o_law;k_head;(case hw=>w_witness2)
 k_fill
 refine L2.R2.walk_law (l:=PySem.Challenge.rw_recut_k38_whole_strip) (k:=11) (x:="_law_script") rfl rfl ⟨rfl,by decide,by decide⟩ (λw h Y=>PySem.W.kIn_of Y) rfl ?L ?F
 case L =>
  intro w
  refine' L2.R2.noLam ?q1 ?q2 ?q3
  (case q1=>k_is)
  (case q2=>k_is)
  (case q3=>k_is)
 case F =>
  intro w mg h KX G;have T:L2.R2.K38.TopF (L2.KOf KX) mg:=by
   dsimp only[L2.KOf];constructor
   all_goals first | (refine PySem.W.mg_none_of KX G ?z;(case z=>k_is)) | (refine' L2.R2.def_mk KX G ?a ?l ?c ?k ?b;(case a=>k_is);(case l=>k_is);(case c=>k_is);(case k=>k_is);(case b=>first | exact L2.R2.bind1 (λ_=>rfl) | exact L2.R2.bind2 (λ_ _=>rfl) | exact L2.R2.bind3 (λ_ _ _=>rfl) | exact L2.R2.bind4 (λ_ _ _ _=>rfl)))
  exact T.d58.okL λbase f fd Fu=>L2.R2.K38.fo_law T Fu
