import PyProof.Rows.All
import Wide.All
import OpenK.AllK
import Wide.FinOn
import Lean
import PyProof.EqAt
import PyProof.EqKinds
import PyProof.TupleCall
import PySem.Challenge.RW_recut_k34_twins
set_option Elab.async false
set_option linter.all false
set_option maxRecDepth 100000
set_option maxHeartbeats 4000000
noncomputable section
open Array renaming append_assoc->rZ,append_empty->CI,find?_toList->CJ,foldl_toList->CK,forIn_toList->CL,getD->hU,getD_eq_getD_getElem?->cT,getElem?_eq_getElem->aW,getElem?_eq_none->oM,getElem?_eq_some_iff->gO,getElem?_setIfInBounds_ne->pM,getElem?_setIfInBounds_self_of_lt->lU,getElem?_toList->fV,getElem_of_mem->yE,length_toList->bQ,mem_of_getElem?->xO,mem_toList_iff->fH,replicate->wW,size_map->yF,toList_extract->yG,toList_filterMap->vV,toList_inj->GE,toList_push->tH
open Array.Perm renaming mem_iff->CH,refl->nR
open Bool renaming and_assoc->JZ,and_eq_true->jE,and_false->KB,and_true->lD,beq_eq_decide_eq->lH,decide_and->nS,eq_iff_iff->nT,false_and->yH,false_eq_true->aP,false_ne_true->bS,false_or->NZ,not_false->lW,not_true->eS,or_false->AV,xor_false->sA
open Classical renaming byContradiction->jP
open False renaming elim->eG
open ForInStep renaming yield->IS
open Function renaming comp->AX,comp_def->EH
open Int renaming add_zero->EJ,dvd_coe_gcd->IT,dvd_mul_left->GI,dvd_refl->oQ,dvd_trans->lG,ediv_mul_cancel->AL,eq_of_mul_eq_mul_left->dX,eq_of_mul_eq_mul_right->eI,fdiv_eq_ediv_of_nonneg->cJ,fmod_eq_emod_of_nonneg->lZ,gcd->cF,gcd_dvd_left->kG,gcd_dvd_right->jS,gcd_ediv_gcd_ediv_gcd->sX,gcd_pos_of_ne_zero_left->iY,le_of_dvd->nF,lt_irrefl->qI,lt_of_lt_of_le->CN,lt_or_eq_of_le->CO,lt_trichotomy->EK,mul_assoc->kD,mul_comm->mL,mul_dvd_mul->wY,mul_ediv_cancel'->gG,mul_ediv_cancel_left->eT,mul_lt_mul_left->AM,mul_nonneg->KC,mul_nonpos_of_nonneg_of_nonpos->gD,mul_pos->bZ,natAbs_dvd_natAbs->lI,natAbs_mul->mB,ne_of_gt->vY,neg_lt_neg_iff->CP,not_le->CQ,pos_of_mul_pos_left->iK,sub_pos_of_lt->EL,toNat_natCast->tK,toNat_of_nonneg->gS,zero_mul->vZ
open List renaming Nodup->nZ,all_eq_true->GK,any_cons->AY,any_eq_false->EN,append_assoc->fT,append_inj_left'->pR,append_inj_right'->gP,append_nil->dL,append_of_mem->CS,concat_eq_append->xQ,cons_append->cD,contains_iff_mem->xR,dropLast->OA,dropLast_concat->mD,drop_eq_getElem_cons->fQ,drop_length->GL,drop_zero->sF,eq_nil_or_concat->eW,eraseIdxIfInBounds_toArray->pO,ext_getElem->mM,ext_getElem?->tL,filterMap_append->xS,filterMap_cons->cL,filter_append->CT,filter_congr->EO,filter_cons->pW,find?_cons->lA,find?_eq_none->CU,flatMap_append->nB,flatMap_cons->lQ,flatMap_def->pX,flatMap_singleton->wA,foldl_append->tM,foldl_cons->nU,forIn_cons->IU,getD_eq_getElem?_getD->bR,getElem?_append_left->dA,getElem?_append_right->dP,getElem?_cons_succ->aI,getElem?_cons_zero->aH,getElem?_drop->sG,getElem?_eq_getElem->aC,getElem?_eq_none->gZ,getElem?_eq_some_iff->aX,getElem?_map->aT,getElem?_range->AO,getElem?_replicate->gH,getElem?_set->oS,getElem?_set_ne->bG,getElem?_set_self->cY,getElem?_toArray->xT,getElem?_zip_eq_some->sY,getElem_drop->EQ,getElem_map->pY,getElem_mem->jF,getElem_of_mem->eK,length->gU,length_append->bV,length_cons->bJ,length_drop->hV,length_dropLast->yL,length_eq_zero_iff->iM,length_eraseIdx_le->uU,length_erase_of_mem->uB,length_map->aS,length_nil->dU,length_pos_iff->nD,length_pos_of_mem->wB,length_range->oT,length_replicate->jM,length_reverse->rB,length_set->iR,length_singleton->pS,length_take->fC,lookup->yM,lookup_cons->pZ,map->qL,map_append->dN,map_congr_left->gT,map_cons->aU,map_drop->OB,map_eq_append_iff->wC,map_eq_cons_iff->yN,map_id->mE,map_map->cZ,map_nil->cX,map_reverse->GM,map_snd_zip->GN,map_take->AZ,mem_append->cH,mem_append_left->eP,mem_append_right->bK,mem_cons->aL,mem_cons_of_mem->bD,mem_cons_self->cI,mem_erase_of_ne->yO,mem_filter->fB,mem_filterMap->oA,mem_map->cK,mem_map_of_mem->fS,mem_of_find?_eq_some->sZ,mem_of_getElem?->bF,mem_of_mem_drop->yP,mem_of_mem_take->yQ,mem_range->eZ,mem_reverse->mO,mem_singleton->cG,nil_append->cO,nodup_append->oU,nodup_cons->fL,nodup_nil->KG,nodup_range->GO,not_mem_nil->eB,of_mem_zip->qQ,pairwise_append->gI,pairwise_cons->bW,pairwise_iff_getElem->fR,pairwise_map->jV,pairwise_reverse->lJ,pairwise_singleton->kH,perm_append_comm->xU,perm_middle->GP,range->cV,range_succ->wZ,replicate->dG,reverse_cons->tN,set_cons_succ->bH,set_cons_zero->bC,set_eq_of_length_le->uC,singleton_append->xV,size_toArray->aN,take_append_drop->fW,take_length->uV,take_of_length_le->iZ,take_sublist->ER,take_succ->oV,take_succ_cons->AQ,toArray->gQ,zipWith->rL,zipWith_cons_cons->oW,zip_append->xA,zip_cons_cons->hX,zip_nil_left->ES,zip_nil_right->CV
open List.Pairwise renaming map->jT,nil->jU,sublist->jL
open List.Perm renaming append_left->xP,refl->sE,swap->KE
open List.Sublist renaming refl->EM
open List.cons renaming injEq->qP
open Nat renaming eq_zero_of_zero_dvd->uX,eq_zero_or_pos->sH,gcd_comm->wD,gcd_zero_right->CW,le_mul_of_pos_right->uY,le_of_dvd->uD,le_of_eq->wE,le_of_lt->jA,le_of_lt_succ->iO,le_refl->aZ,le_succ->mF,le_succ_of_le->oX,le_trans->dQ,lt_irrefl->fM,lt_of_le_of_lt->CY,lt_of_lt_of_le->aV,lt_or_eq_of_le->CZ,lt_succ_of_lt->fA,lt_succ_self->mP,lt_trans->mQ,min_eq_left->IV,mod_lt->kQ,mul_le_mul_right->yR,ne_of_gt->jB,ne_of_lt->aR,not_lt->DC,not_lt_zero->nV,strongRecOn->xD,sub_le_sub_right->yS,sub_zero->ET,succ_le_succ->uZ,succ_ne_self->mR,zero_add->EV,zero_le->dY
open Nat.Coprime renaming dvd_of_dvd_mul_left->pP
open Nat.succ renaming inj->EU
open Option renaming bind_some->GQ,getD_none->GR,getD_some->kJ,isSome_iff_exists->uE,map->KH,map_eq_some_iff->kR,map_some->jQ,none->yT
open Option.some renaming inj->dE,injEq->jW
open Or renaming inl->eD,inr->eJ
open Prod renaming ext->fY
open Prod.mk renaming injEq->fD
open PyProof.Rows renaming args_list_sort->KP,assignInOrder_cons->sL,assignInOrder_nil->FB,boot_isinstance->lB,callWith_builtin1->hZ,callWith_type1->dZ,get?_update_seq->qU,listUpdate_at->uI,list_sort_plain->JD,seqEpoch_at->zU,slicePart_none->NM,slot_tuple_getitem->pQ,subscriptTail_builtinR->wU
open PyProof.Rows.IsTup renaming new->GJ
open PyProof.Rows.KeyOrd renaming kle_antisymm->AN,kle_of_klt->lO,kle_refl->iQ,kle_trans->pV
open PySem renaming Around->cE,FuncData->iC,Keyword->lP,Program->bA,Shared->aD,Value->aB,World->cA,builtinLookup_eq_fast->pT,call->KJ,call_function_tree->DH,call_list_seq->OJ,call_meets->wM,codeAny_builtin->eF,codeAny_call_builtin->iE,codeAny_mono->jX,codeAny_of_tree->xG,concat_meets->FG,evalPart_none->BG,frameOf->BC,intBits_le_64->OO,intBits_le_iff->LR,isSubtype_type->LS,list_append->EY,mem_of_lookup->iU,noFill_tuple_add->HL,plainId_quiet->fE,refuseLoop_ref->NI,richCompare_meets_room->wT,seq_tuple_add->OU,sizeLine_eq->eX,typeLookup_type->xN,wpAny_Call_Name_kw->dM,wpAny_Expr_any->NS,wpAny_Name->NU,wpAny_askSetting->mW,wpAny_assign_Name->GC,wpAny_attempt->CG,wpAny_bind->aA,wpAny_bindName->NV,wpAny_call->qH,wpAny_callSpecial?_slot->oI,wpAny_call_entry->kN,wpAny_comprehension_free->uM,wpAny_eqIsQuiet_tuple->yC,wpAny_execs_cons->vT,wpAny_execs_nil->qX,wpAny_field->IR,wpAny_fieldsOf->NW,wpAny_forIn_list->mY,wpAny_getItem_list_slice->uN,wpAny_holding->dC,wpAny_isInstance->vU,wpAny_isSubtype_exc->AU,wpAny_letGo->kO,wpAny_loadPart'->qY,wpAny_loadPart_at->kA,wpAny_mono->dI,wpAny_newList->uO,wpAny_newObj_type->eQ,wpAny_newTuple->NX,wpAny_of_eq->oJ,wpAny_passesOwn->jR,wpAny_pure->aK,wpAny_pyIter_list->pK,wpAny_pyIter_tuple->DX,wpAny_pyIter_zip->IB,wpAny_pyNext_list_end->yD,wpAny_pyNext_list_item->wV,wpAny_runValue->NY,wpAny_seqItems->iH,wpAny_setEntries_of->rG,wpAny_setState_of->gR,wpAny_specialOf->lC,wpAny_standAt->nQ,wpAny_storeSet_of->GD,wpAny_truthy_bool->iP,wpAny_tryCatch->jK,wpAny_typeOf->pL,wpAny_updateSeq->gB
open PySem.Around renaming under->DY,under_plainId->dJ
open PySem.AutoSeq1 renaming sub_tuple_tuple->tZ
open PySem.Builtin renaming divisionGoesByPylong->kZ
open PySem.Builtin.Builtins renaming bindParams->iW
open PySem.Builtin.Int renaming intBits->AK
open PySem.Builtin.List renaming listExtendWith->gL,listItems->vW,listLengthHint->iX,listSameRef->kB,listUpdate->oE
open PySem.Builtin.Slice renaming sliceAdjust->mZ,sliceApplied->sB,slicePlaces->jO
open PySem.Builtin.Tuple renaming tupleCompareSizes->pN,tupleExact->kC
open PySem.Calls renaming Name_function_global->sC,callWith_builtin->oN,call_function_entry->sW,evalArgs_plain->yI,spliced_cons->sD,spliced_nil->tI
open PySem.Code renaming isFrame->EA,quiet_builtin->nX
open PySem.EntryCells renaming newEntry->qZ
open PySem.F renaming args_tuple_add_2->uF,args_tuple_lt_2->vA,entry_extend_loop->tD,entry_tuple_add->vB,entry_tuple_lt->wF,excBase_ValueError->sI,plainAttrs_list->gJ,plain_extend_loop->gY,plain_set_new->xW,slot_dict_setdefault->qR,slot_list_append->nG,slot_list_pop->xX,slot_tuple_add->wG,slot_tuple_lt->xY,type_list_append->nH,type_list_pop->xZ
open PySem.Heap renaming ExtBut->IC,FlyingW->vX,MadeExcOf->yK,SameBut->kP,get?_none_of_le->lY,get?_push_at->tJ,get?_push_ne->EI,get?_push_of_some->aJ,get?_push_size->bX,get?_some_iff->nY,get?_update_ne->rA,get?_update_other->bO,get?_update_self->dD,lt_size->aO,size_push->kF,size_update->GH
open PySem.Heap.IsSliceOf renaming new->CM
open PySem.Heap.SameBut renaming update->nA
open PySem.IsL renaming update->GS
open PySem.NameKind renaming cell->qJ,free->fX
open PySem.Obj renaming mapFields->OC,mapSeq->cW,putSet->mG
open PySem.Paired renaming length->OD
open PySem.PassesOwn renaming never->dW
open PySem.SeqAt renaming EqAt->wI,RcAt->sK
open PySem.SeqAt.EqAt renaming int_int->DD,of_refs->DF,same->xF
open PySem.SetFound renaming there->KK
open PySem.SetTable renaming grown->KM
open PySem.SetTable.below renaming go->KQ
open PySem.SetTable.layClean renaming free->gN
open PySem.SetTable.probe renaming go->WN
open PySem.Shared renaming TypeIs->OG
open PySem.Str renaming ofString->wJ
open PySem.Value renaming bool->wK,builtin->nK,int->GU,isInt->yW,isStrOf->OH,none->eM,notImplemented->yX,ref->cU,str->GV,type->gE
open PySem.W renaming Frag->aF,InstAt->yU,OpenLaw->IW,WalkO->OE,callWith_K->kT,cellsFrom_some->wH,clsIn->BB,codeIn->oY,exmOne->oZ,findCls->IX,findIn->fI,fnOf->kU,instObj->xE,kas_asc->tR,kas_bin->SH,kas_count->qB,kas_desc->jI,kas_descPart->mT,kas_place->vE,kas_rev->AH,kas_sort->sQ,kas_tail3->rW,kat_cons->VG,kat_nil->SI,keepIn->fJ,kia_one->eY,kitAny->sJ,kitOne->fK,kitx_dict->EW,kitx_list->tO,lookIn->yV,looks_findIn->mU,looks_mroIn->IK,methodObj->tP,mg_of->qK,mroIn->nJ,nsIn->fN,plainGet->GT,readsIn->IY,specialIn->pA,tabIn->OF,takesIn->IZ,typeIn->KI
open PySem.W.Looks renaming andThen->BA,ld->uW
open PySem.Walks renaming list->KN
open PySem.pickOrder renaming go->FV
open Sum renaming inl->fG,inr->AB
open True renaming intro->jG
set_option compiler.extract_closed false
local macro_rules | `(tactic| omega)=>`(tactic| lia)
local macro_rules | `(tactic| walk_at "vis")=>`(tactic| first | exact eD rfl | exact eJ (eD rfl) | exact eJ (eJ rfl) | exact eJ rfl)
local macro_rules | `(tactic| walk_at "loc")=>`(tactic| first | exact .inl rfl | exact .inr rfl | assumption)
namespace L2
open PySem PySem.Spec PyProof.Rows
abbrev Key:=Sum Int Str
def LV:Key->aB->Bool
 | .inl k,v=>yW k v
 | .inr x,v=>OH x v
def Vp (w:cA):Key->Int
 | .inl k=>hashInt k
 | .inr x=>hashStr w x
theorem jD:∀{k:Key} {v:aB},LV k v=true->(∃i t,k=fG i/\v=GU i t)\/(∃x t,k=AB x/\v=GV x t)
 | .inl i,v,h=>by
  obtain⟨t,e⟩:=Value.isInt_shape (k:=i) (v:=v) h
  exact .inl ⟨i,t,rfl,e⟩
 | .inr x,v,h=>by
  obtain⟨t,e⟩:=Value.isStrOf_shape (x:=x) (v:=v) h
  exact .inr ⟨x,t,rfl,e⟩
theorem Ec (i:Int) (t:Tok):LV (.inl i) (.int i t)=true:=by simp[LV,yW]
theorem Ed (x:Str) (t:Tok):LV (.inr x) (.str x t)=true:=by simp[LV,OH]
theorem Qg (a b:Int):decide ((fG a:Key)=fG b)=(a == b):=by
 by_cases e:a=b
 ·subst e;simp
 ·have h:¬(fG a:Key)=fG b:=λq=>e (Sum.inl.inj q)
  rw[decide_eq_false h]
  exact (beq_eq_false_iff_ne.mpr e).symm
theorem Qj (a b:Str):decide ((AB a:Key)=AB b)=decide (a=b):=by
 by_cases e:a=b
 ·subst e;simp
 ·have h:¬(AB a:Key)=AB b:=λq=>e (Sum.inr.inj q)
  rw[decide_eq_false h,decide_eq_false e]
theorem Qh (a:Int) (b:Str):decide ((fG a:Key)=AB b)=false:=decide_eq_false (λq=>nomatch q)
theorem Qi (a:Str) (b:Int):decide ((AB a:Key)=fG b)=false:=decide_eq_false (λq=>nomatch q)
def kY (prog:bA) (w:cA):PySem.KeyKind prog w Key where
 is:=LV
 hash:=Vp w
 inj:=λv a b ha hb=>by
  rcases jD ha with ⟨i,t,rfl,rfl⟩ | ⟨x,t,rfl,rfl⟩
  ·rcases jD hb with ⟨j,u,rfl,e⟩ | ⟨y,u,rfl,e⟩
   ·injection e with e1 _;rw[e1]
   ·exact nomatch e
  ·rcases jD hb with ⟨j,u,rfl,e⟩ | ⟨y,u,rfl,e⟩
   ·exact nomatch e
   ·injection e with e1 _;rw[e1]
 byValue:=λk v h=>by
  rcases jD h with ⟨i,t,rfl,rfl⟩ | ⟨x,t,rfl,rfl⟩ <;> rfl
 pyHash:=λhv h=>by
  rcases jD hv with ⟨i,t,rfl,rfl⟩ | ⟨x,t,rfl,rfl⟩
  ·exact wpAny_pyHash_int h
  ·exact wpAny_pyHash_str h
 eqBool:=λhu hv h=>by
  rcases jD hu with ⟨i,t,rfl,rfl⟩ | ⟨x,t,rfl,rfl⟩
  ·rcases jD hv with ⟨j,u,rfl,rfl⟩ | ⟨y,u,rfl,rfl⟩
   ·rw[Qg] at h;exact wpAny_eqBool_int h
   ·rw[Qh] at h;exact SeqAt.EqAt.int_str i t y u _ _ _ _ h
  ·rcases jD hv with ⟨j,u,rfl,rfl⟩ | ⟨y,u,rfl,rfl⟩
   ·rw[Qi] at h;exact SeqAt.EqAt.str_int x t j u _ _ _ _ h
   ·rw[Qj] at h;exact wpAny_eqBool_str h
 «strs»:=λk x t v h=>by
  rcases jD h with ⟨i,u,rfl,e⟩ | ⟨y,u,rfl,e⟩
  ·exact nomatch e
  ·injection e with e1 _
   subst e1
   cases v <;> rfl
theorem WB (prog:bA) (w:cA) (i:Int) (t:Tok):(kY prog w).is (.inl i) (.int i t)=true:=Ec i t
theorem WC (prog:bA) (w:cA) (x:Str) (t:Tok):(kY prog w).is (.inr x) (.str x t)=true:=Ed x t
inductive V where
 | non | bl (b:Bool) | int (i:Int) | str (x:Str) | byt (b:Array UInt8) | flt (b:UInt64) | ref (a:Addr) | ty (n:String)
 deriving DecidableEq
def RelV:V->aB->Prop
 | .non,u=>u=eM
 | .bl b,u=>u=wK b
 | .int i,u=>∃t,u=GU i t
 | .str x,u=>∃t,u=GV x t
 | .byt b,u=>∃t,u=Value.bytes b t
 | .flt b,u=>∃t,u=Value.float b t
 | .ref a,u=>u=cU a
 | .ty n,u=>u=gE n
abbrev Vals:List V->List aB->Prop:=Paired RelV
theorem Vals.length {xs:List V} {us:List aB} (r:Vals xs us):xs.length=us.length:=OD r
theorem Vals.get:∀{xs:List V} {us:List aB} {i:Nat} {x:V},Vals xs us->xs[i]? = some x->∃u,us[i]? = some u/\RelV x u
 | _,_,_,_,.nil,e=>by simp at e
 | _,_,0,_,.cons r _,e=>by simp at e;subst e;exact⟨_,rfl,r⟩
 | _,_,i+1,x,.cons _ t,e=>by
  obtain⟨u,h1,h2⟩:=Vals.get (i:=i) (x:=x) t (by simpa using e)
  exact⟨u,by simpa using h1,h2⟩
theorem Vals.append:∀{xs ys:List V} {us ws:List aB},Vals xs us->Vals ys ws->Vals (xs++ys) (us++ws)
 | _,_,_,_,.nil,s=>s
 | _,_,_,_,.cons r t,s=>.cons r (Vals.append t s)
theorem Vals.take:∀{xs:List V} {us:List aB} (n:Nat),Vals xs us->Vals (xs.take n) (us.take n)
 | _,_,0,_=>.nil
 | _,_,_+1,.nil=>.nil
 | _,_,n+1,.cons r t=>.cons r (Vals.take n t)
theorem Vals.drop:∀{xs:List V} {us:List aB} (n:Nat),Vals xs us->Vals (xs.drop n) (us.drop n)
 | _,_,0,r=>r
 | _,_,_+1,.nil=>.nil
 | _,_,n+1,.cons _ t=>Vals.drop n t
def RelO:Option V->Option aB->Prop
 | some v,some u=>RelV v u
 | none,none=>True
 | _,_=>False
def KV {κ:Type}:List (κ × V)->List (κ × aB)->Prop:=Paired λ(p:κ × V) (q:κ × aB)=>p.1=q.1/\RelV p.2 q.2
def kV:Key->V
 | .inl i=>.int i
 | .inr x=>.str x
inductive HO where
  | lst (xs:List V)
  | tup (xs:List V)
  | dK (kvs:List (Key × V)) | dT (kvs:List (List Key × V))
  | set (S:Int->Bool) (n:Nat)
  | ins (C dx:Addr) (fs:List (Str × V))
  | own (x:Addr)
  | xd (fs:List (Str × V))
  | met (f x:Addr)
  | rng (lo hi:Int)
  | frz (o:Obj) (u:HO)
  | tbl (ps:Array aB)
  | ext (φ:Heap->Prop)
abbrev Hp:=Addr->Option HO
def upd (H:Hp) (a:Addr) (o:HO):Hp:=λb=>if b=a then some o else H b
theorem cR {H:Hp} {a:Addr} {o:HO}:upd H a o a=some o:=by unfold upd;rw[if_pos rfl]
theorem bM {H:Hp} {a b:Addr} {o:HO} (h:b≠a):upd H a o b=H b:=by unfold upd;rw[if_neg h]
theorem cB {H:Hp} {a b:Addr} {o:HO} (h:H a=some o) (h':H b=none):a≠b:=by
 intro e;subst e;rw[h] at h';cases h'
section
variable (P:bA) (w:cA)
def ObjOk (H:Hp) (h:Heap) (a:Addr):HO->Prop
 | .lst xs=>xs.length<=sizeLine/\∃(its:List aB) (n:Nat),Vals xs its/\h.get? a=some { cls:=.type "list",data:=.seq its.toArray n }
 | .tup xs=>xs.length<=sizeLine/\∃its:List aB,Vals xs its/\IsTup h a its.toArray
 | .dK kvs=>kvs.length<=sizeLine/\(a == sysModules)=false/\∃vs,KV kvs vs/\h.DictOf (kY P w) a vs
 | .dT kvs=>kvs.length<=sizeLine/\(a == sysModules)=false/\∃xs:List (List Key × Addr × aB),
   Paired (λ(p:List Key × V) (q:List Key × Addr × aB)=>p.1=q.1/\H q.2.1=some (.tup (p.1.map kV))/\RelV p.2 q.2.2) kvs xs /\
   ∃o es ep,h.get? a=some o/\o.ExactDict/\o.data = .dict es ep/\es.toList=xs.map (entryOfKey (tupleKind (kY P w)))/\(xs.map (·.1)).Nodup
 | .set S n=>h.SetOf (intKind P w) a S n
 | .ins C dx fs=>H dx=some (.own a)/\fs.length<=1000/\dx≠a/\h.get? a=some (xE C dx) /\
   ∃mA,h.Ns1 dx mA/\(∀f,RelO (fs.lookup f) (mA f))/\PySem.Within mA (fs.map (·.1))
 | .own _=>∃o,h.get? a=some o
 | .xd fs=>∃mA,h.Ns1 a mA/\∀f,RelO (fs.lookup f) (mA f)
 | .rng lo hi=>∃t u v,h.get? a=some { cls:=.type "range",data:=.fields #[.int lo t,.int hi u,.int 1 v] }
 | .frz o u=>h.get? a=some o/\ObjOk H h a u
 | .tbl ps=>h.get? a=some { cls:=.none,data:=.fields ps }
 | .met f x=>h.get? a=some (tP (.ref f) (.ref x))
 | .ext φ=>φ h/\(∃o,h.get? a=some o)/\∀h1 h2:Heap,φ h1->(∀o,h1.get? a=some o->h2.get? a=some o)->φ h2
def HOk (H:Hp) (h:Heap):Prop:=∀a o,H a=some o->ObjOk P w H h a o
end
section
variable {P:bA} {w:cA} {H H':Hp} {h h':Heap} {a:Addr} {o:HO}
theorem ObjOk.lt (x:ObjOk P w H h a o):a<h.objs.size:=by
 cases o with
 | lst xs=>obtain⟨_,_,_,_,e⟩:=x;exact aO e
 | tup xs=>obtain⟨_,_,_,p⟩:=x;exact p.lt
 | dK kvs=>obtain⟨_,_,_,_,o,_,_,e,_⟩:=x;exact aO e
 | dT kvs=>obtain⟨_,_,_,_,o,_,_,e,_⟩:=x;exact aO e
 | set S n=>obtain⟨o,_,_,_,e,_⟩:=x;exact aO e
 | ins C dx fs=>obtain⟨_,_,_,e,_⟩:=x;exact aO e
 | own y=>obtain⟨_,e⟩:=x;exact aO e
 | xd fs=>obtain⟨_,⟨_,_,_,e,_⟩,_⟩:=x;exact aO e
 | rng lo hi=>obtain⟨_,_,_,e⟩:=x;exact aO e
 | frz ob u=>obtain⟨e,_⟩:=x;exact aO e
 | tbl ps=>exact aO (show h.get? a=some _ from x)
 | met f y=>exact aO (show h.get? a=some _ from x)
 | ext φ=>obtain⟨_,⟨_,e⟩,_⟩:=x;exact aO e
theorem Paired.mapP {α β:Type} {F G:α->β->Prop}:∀{l₁:List α} {l₂:List β},Paired F l₁ l₂->(∀a b,F a b->G a b)->Paired G l₁ l₂
 | _,_,.nil,_=>.nil
 | _,_,.cons r t,f=>.cons (f _ _ r) (Paired.mapP t f)
theorem ObjOk.stay (x:ObjOk P w H h a o) (k:∀b u,(b=a\/H b=some (.own a))->h.get? b=some u->h'.get? b=some u)
  (ho:∀b,H b=some (.own a)->H' b=some (.own a)) (ht:∀b xs,H b=some (.tup xs)->H' b=some (.tup xs)):ObjOk P w H' h' a o:=by
 induction o with
 | lst xs=>obtain⟨z,its,n,r,e⟩:=x;exact⟨z,its,n,r,k _ _ (.inl rfl) e⟩
 | tup xs=>obtain⟨z,its,r,ob,e,c⟩:=x;exact⟨z,its,r,ob,k _ _ (.inl rfl) e,c⟩
 | dK kvs=>obtain⟨z,y,vs,r,ob,es,ep,e,c⟩:=x;exact⟨z,y,vs,r,ob,es,ep,k _ _ (.inl rfl) e,c⟩
 | dT kvs =>
  obtain⟨z,y,xs,r,ob,es,ep,e,c⟩:=x
  exact⟨z,y,xs,Paired.mapP r λp q z=>⟨z.1,ht _ _ z.2.1,z.2.2⟩,ob,es,ep,k _ _ (.inl rfl) e,c⟩
 | set S n=>obtain⟨ob,es,ep,t,e,c⟩:=x;exact⟨ob,es,ep,t,k _ _ (.inl rfl) e,c⟩
 | ins C dx fs =>
  obtain⟨d,z,ne,e,mA,⟨od,es,ep,e2,c⟩,r⟩:=x
  exact⟨ho _ d,z,ne,k _ _ (.inl rfl) e,mA,⟨od,es,ep,k _ _ (.inr d) e2,c⟩,r⟩
 | own y=>obtain⟨ob,e⟩:=x;exact⟨ob,k _ _ (.inl rfl) e⟩
 | xd fs=>obtain⟨mA,⟨od,es,ep,e,c⟩,r⟩:=x;exact⟨mA,⟨od,es,ep,k _ _ (.inl rfl) e,c⟩,r⟩
 | rng lo hi=>obtain⟨t,u,v,e⟩:=x;exact⟨t,u,v,k _ _ (.inl rfl) e⟩
 | frz ob u ih=>obtain⟨e,q⟩:=x;exact⟨k _ _ (.inl rfl) e,ih q⟩
 | tbl ps =>
  have e:h.get? a=some { cls:=.none,data:=.fields ps }:=x
  show h'.get? a=some { cls:=.none,data:=.fields ps }
  exact k a _ (.inl rfl) e
 | met f y =>
  have e:h.get? a=some (tP (.ref f) (.ref y)):=x
  show h'.get? a=some (tP (.ref f) (.ref y))
  exact k a _ (.inl rfl) e
 | ext φ=>obtain⟨p,⟨o,e⟩,st⟩:=x;exact⟨st _ _ p λo q=>k _ _ (.inl rfl) q,⟨o,k _ _ (.inl rfl) e⟩,st⟩
theorem HOk.lt (x:HOk P w H h) (e:H a=some o):a<h.objs.size:=(x a o e).lt
theorem HOk.fresh (x:HOk P w H h) (e:h.objs.size<=a):H a=none:=by
 cases q:H a with
 | none=>rfl
 | some u=>exact absurd (aV (x.lt q) e) (fM _)
theorem HOk.kept (x:HOk P w H h) (k:∀b u,h.get? b=some u->h'.get? b=some u):HOk P w H h':=λa o e =>
 (x a o e).stay (λb u _ q=>k b u q) (λ_ q=>q) λ_ _ q=>q
theorem HOk.laid (x:HOk P w H h) (k:∀b u,h.get? b=some u->h'.get? b=some u) (hp:h.objs.size<=a) (new:ObjOk P w (upd H a o) h' a o):HOk P w (upd H a o) h':=λb u e=>by
 have hn:=x.fresh hp
 by_cases hb:b=a
 ·subst hb;rw[cR] at e;cases e;exact new
 ·rw[bM hb] at e
  exact (x b u e).stay (λc v _ q=>k c v q) (λc q=>by rw[bM (cB q hn)];exact q) λc xs q=>by rw[bM (cB q hn)];exact q
end
def Rd (H:Hp) (a:Addr) (u:HO):Prop:=H a=some u\/∃o,H a=some (.frz o u)
theorem Rd.ok {P:bA} {w:cA} {H:Hp} {h:Heap} {a:Addr} {u:HO} (r:Rd H a u) (x:HOk P w H h):ObjOk P w H h a u:=by
 rcases r with r | ⟨o,r⟩
 ·exact x a u r
 ·obtain⟨_,q⟩:=x a _ r
  exact q
def Mut:Option HO->Prop
 | some (.lst _)=>True
 | some (.dK _)=>True
 | some (.dT _)=>True
 | some (.set _ _)=>True
 | some (.ins _ _ _)=>True
 | some (.ext _)=>True
 | _=>False
section
variable {P:bA} {w:cA} {H:Hp} {h h':Heap} {x e:Addr} {o':HO}
theorem HOk.write (ok:HOk P w H h) (mu:Mut (H x)) (he:e=x\/H e=some (.own x)) (k:∀b u,b≠e->h.get? b=some u->h'.get? b=some u) (heo:∃u,h'.get? e=some u)
  (new:ObjOk P w (upd H x o') h' x o'):HOk P w (upd H x o') h':=λb u q=>by
 have nown:∀c y,H c=some (.own y)->c≠x:=λc y r z=>by subst z;rw[r] at mu;exact mu
 have ntup:∀c xs,H c=some (.tup xs)->c≠x:=λc xs r z=>by subst z;rw[r] at mu;exact mu
 by_cases hb:b=x
 ·subst hb;rw[cR] at q;cases q;exact new
 ·rw[bM hb] at q
  by_cases hbe:b=e
  ·have q':H b=some (.own x):=by
    rcases he with z | z
    ·exact absurd (hbe.trans z) hb
    ·rw[hbe];exact z
   rw[q] at q';cases q'
   obtain⟨v,hv⟩:=heo
   exact⟨v,by rw[hbe];exact hv⟩
  ·refine (ok b u q).stay (λc v hc r=>k c v ?_ r) (λc r=>by rw[bM (nown c b r)];exact r) λc xs r=>by rw[bM (ntup c xs r)];exact r
   rcases hc with rfl | hc
   ·exact hbe
   ·rintro rfl
    rcases he with z | z
    ·exact nown c b hc z
    ·rw[hc] at z;cases z;exact hb rfl
end
structure Un (fs ex:List Addr) (H H':Hp) (h h':Heap):Prop where
 keep:∀b o,h.get? b=some o->H b=none->b ∉ fs->b ∉ ex->h'.get? b=some o
 slot:∀b o,h.get? b=some o->H b=none->b∈fs->b ∉ ex->∃sl,h'.get? b=some { o with slots:=sl }
 free:∀b o,h.get? b=some o->H b=none->b ∉ ex->H' b=none
 there:∀b o,h.get? b=some o->b ∉ ex->∃o',h'.get? b=some o'
 tups:∀b xs,H b=some (.tup xs)->H' b=some (.tup xs)
 frzs:∀b o u,H b=some (.frz o u)->H' b=some (.frz o u)
 tbls:∀b ps,H b=some (.tbl ps)->∃more,H' b=some (.tbl (ps++more))
section
variable {fs fs' ex ex':List Addr} {H H1 H2:Hp} {h h1 h2 h':Heap} {a x e:Addr} {o:HO}
theorem Un.any (u:Un fs ex H H1 h h1) {b:Addr} {ob:Obj} (q:h.get? b=some ob) (n:H b=none) (hx:b ∉ ex):∃sl,h1.get? b=some { ob with slots:=sl }:=by
 by_cases hb:b∈fs
 ·exact u.slot b ob q n hb hx
 ·exact⟨ob.slots,u.keep b ob q n hb hx⟩
theorem Un.kept (k:∀b u,h.get? b=some u->h'.get? b=some u):Un fs ex H H h h' :=
 ⟨λb ob q _ _ _=>k b ob q,λb ob q _ _ _=>⟨ob.slots,k b ob q⟩,λ_ _ _ n _=>n,λb ob q _=>⟨ob,k b ob q⟩,λ_ _ q=>q,λ_ _ _ q=>q,λ_ ps q=>⟨#[],by rw[q];simp⟩⟩
theorem Un.refl:Un fs ex H H h h:=Un.kept λ_ _ q=>q
theorem Un.laid (k:∀b u,h.get? b=some u->h'.get? b=some u) (hp:h.objs.size<=a) (hn:H a=none):Un fs ex H (upd H a o) h h' where
 keep:=λb u q _ _ _=>k b u q
 slot:=λb u q _ _ _=>⟨u.slots,k b u q⟩
 free:=λb u q n _=>by rw[bM (aR (aV (aO q) hp))];exact n
 there:=λb u q _=>⟨u,k b u q⟩
 tups:=λb xs q=>by rw[bM (cB q hn)];exact q
 frzs:=λb u xs q=>by rw[bM (cB q hn)];exact q
 tbls:=λb ps q=>⟨#[],by rw[bM (cB q hn),q];simp⟩
theorem Un.write (mu:Mut (H x)) (he:e=x\/H e=some (.own x)) (k:∀b u,b≠e->h.get? b=some u->h'.get? b=some u) (heo:∃u,h'.get? e=some u):Un fs ex H (upd H x o) h h':=by
 have hx:∀b,H b=none->b≠x:=λb n z=>by subst z;rw[n] at mu;exact mu
 have hb:∀b,H b=none->b≠e:=λb n z=>by
  subst z
  rcases he with r | r
  ·exact hx b n r
  ·rw[n] at r;cases r
 have hm:∀b u,H b=some u->¬Mut (some u)->b≠x:=λb u q nm z=>by subst z;rw[q] at mu;exact nm mu
 refine⟨λb u q n _ _=>k b u (hb b n) q,λb u q n _ _=>⟨u.slots,k b u (hb b n) q⟩,λb u q n _=>by rw[bM (hx b n)];exact n,λb u q _=>?_,
  λb xs q=>by rw[bM (hm b _ q λz=>z)];exact q,λb u xs q=>by rw[bM (hm b _ q λz=>z)];exact q,λb ps q=>⟨#[],by rw[bM (hm b _ q λz=>z),q];simp⟩⟩
 by_cases hbe:b=e
 ·subst hbe;exact heo
 ·exact⟨u,k b u hbe q⟩
theorem Un.mono (u:Un fs ex H H1 h h1) (hs:∀b∈fs,b∈fs') (hx:∀b∈ex,b∈ex'):Un fs' ex' H H1 h h1 :=
 ⟨λb ob q n hb he=>u.keep b ob q n (λz=>hb (hs b z)) λz=>he (hx b z),λ_ _ q n _ he=>u.any q n λz=>he (hx _ z),λb ob q n he=>u.free b ob q n λz=>he (hx b z),λb ob q he=>u.there b ob q λz=>he (hx b z),u.tups,u.frzs,u.tbls⟩
end
def trk (h:Heap) (H:Hp):List Addr:=(cV h.objs.size).filter λa=>(H a).isSome
def ON (h:Heap) (H:Hp):Heap:=PySem.W.hideAll h (trk h H)
theorem Dy (h:Heap) (H:Hp):(ON h H).objs.size=h.objs.size:=PySem.W.hideAll_size _ _
theorem VB {h:Heap} {H:Hp} {b:Addr} {o:Obj} (e:h.get? b=some o) (n:H b=none):(ON h H).get? b=some o :=
 PySem.W.hideAll_get _ e λhm=>by
  have q:(H b).isSome=true:=(fB.mp hm).2
  rw[n] at q;simp at q
theorem Bv {h:Heap} {H:Hp} {b:Addr} {o:Obj} (e:(ON h H).get? b=some o):h.get? b=some o/\H b=none:=by
 have e':h.get? b=some o:=PySem.W.of_hideAll (trk h H) e
 refine⟨e',?_⟩
 cases q:H b with
 | none=>rfl
 | some x =>
  have hm:b∈trk h H:=fB.mpr ⟨eZ.mpr (aO e'),by simp[q]⟩
  have z:(ON h H).get? b=none:=PySem.W.hideAll_none (trk h H) hm
  rw[z] at e;cases e
def Ld (g h:Heap) (L:Addr):List (Addr × Obj):=(cV h.objs.size).filterMap λa=>if a=L\/(g.get? a).isSome=true then none else (h.get? a).map λo=>(a,o)
def rest (g h:Heap) (L d:Addr):List (Addr × Obj):=(Ld g h L).filter λp=>decide (p.1≠d)
structure Mod (K:aF) (mg:Str->Option aB) (base:Heap):Prop where
 kin:K.In base
 glob:base.Ns mainGlobals mg
 blt:∃mb,base.Ns builtinsNs mb/\∀x:Str,x≠"__name__"->mb x=bootBuiltins x
 nolimit:base.NoLimit
structure Cx where
 prog:bA
 w:cA
 K:aF
 mg:Str->Option aB
 base:Heap
 A:cE
 N:List Str
 s₀:aD
 H₀:Hp
 env:Env
 outer:List Env
 stack:List Env
 ex:List Addr
 fn:Str->Bool
 calm:Bool
 pn:List (Addr × Obj)
 xe:aB->aD->Prop
def frs (l:List Env):List Addr:=l.filterMap (·.frame)
abbrev Cx.fs (X:Cx):List Addr:=frs X.outer
def Vis (sc:Scope) (x:Str):Prop:=sc.names.lookup x=some .local\/sc.names.lookup x=some .cell\/sc.names.lookup x=some .free
def Loc (sc:Scope) (x:Str):Prop:=sc.names.lookup x=some .local\/sc.names.lookup x=some .cell
def Look (env:Env) (h:Heap) (m:Str->Option aB) (x:Str) (u:aB):Prop :=
 (env.kindOf x=some .local/\m x=some u)\/((env.kindOf x=some .cell\/env.kindOf x=some .free)/\∃c,env.cells.lookup x=some c/\h.IsCell c (some u))
structure Cx.Ok (X:Cx):Prop where
 mod:Mod X.K X.mg X.base
 kind:X.env.scope.kind = .function
 glob:X.env.globals=mainGlobals
 blt:X.env.builtins=builtinsNs
 above:X.s₀.heap.objs.size<=X.env.locals
 inj:∀x y c,X.env.cells.lookup x=some c->X.env.cells.lookup y=some c->x=y
 has:∀x,(X.env.kindOf x=some .cell\/X.env.kindOf x=some .free)->∃c,X.env.cells.lookup x=some c
 cab:∀x c,X.fn x=true->X.env.cells.lookup x=some c->X.s₀.heap.objs.size<=c
 hd:X.calm=true->X.A.handled=none
 frames:X.A.frames=some X.stack
 stk:X.stack=X.outer\/(X.stack=X.env::X.outer/\X.env.frame=some X.env.locals)
 exf:∀b∈X.ex,b≠X.env.locals/\∀x c,X.env.cells.lookup x=some c->c≠b
 bs:∀b o,X.base.get? b=some o->X.s₀.heap.get? b=some o/\X.H₀ b=none
 bsz:X.base.objs.size<=X.s₀.heap.objs.size
 noex:∀b o,X.base.get? b=some o->b ∉ X.ex
 exfs:∀b∈X.ex,b ∉ X.fs
 funs:X.s₀.heap.FunFrames X.base X.outer
 frf:∀b∈X.fs,X.H₀ b=none
structure Inv (X:Cx) (pins:List (Addr × Obj)) (σ:List (Option V)) (H:Hp) (s:aD):Prop where
 ok:X.Ok
 os:s.os=X.s₀.os
 bare:AllBare s.gens
 base:Un X.fs X.ex X.H₀ H X.s₀.heap s.heap
 loc:∃m,s.heap.Ns X.env.locals m/\∀(i:Nat) (x:Str) (v:V),X.N[i]? = some x->σ[i]? = some (some v)->Vis X.env.scope x->∃u,RelV v u/\Look X.env s.heap m x u
 cell:∀x c,X.env.cells.lookup x=some c->∃v,s.heap.IsCell c v
 free:H X.env.locals=none
 freeC:∀x c,X.env.cells.lookup x=some c->H c=none
 pin:∀p∈X.pn++pins,s.heap.get? p.1=some p.2/\H p.1=none/\p.1≠X.env.locals/\p.1 ∉ X.fs/\∀v,p.2.data≠.cell v
 hok:HOk X.prog X.w H s.heap
 len:σ.length=X.N.length
section
variable {X:Cx} {pins:List (Addr × Obj)} {σ:List (Option V)} {H H':Hp} {s:aD} {h':Heap}
theorem Cx.Ok.nofr (ok:X.Ok) {b:Addr} {o:Obj} (e:X.base.get? b=some o):b ∉ X.fs:=λhb=>by
 have:=(ok.funs.mem hb).1
 rw[e] at this;cases this
theorem Inv.bs (I:Inv X pins σ H s):∀b o,X.base.get? b=some o->s.heap.get? b=some o/\H b=none:=λb o e =>
 ⟨I.base.keep b o (I.ok.bs b o e).1 (I.ok.bs b o e).2 (I.ok.nofr e) (I.ok.noex b o e),I.base.free b o (I.ok.bs b o e).1 (I.ok.bs b o e).2 (I.ok.noex b o e)⟩
theorem Inv.bk (I:Inv X pins σ H s):∀b o,X.base.get? b=some o->s.heap.get? b=some o:=λb o e=>(I.bs b o e).1
theorem Inv.mod (I:Inv X pins σ H s):Mod X.K X.mg X.base:=I.ok.mod
theorem Inv.kIn (I:Inv X pins σ H s):X.K.In s.heap:=I.ok.mod.kin.keeps I.bk
theorem Inv.lt (I:Inv X pins σ H s):X.env.locals<s.heap.objs.size:=let ⟨_,hn,_⟩:=I.loc;hn.lt
theorem Inv.sz (I:Inv X pins σ H s):X.s₀.heap.objs.size<=s.heap.objs.size:=dQ I.ok.above (jA I.lt)
theorem Inv.nofs (I:Inv X pins σ H s) {a:Addr} (h:s.heap.objs.size<=a):a ∉ X.fs:=λhb=>by
 obtain⟨_,o,ho,_⟩:=I.ok.funs.mem hb
 exact absurd (aV (aO ho) (dQ I.sz h)) (fM _)
theorem Inv.cne (I:Inv X pins σ H s):∀x c,X.env.cells.lookup x=some c->c≠X.env.locals:=λx c e z=>by
 obtain⟨v,o,ho,hd⟩:=I.cell x c e
 obtain⟨m,⟨o',es,ep,ho',hd',_⟩,_⟩:=I.loc
 rw[z,ho'] at ho;cases ho;rw[hd'] at hd;cases hd
theorem Inv.funs (I:Inv X pins σ H s):s.heap.FunFrames X.base X.outer:=by
 have all:∀(l:List Env),(∀b∈frs l,b∈X.fs)->X.s₀.heap.FunFrames X.base l->s.heap.FunFrames X.base l:=by
  intro l
  induction l with
  | nil=>intro _ _;trivial
  | cons env r ih =>
   intro hs hl
   obtain⟨hk,⟨L,o,hf,hn,ho,hd⟩,hr⟩:=hl
   have hL:L∈X.fs:=hs L (by unfold frs;rw[cL,hf];exact cI)
   obtain⟨sl,e⟩:=I.base.slot L o ho (I.ok.frf L hL) hL λz=>I.ok.exfs L z hL
   exact⟨hk,⟨L,_,hf,hn,e,hd⟩,ih (λb hb=>hs b (by unfold frs;rw[cL,hf];exact bD _ hb)) hr⟩
 exact all X.outer (λ_ hb=>hb) I.ok.funs
theorem Inv.stack (I:Inv X pins σ H s):s.heap.FunFrames X.base X.stack:=by
 rcases I.ok.stk with e | ⟨e,hf⟩
 ·rw[e];exact I.funs
 ·rw[e]
  obtain⟨m,hn,_⟩:=I.loc
  refine .cons (by rw[I.ok.kind];decide) hf hn ?_ I.funs
  exact lY (dQ I.ok.bsz I.ok.above)
theorem Inv.stkSub (I:Inv X pins σ H s):∀b∈frs X.stack,b∈X.env.locals::X.fs:=λb hb=>by
 rcases I.ok.stk with e | ⟨e,hf⟩
 ·rw[e] at hb;exact bD _ hb
 ·rw[e] at hb
  unfold frs at hb
  rw[cL,hf] at hb
  exact hb
theorem Inv.stkFree (I:Inv X pins σ H s):∀b∈frs X.stack,H b=none:=λb hb=>by
 rcases aL.mp (I.stkSub b hb) with e | hb
 ·rw[e];exact I.free
 ·obtain⟨_,o,ho,_⟩:=I.ok.funs.mem hb
  exact I.base.free b o ho (I.ok.frf b hb) λz=>I.ok.exfs b z hb
theorem Inv.step {g':Array GenState} {t':Nat} {d':Drawn} {ch:List Addr} (I:Inv X pins σ H s)
  (hch:∀b∈ch,(b∈X.ex\/X.s₀.heap.objs.size<=b)/\b≠X.env.locals/\(∀x c,X.env.cells.lookup x=some c->c≠b)/\∀p∈X.pn++pins,p.1≠b)
  (keep:∀b o,b≠X.env.locals->b ∉ X.fs->b ∉ ch->s.heap.get? b=some o->H b=none->h'.get? b=some o)
  (slot:∀b o,b≠X.env.locals->b∈X.fs->b ∉ ch->s.heap.get? b=some o->H b=none->∃sl,h'.get? b=some { o with slots:=sl }) (free:∀b o,b ∉ ch->s.heap.get? b=some o->H b=none->H' b=none)
  (there:∀b o,b ∉ ch->s.heap.get? b=some o->∃o',h'.get? b=some o')
  (tups:∀b xs,H b=some (.tup xs)->H' b=some (.tup xs)) (frzs:∀b o u,H b=some (.frz o u)->H' b=some (.frz o u)) (tbls:∀b ps,H b=some (.tbl ps)->∃more,H' b=some (.tbl (ps++more)))
  (ns:∀m,s.heap.Ns X.env.locals m->h'.Ns X.env.locals m) (hok:HOk X.prog X.w H' h') (hg:AllBare g') :
  Inv X pins σ H' { s with heap:=h',gens:=g',drawn:=d',toks:=t' }:=by
 have neL:∀b o,X.s₀.heap.get? b=some o->b≠X.env.locals:=λb o e=>aR (aV (aO e) I.ok.above)
 have neC:∀b o,X.s₀.heap.get? b=some o->b ∉ X.ex->b ∉ ch:=λb o e hx hb=>by
  rcases (hch b hb).1 with z | z
  ·exact hx z
  ·exact absurd (aV (aO e) z) (fM _)
 have cellK:∀x c,X.env.cells.lookup x=some c->∀v,s.heap.IsCell c v->h'.IsCell c v:=λx c e v ⟨o,ho,hd⟩=>by
  have nch:c ∉ ch:=λz=>(hch c z).2.2.1 x c e rfl
  by_cases hc:c∈X.fs
  ·obtain⟨sl,q⟩:=slot c o (I.cne x c e) hc nch ho (I.freeC x c e)
   exact⟨_,q,hd⟩
  ·exact⟨o,keep c o (I.cne x c e) hc nch ho (I.freeC x c e),hd⟩
 refine⟨I.ok,I.os,hg,⟨λb o e n hb hx=>?_,λb o e n hb hx=>?_,λb o e n hx=>?_,λb o e hx=>?_,λb xs e=>tups b xs (I.base.tups b xs e),λb o xs e=>frzs b o xs (I.base.frzs b o xs e),λb ps e=>?_⟩,?_,λx c e=>?_,?_,λx c e=>?_,λp hp=>?_,hok,I.len⟩
 ·exact keep b o (neL b o e) hb (neC b o e hx) (I.base.keep b o e n hb hx) (I.base.free b o e n hx)
 ·obtain⟨sl,e1⟩:=I.base.slot b o e n hb hx
  obtain⟨sl',e2⟩:=slot b _ (neL b o e) hb (neC b o e hx) e1 (I.base.free b o e n hx)
  exact⟨sl',e2⟩
 ·obtain⟨o',e1⟩:=I.base.there b o e hx
  exact free b o' (neC b o e hx) e1 (I.base.free b o e n hx)
 ·obtain⟨o',e1⟩:=I.base.there b o e hx
  exact there b o' (neC b o e hx) e1
 ·obtain⟨m1,e1⟩:=I.base.tbls b ps e
  obtain⟨m2,e2⟩:=tbls b _ e1
  exact⟨m1++m2,by rw[e2,rZ]⟩
 ·obtain⟨m,hn,hl⟩:=I.loc
  refine⟨m,ns m hn,λi x v e1 e2 e3=>?_⟩
  obtain⟨u,r,l⟩:=hl i x v e1 e2 e3
  refine⟨u,r,?_⟩
  rcases l with l | ⟨k,c,e,z⟩
  ·exact .inl l
  ·exact .inr ⟨k,c,e,cellK x c e _ z⟩
 ·obtain⟨v,z⟩:=I.cell x c e
  exact⟨v,cellK x c e v z⟩
 ·obtain⟨m,⟨o,_,_,ho,_⟩,_⟩:=I.loc
  exact free _ o (λz=>(hch _ z).2.1 rfl) ho I.free
 ·obtain⟨v,o,ho,hd⟩:=I.cell x c e
  exact free c o (λz=>(hch c z).2.2.1 x c e rfl) ho (I.freeC x c e)
 ·obtain⟨e,n,ne,nf,d⟩:=I.pin p hp
  have nch:p.1 ∉ ch:=λz=>(hch p.1 z).2.2.2 p hp rfl
  exact⟨keep p.1 p.2 ne nf nch e n,free p.1 p.2 nch e n,ne,nf,d⟩
theorem Inv.un {t':Nat} (I:Inv X pins σ H s) (u:Un X.fs [] H H' s.heap h') (hok:HOk X.prog X.w H' h'):Inv X pins σ H' { s with heap:=h',toks:=t' }:=by
 obtain⟨m,⟨o,es,ep,ho,r⟩,_⟩:=id I.loc
 obtain⟨sl,hL⟩:=u.any ho I.free (by simp)
 exact I.step (g':=s.gens) (d':=s.drawn) (ch:=[]) (λ_ z=>nomatch z) (λb o _ hb _ e n=>u.keep b o e n hb (by simp)) (λb o _ hb _ e n=>u.slot b o e n hb (by simp)) (λb o _ e n=>u.free b o e n (by simp)) (λb o _ e=>u.there b o e (by simp)) u.tups u.frzs u.tbls (λm' hm=>by
  obtain⟨o',es',ep',ho',r'⟩:=hm
  rw[ho] at ho';cases ho'
  exact⟨_,es',ep',hL,r'⟩) hok I.bare
theorem Inv.call {g':Array GenState} {t':Nat} {d':Drawn} {ch:List Addr} (I:Inv X pins σ H s) (u:Un (frs X.stack) ch H H' s.heap h') (hok:HOk X.prog X.w H' h') (hg:AllBare g')
  (hch:∀b∈ch,(b∈X.ex\/X.s₀.heap.objs.size<=b)/\b≠X.env.locals/\(∀x c,X.env.cells.lookup x=some c->c≠b)/\∀p∈X.pn++pins,p.1≠b) :
  Inv X pins σ H' { s with heap:=h',gens:=g',drawn:=d',toks:=t' }:=by
 obtain⟨m,⟨o,es,ep,ho,r⟩,_⟩:=id I.loc
 obtain⟨sl,hL⟩:=u.any ho I.free λz=>(hch _ z).2.1 rfl
 exact I.step (ch:=ch) hch (λb o hL hb hc e n=>u.keep b o e n (λz=>(aL.mp (I.stkSub b z)).elim hL hb) hc) (λb o _ _ hc e n=>u.any e n hc) (λb o hc e n=>u.free b o e n hc) (λb o hc e=>u.there b o e hc) u.tups u.frzs u.tbls (λm' hm=>by
  obtain⟨o',es',ep',ho',r'⟩:=hm
  rw[ho] at ho';cases ho'
  exact⟨_,es',ep',hL,r'⟩) hok hg
theorem Inv.turned {t':Nat} {it:Addr} (I:Inv X pins σ H s) (k:∀b o,b≠it->s.heap.get? b=some o->h'.get? b=some o) (hn:H it=none) (hL:it≠X.env.locals)
  (h1:it∈X.ex\/X.s₀.heap.objs.size<=it) (h2:∀x c,X.env.cells.lookup x=some c->c≠it) (h3:∀p∈X.pn++pins,p.1≠it):Inv X pins σ H { s with heap:=h',toks:=t' }:=by
 have nit:∀b u,H b=some u->b≠it:=λb u e z=>by rw[z,hn] at e;cases e
 refine I.step (g':=s.gens) (d':=s.drawn) (ch:=[it]) (λb hb=>?_) (λb o _ _ hc e _=>k b o (λz=>hc (by simp[z])) e) (λb o _ _ hc e _=>⟨o.slots,k b o (λz=>hc (by simp[z])) e⟩) (λ_ _ _ _ n=>n)
  (λb o hc e=>⟨o,k b o (λz=>hc (by simp[z])) e⟩) (λ_ _ e=>e) (λ_ _ _ e=>e) (λb ps e=>⟨#[],by rw[e];simp⟩) (λm hm=>?_) (λb u e=>?_) I.bare
 ·have e:b=it:=by simpa using hb
  subst e
  exact⟨h1,hL,h2,h3⟩
 ·obtain⟨o,es,ep,ho,r⟩:=hm
  exact⟨o,es,ep,k _ o (Ne.symm hL) ho,r⟩
 ·refine (I.hok b u e).stay (λc v hc q=>k c v ?_ q) (λ_ q=>q) λ_ _ q=>q
  rcases hc with z | z
  ·rw[z];exact nit b u e
  ·exact nit c _ z
theorem Inv.tok (I:Inv X pins σ H s) (t:Nat):Inv X pins σ H { s with toks:=t }:=I.un (h':=s.heap) (t':=t) Un.refl I.hok
theorem Inv.kept {t':Nat} (I:Inv X pins σ H s) (k:∀b u,s.heap.get? b=some u->h'.get? b=some u):Inv X pins σ H { s with heap:=h',toks:=t' }:=I.un (Un.kept k) (I.hok.kept k)
theorem Inv.laid {a:Addr} {o:HO} {t':Nat} (I:Inv X pins σ H s) (k:∀b u,s.heap.get? b=some u->h'.get? b=some u) (hp:s.heap.objs.size<=a) (new:ObjOk X.prog X.w (upd H a o) h' a o) :
  Inv X pins σ (upd H a o) { s with heap:=h',toks:=t' }:=I.un (Un.laid k hp (I.hok.fresh hp)) (I.hok.laid k hp new)
theorem Inv.write {x e:Addr} {o:HO} {t':Nat} (I:Inv X pins σ H s) (mu:Mut (H x)) (he:e=x\/H e=some (.own x)) (k:∀b u,b≠e->s.heap.get? b=some u->h'.get? b=some u) (heo:∃u,h'.get? e=some u)
  (new:ObjOk X.prog X.w (upd H x o) h' x o):Inv X pins σ (upd H x o) { s with heap:=h',toks:=t' }:=I.un (Un.write mu he k heo) (I.hok.write mu he k heo new)
theorem Inv.pins_of {pins':List (Addr × Obj)} (I:Inv X pins σ H s) (h:∀p∈pins',s.heap.get? p.1=some p.2/\H p.1=none/\p.1≠X.env.locals/\p.1 ∉ X.fs/\∀v,p.2.data≠.cell v):Inv X pins' σ H s :=
 ⟨I.ok,I.os,I.bare,I.base,I.loc,I.cell,I.free,I.freeC,λp hp=>(cH.mp hp).elim (λz=>I.pin p (eP _ z)) (h p),I.hok,I.len⟩
theorem MH {N:List Str} (hN:N.Nodup) {i j:Nat} {x:Str} (a:N[i]? = some x) (b:N[j]? = some x):i=j:=by
 obtain⟨h1,e1⟩:=aX.mp a
 obtain⟨h2,e2⟩:=aX.mp b
 exact (List.getElem_inj hN).mp (e1.trans e2.symm)
theorem QV {M:Model} {A:cE} {E:aB->aD->Prop} {i:Nat} {x:Str} {v:V} {u:aB} {Q:Unit->aD->Prop} (I:Inv X pins σ H s) (hN:X.N.Nodup) (hi:X.N[i]? = some x) (hx:Loc X.env.scope x) (r:RelV v u)
  (h:∀s',Inv X pins (σ.set i (some v)) H s'->(∃a,kP a s.heap s'.heap/\(a=X.env.locals\/X.env.cells.lookup x=some a))->Q () s') (hf:X.fn x=true\/X.env.scope.names.lookup x=some .local:=by walk_at "loc"):wpAny M A (storeName X.env x u) Q E s:=by
 obtain⟨m,hn,hl⟩:=id I.loc
 have hcls:(X.env.scope.kind == .class || (X.env.scope.kind == .module && X.env.locals != X.env.globals))=false:=by rw[I.ok.kind];rfl
 have hiσ:i<σ.length:=by rw[I.len];exact (aX.mp hi).1
 have cne:=I.cne
 have tracked:∀{a:Addr} {h':Heap},(∃o,s.heap.get? a=some o/\H a=none)->kP a s.heap h'->HOk X.prog X.w H h':=λ{a h'} ha hs b ob e=>by
  obtain⟨_,_,hfree⟩:=ha
  refine (I.hok b ob e).stay (λc w' hc q=>(hs.2 c ?_).trans q) (λ_ q=>q) λ_ _ q=>q
  rintro rfl
  rcases hc with rfl | hc
  ·rw[hfree] at e;cases e
  ·rw[hfree] at hc;cases hc
 rcases hx with hk | hk
 ·refine wpAny_storeName_local hk hn (λh' hn' hs=>?_) hcls
  obtain⟨oL,_,_,hoL,_⟩:=id hn
  refine h _ ⟨I.ok,I.os,I.bare,⟨λb o e n hb hx=>?_,λb o e n hb hx=>?_,I.base.free,λb o e hx=>?_,I.base.tups,I.base.frzs,I.base.tbls⟩,⟨_,hn',λj y v' e1 e2 e3=>?_⟩,λy c e=>?_,I.free,I.freeC,λp hp=>?_,tracked ⟨oL,hoL,I.free⟩ hs,by simpa using I.len⟩ ⟨_,hs,.inl rfl⟩
  ·exact (hs.2 b (aR (aV (aO e) I.ok.above))).trans (I.base.keep b o e n hb hx)
  ·obtain⟨sl,e1⟩:=I.base.slot b o e n hb hx
   exact⟨sl,(hs.2 b (aR (aV (aO e) I.ok.above))).trans e1⟩
  ·obtain⟨o',e1⟩:=I.base.there b o e hx
   exact⟨o',(hs.2 b (aR (aV (aO e) I.ok.above))).trans e1⟩
  ·by_cases hj:j=i
   ·subst hj
    rw[hi] at e1;cases e1
    rw[cY hiσ] at e2
    cases e2
    exact⟨u,r,.inl ⟨hk,by simp⟩⟩
   ·rw[bG (Ne.symm hj)] at e2
    obtain⟨u',r',q⟩:=hl j y v' e1 e2 e3
    refine⟨u',r',?_⟩
    rcases q with ⟨k,e⟩ | ⟨k,c,e,z⟩
    ·refine .inl ⟨k,?_⟩
     have:y≠x:=λe=>hj (MH hN e1 (e ▸ hi))
     simp[this,e]
    ·exact .inr ⟨k,c,e,z.sameBut hs (cne y c e)⟩
  ·obtain⟨w',z⟩:=I.cell y c e
   exact⟨w',z.sameBut hs (cne y c e)⟩
  ·obtain⟨e,n,ne,nf,d⟩:=I.pin p hp
   exact⟨(hs.2 p.1 ne).trans e,n,ne,nf,d⟩
 ·have hfn:X.fn x=true:=by
   rcases hf with z | z
   ·exact z
   ·rw[z] at hk;cases hk
  obtain⟨c,hc⟩:=I.ok.has x (.inl hk)
  obtain⟨w',z⟩:=I.cell x c hc
  refine wpAny_storeName_cell I.ok.kind hk hc z (λh' hc' hs=>?_)
  obtain⟨oc,hoc,hocd⟩:=id z
  refine h { s with heap:=h' } ⟨I.ok,I.os,I.bare,⟨λb o e n hb hx=>?_,λb o e n hb hx=>?_,I.base.free,λb o e hx=>?_,I.base.tups,I.base.frzs,I.base.tbls⟩,⟨m,hn.sameBut hs (Ne.symm (cne x c hc)),λj y v' e1 e2 e3=>?_⟩,λy c' e=>?_,I.free,I.freeC,λp hp=>?_,tracked ⟨oc,hoc,I.freeC x c hc⟩ hs,by simpa using I.len⟩ ⟨c,hs,.inr hc⟩
  ·exact (hs.2 b (aR (aV (aO e) (I.ok.cab x c hfn hc)))).trans (I.base.keep b o e n hb hx)
  ·obtain⟨sl,e1⟩:=I.base.slot b o e n hb hx
   exact⟨sl,(hs.2 b (aR (aV (aO e) (I.ok.cab x c hfn hc)))).trans e1⟩
  ·obtain⟨o',e1⟩:=I.base.there b o e hx
   exact⟨o',(hs.2 b (aR (aV (aO e) (I.ok.cab x c hfn hc)))).trans e1⟩
  ·by_cases hj:j=i
   ·subst hj
    rw[hi] at e1;cases e1
    rw[cY hiσ] at e2
    cases e2
    exact⟨u,r,.inr ⟨.inl hk,c,hc,hc'⟩⟩
   ·rw[bG (Ne.symm hj)] at e2
    obtain⟨u',r',q⟩:=hl j y v' e1 e2 e3
    refine⟨u',r',?_⟩
    rcases q with q | ⟨k,c',e,z'⟩
    ·exact .inl q
    ·refine .inr ⟨k,c',e,z'.sameBut hs ?_⟩
     rintro rfl
     exact hj (MH hN e1 (I.ok.inj _ _ _ e hc ▸ hi))
  ·by_cases hcc:c'=c
   ·subst hcc;exact⟨_,hc'⟩
   ·obtain⟨w2,z2⟩:=I.cell y c' e
    exact⟨w2,z2.sameBut hs hcc⟩
  ·obtain⟨e,n,ne,nf,d⟩:=I.pin p hp
   refine⟨(hs.2 p.1 ?_).trans e,n,ne,nf,d⟩
   intro q
   rw[q,hoc] at e
   have q':oc=p.2:=dE e
   exact d w' (by rw[<-q'];exact hocd)
theorem zW {M:Model} {A:cE} {E:aB->aD->Prop} {i:Nat} {x:Str} {v:V} {u:aB} {Q:Unit->aD->Prop} (I:Inv X pins σ H s) (hN:X.N.Nodup) (hi:X.N[i]? = some x) (hx:Loc X.env.scope x) (r:RelV v u)
  (h:∀s',Inv X pins (σ.set i (some v)) H s'->Q () s') (hf:X.fn x=true\/X.env.scope.names.lookup x=some .local:=by walk_at "loc"):wpAny M A (storeName X.env x u) Q E s :=
 QV I hN hi hx r (λs' I' _=>h s' I') hf
theorem Inv.call' {s':aD} {ch:List Addr} (I:Inv X pins σ H s) (ho:s'.os=s.os) (u:Un (frs X.stack) ch H H' s.heap s'.heap) (hok:HOk X.prog X.w H' s'.heap) (hg:AllBare s'.gens)
  (hch:∀b∈ch,(b∈X.ex\/X.s₀.heap.objs.size<=b)/\b≠X.env.locals/\(∀x c,X.env.cells.lookup x=some c->c≠b)/\∀p∈X.pn++pins,p.1≠b):Inv X pins σ H' s':=by
 obtain⟨h',g',d',t',o'⟩:=s'
 have e:o'=s.os:=ho
 subst e
 exact I.call (g':=g') (t':=t') (d':=d') u hok hg hch
end
abbrev XK:=aB->Option Addr->Hp->Prop
abbrev St:=List (Option V)
abbrev VK:=V->Hp->Prop
abbrev TE:=St->Hp->VK->Prop
abbrev TT:=St->Hp->(Bool->Hp->Prop)->Prop
abbrev TA:=St->Hp->(List V->Hp->Prop)->Prop
structure Ends where
 nx:St->Hp->Prop
 rt:VK
 bk:St->Hp->Prop:=λ_ _=>False
 ct:St->Hp->Prop:=λ_ _=>False
abbrev TS:=Ends->St->Hp->Prop
def EP (X:Cx) (pins:List (Addr × Obj)) (σ:St) (Q:VK) (u:aB) (s':aD):Prop:=∃v H',Inv X pins σ H' s'/\RelV v u/\Q v H'
def TP (X:Cx) (pins:List (Addr × Obj)) (σ:St) (Q:Bool->Hp->Prop) (b:Bool) (s':aD):Prop:=∃H',Inv X pins σ H' s'/\Q b H'
def AP (X:Cx) (pins:List (Addr × Obj)) (σ:St) (Q:List V->Hp->Prop) (us:List aB) (s':aD):Prop:=∃vs H',Inv X pins σ H' s'/\Vals vs us/\Q vs H'
def SP (X:Cx) (pins:List (Addr × Obj)) (D:Ends) (f:Flow) (s':aD):Prop :=
 match f with
 | .next=>∃σ' H',Inv X pins σ' H' s'/\D.nx σ' H'
 | .brk=>∃σ' H',Inv X pins σ' H' s'/\D.bk σ' H'
 | .cont=>∃σ' H',Inv X pins σ' H' s'/\D.ct σ' H'
 | .ret u=>∃v σ' H',Inv X pins σ' H' s'/\RelV v u/\D.rt v H'
def PE (X:Cx) (e:Expr) (t:TE):Prop :=
 ∀(pins:List (Addr × Obj)) (s:aD) (σ:St) (H:Hp) (Q:VK),Inv X pins σ H s->t σ H Q->wpAny (model X.prog X.w) X.A (eval e X.env) (EP X pins σ Q) X.xe s
def PT (X:Cx) (e:Expr) (t:TT):Prop :=
 ∀(pins:List (Addr × Obj)) (s:aD) (σ:St) (H:Hp) (Q:Bool->Hp->Prop),Inv X pins σ H s->t σ H Q->wpAny (model X.prog X.w) X.A (isTrue e X.env (eval e X.env)) (TP X pins σ Q) X.xe s
def PW (X:Cx) (e:Expr) (t:TT):Prop :=
 ∀(whole:Sem aB) (pins:List (Addr × Obj)) (s:aD) (σ:St) (H:Hp) (Q:Bool->Hp->Prop),Inv X pins σ H s->t σ H Q->wpAny (model X.prog X.w) X.A (isTrue e X.env whole) (TP X pins σ Q) X.xe s
theorem PW.pt {X:Cx} {e:Expr} {t:TT} (h:PW X e t):PT X e t:=h _
def PA (X:Cx) (es:List Expr) (t:TA):Prop :=
 ∀(pos:Pos) (pins:List (Addr × Obj)) (s:aD) (σ:St) (H:Hp) (Q:List V->Hp->Prop),Inv X pins σ H s->t σ H Q->wpAny (model X.prog X.w) X.A (spliced (backTo pos (starEach es X.env))) (AP X pins σ Q) X.xe s
def PS (X:Cx) (st:Stmt) (t:TS):Prop :=
 ∀(pins:List (Addr × Obj)) (s:aD) (σ:St) (H:Hp) (D:Ends),Inv X pins σ H s->t D σ H->wpAny (model X.prog X.w) X.A (exec st X.env) (SP X pins D) X.xe s
def PSs (X:Cx) (st:List Stmt) (t:TS):Prop :=
 ∀(pins:List (Addr × Obj)) (s:aD) (σ:St) (H:Hp) (D:Ends),Inv X pins σ H s->t D σ H->wpAny (model X.prog X.w) X.A (execs st X.env) (SP X pins D) X.xe s
theorem thn {α:Type} {t:Sem α} {Q Q':α->aD->Prop} {M:Model} {A:cE} {E:aB->aD->Prop} {s:aD} (h:wpAny M A t Q E s) (hQ:∀a s,Q a s->Q' a s):wpAny M A t Q' E s:=dI h hQ λ_ _ x=>x
section
variable {X:Cx}
def Uy (i:Nat):TE:=λσ H Q=>∃v,σ[i]? = some (some v)/\Q v H
def tC (v:V):TE:=λ_ H Q=>Q v H
theorem Rb {i:Nat} {x:Str} {pos:Pos} (hN:X.N[i]? = some x) (hv:Vis X.env.scope x) (hd:(x == ("__debug__":Str))=false:=by decide) (hcd:(x == ("__classdict__":Str))=false:=by decide):PE X (.Name x pos) (Uy i):=by
 intro pins s σ H Q I h
 obtain⟨v,e,h⟩:=h
 obtain⟨m,hn,hl⟩:=I.loc
 obtain⟨u,r,l⟩:=hl i x v hN e hv
 have fin:EP X pins σ Q u s:=⟨v,H,I,r,h⟩
 rcases l with ⟨hk,hm⟩ | ⟨hk,c,hc,hcell⟩
 ·exact NU (wpAny_loadName_local I.ok.kind hk hn hm fin) hd
 ·rcases hk with hk | hk
  ·exact NU (wpAny_loadName_cell I.ok.kind hk hc hcell fin) hd
  ·exact NU (wpAny_loadName_free I.ok.kind hk hc hcell fin hcd) hd
theorem ZK {i j pos}:PE X (.Constant (.int i) j pos) (tC (.int i)):=λ_ _ _ H _ I h=>wpAny_Constant_int ⟨.int i,H,I.tok _,⟨_,rfl⟩,h⟩
theorem Tu {b j pos}:PE X (.Constant (.bool b) j pos) (tC (.bl b)):=λ_ _ _ H _ I h=>Constant_bool ⟨.bl b,H,I,rfl,h⟩
theorem Qx {j pos}:PE X (.Constant .none j pos) (tC .non):=λ_ _ _ H _ I h=>Constant_none ⟨.non,H,I,rfl,h⟩
theorem Ra {x j pos}:PE X (.Constant (.str x) j pos) (tC (.str x)):=λ_ _ _ H _ I h=>Calls.Constant_str ⟨.str x,H,I.tok _,⟨_,rfl⟩,h⟩
def Gl (X:Cx) (x:Str):Prop:=X.env.kindOf x=some .globalImplicit
theorem tS {E:aB->aD->Prop} {pins:List (Addr × Obj)} {s:aD} {σ:St} {H:Hp} {x:Str} {u:aB} {pos:Pos} {Q:aB->aD->Prop} (I:Inv X pins σ H s) (hg:Gl X x) (hm:X.mg x=some u) (h:Q u s)
  (hd:(x == ("__debug__":Str))=false:=by decide):wpAny (model X.prog X.w) X.A (eval (.Name x pos) X.env) Q E s :=
 sC I.ok.kind hg (Calls.loadGlobal_global (by rw[I.ok.glob];exact I.mod.glob.keeps I.bk) hm h) hd
theorem qC {E:aB->aD->Prop} {pins:List (Addr × Obj)} {s:aD} {σ:St} {H:Hp} {x:Str} {u:aB} {pos:Pos} {Q:aB->aD->Prop} (I:Inv X pins σ H s) (hg:Gl X x) (hm:X.mg x=none) (hv:bootBuiltins x=some u) (h:Q u s)
  (hn:x≠"__name__":=by decide) (hd:(x == ("__debug__":Str))=false:=by decide):wpAny (model X.prog X.w) X.A (eval (.Name x pos) X.env) Q E s:=by
 obtain⟨mb,h1,h2⟩:=I.mod.blt
 exact sC I.ok.kind hg (Calls.loadGlobal_builtin (by rw[I.ok.glob];exact I.mod.glob.keeps I.bk) hm (by rw[I.ok.blt];exact h1.keeps I.bk) ((h2 x hn).trans hv) h) hd
theorem Bz {x:Str} {v:V} {u:aB} {pos:Pos} (hg:Gl X x) (hm:X.mg x=some u) (r:RelV v u) (hd:(x == ("__debug__":Str))=false:=by decide):PE X (.Name x pos) (tC v) :=
 λ_ _ _ H _ I h=>tS I hg hm ⟨v,H,I,r,h⟩ hd
theorem By {x:Str} {v:V} {u:aB} {pos:Pos} (hg:Gl X x) (hm:X.mg x=none) (hv:bootBuiltins x=some u) (r:RelV v u) (hn:x≠"__name__":=by decide) (hd:(x == ("__debug__":Str))=false:=by decide):PE X (.Name x pos) (tC v) :=
 λ_ _ _ H _ I h=>qC I hg hm hv ⟨v,H,I,r,h⟩ hn hd
variable {a b:Expr} {ta tb:TE} {pos:Pos}
def tB (t:TE):TT:=λσ H Q=>t σ H λx H1=>∃c,x = .bl c/\Q c H1
theorem Rl {e:Expr} {t:TE} (h:PE X e t) (he:∀whole,isTrue e X.env whole=(do let v <-whole;standAt e.pos;holding [v] (truthy v)):=by intro _;rfl):PT X e (tB t):=by
 intro pins s σ H Q I hw
 refine isTrue_plain (thn (h pins s σ H _ I hw) λv s1 ⟨x,H1,I1,r1,q1⟩=>?_) (he _)
 obtain⟨d,rfl,q⟩:=q1
 cases r1
 exact iP ⟨H1,I1,q⟩
variable {tA tB':TT} {rest:List Expr}
def Wj (t u:TT):TT:=λσ H Q=>t σ H λc H1=>if c=true then u σ H1 Q else Q false H1
def tOr (t u:TT):TT:=λσ H Q=>t σ H λc H1=>if c=true then Q true H1 else u σ H1 Q
def Wp (t:TT):TT:=λσ H Q=>t σ H λc H1=>Q (!c) H1
theorem Nv (ha:PT X a tA):PW X (.BoolOp .And [a] pos) tA:=by
 intro wh pins s σ H Q I h
 refine isTrue_and (thn (ha pins s σ H Q I h) λc s1 e=>?_)
 cases c with
 | true=>exact isTrue_and_nil e
 | false=>exact e
theorem Ro (ha:PT X a tA):PW X (.BoolOp .Or [a] pos) tA:=by
 intro wh pins s σ H Q I h
 refine isTrue_or (thn (ha pins s σ H Q I h) λc s1 e=>?_)
 cases c with
 | false=>exact isTrue_or_nil e
 | true=>exact e
theorem Rn (ha:PT X a tA) (hb:PW X (.BoolOp .And (b::rest) pos) tB'):PW X (.BoolOp .And (a::b::rest) pos) (Wj tA tB'):=by
 intro wh pins s σ H Q I h
 refine isTrue_and (thn (ha pins s σ H _ I h) λc s1 ⟨H1,I1,q1⟩=>?_)
 cases c with
 | true=>exact hb wh pins s1 σ H1 Q I1 q1
 | false=>exact⟨H1,I1,q1⟩
theorem Tz (ha:PT X a tA) (hb:PW X (.BoolOp .Or (b::rest) pos) tB'):PW X (.BoolOp .Or (a::b::rest) pos) (tOr tA tB'):=by
 intro wh pins s σ H Q I h
 refine isTrue_or (thn (ha pins s σ H _ I h) λc s1 ⟨H1,I1,q1⟩=>?_)
 cases c with
 | true=>exact⟨H1,I1,q1⟩
 | false=>exact hb wh pins s1 σ H1 Q I1 q1
theorem Rk (ha:PT X a tA):PT X (.UnaryOp .Not a pos) (Wp tA):=by
 intro pins s σ H Q I h
 exact isTrue_not (ha pins s σ H (λc H1=>Q (!c) H1) I h)
def Um (ta tb:TE):TE:=λσ H Q=>ta σ H λx H1=>∃c,x = .bl c/\if c=true then tb σ H1 Q else Q (.bl false) H1
def Wq (ta tb:TE):TE:=λσ H Q=>ta σ H λx H1=>∃c,x = .bl c/\if c=true then Q (.bl true) H1 else tb σ H1 Q
def Uv (ta:TE):TE:=λσ H Q=>ta σ H λx H1=>∃c,x = .bl c/\Q (.bl (!c)) H1
theorem Qz {op} {t:TE} (h:PE X a t):PE X (.BoolOp op [a] pos) t:=λpins s σ H Q I hw=>BoolOp_one (h pins s σ H Q I hw)
theorem Qv (ha:PE X a ta) (hb:PE X (.BoolOp .And (b::rest) pos) tb):PE X (.BoolOp .And (a::b::rest) pos) (Um ta tb):=by
 intro pins s σ H Q I h
 refine BoolOp_and (thn (ha pins s σ H _ I h) λv s1 ⟨x,H1,I1,r1,q1⟩=>?_)
 obtain⟨c,rfl,q1⟩:=q1
 cases r1
 refine iP ?_
 cases c with
 | true=>exact hb pins s1 σ H1 Q I1 q1
 | false=>exact⟨.bl false,H1,I1,rfl,q1⟩
theorem Tw (ha:PE X a ta) (hb:PE X (.BoolOp .Or (b::rest) pos) tb):PE X (.BoolOp .Or (a::b::rest) pos) (Wq ta tb):=by
 intro pins s σ H Q I h
 refine BoolOp_or (thn (ha pins s σ H _ I h) λv s1 ⟨x,H1,I1,r1,q1⟩=>?_)
 obtain⟨c,rfl,q1⟩:=q1
 cases r1
 refine iP ?_
 cases c with
 | false=>exact hb pins s1 σ H1 Q I1 q1
 | true=>exact⟨.bl true,H1,I1,rfl,q1⟩
theorem Qy (ha:PE X a ta):PE X (.UnaryOp .Not a pos) (Uv ta):=by
 intro pins s σ H Q I h
 refine UnaryOp_ (thn (ha pins s σ H _ I h) λv s1 ⟨x,H1,I1,r1,q1⟩=>?_)
 obtain⟨c,rfl,q1⟩:=q1
 cases r1
 exact not_of (iP ⟨.bl (!c),H1,I1,rfl,q1⟩)
end
def SqL (K:aF) (H:Hp) (a:Addr) (xs:List V):Prop :=
 Rd H a (.lst xs) \/
  ∃(o:Obj) (its:Array aB) (n:Nat),K.lookup a=some o/\o.cls = .type "list"/\o.dict=none/\o.data = .seq its n/\its.size<=sizeLine/\Vals xs its.toList
def SqT (K:aF) (H:Hp) (a:Addr) (xs:List V):Prop :=
 Rd H a (.tup xs) \/
  ∃(o:Obj) (its:Array aB) (n:Nat),K.lookup a=some o/\o.cls = .type "tuple"/\o.data = .seq its n/\its.size<=sizeLine/\Vals xs its.toList
def Ve:aB->Option V
 | .none=>some .non
 | .bool b=>some (.bl b)
 | .int i _=>some (.int i)
 | .str x _=>some (.str x)
 | .bytes b _=>some (.byt b)
 | .float b _=>some (.flt b)
 | .ref a=>some (.ref a)
 | .type n=>some (.ty n)
 | _=>none
theorem RelV.abs {x:V} {u:aB} (r:RelV x u):Ve u=some x:=by
 cases x with
 | non=>cases r;rfl
 | bl _=>cases r;rfl
 | int _=>obtain⟨t,rfl⟩:=r;rfl
 | str _=>obtain⟨t,rfl⟩:=r;rfl
 | byt _=>obtain⟨t,rfl⟩:=r;rfl
 | flt _=>obtain⟨t,rfl⟩:=r;rfl
 | ref _=>cases r;rfl
 | ty _=>cases r;rfl
theorem RelV.inj {x y:V} {u:aB} (r:RelV x u) (q:RelV y u):x=y:=dE (r.abs.symm.trans q.abs)
theorem Vals.inj:∀{xs ys:List V} {us:List aB},Vals xs us->Vals ys us->xs=ys
 | _,_,_,.nil,.nil=>rfl
 | _,_,_,.cons r t,.cons r' t'=>by rw[r.inj r',Vals.inj t t']
section
variable {X:Cx} {pins:List (Addr × Obj)} {σ:St} {H:Hp} {s:aD} {a:Addr} {xs ys:List V}
theorem SqL.of {K:aF} (h:H a=some (.lst xs)):SqL K H a xs:=.inl (.inl h)
theorem SqT.of {K:aF} (h:H a=some (.tup xs)):SqT K H a xs:=.inl (.inl h)
theorem Inv.list (I:Inv X pins σ H s) (h:SqL X.K H a xs):∃its:List aB,Vals xs its/\PlainL s.heap a its.toArray/\xs.length<=sizeLine:=by
 rcases h with h | ⟨o,its,n,hk,hc,hd,hs,hz,r⟩
 ·obtain⟨z,its,n,r,e⟩:=h.ok I.hok
  exact⟨its,r,⟨_,n,e,rfl,rfl,rfl⟩,z⟩
 ·refine⟨its.toList,r,⟨o,n,I.kIn a o hk,hc,hd,by simpa using hs⟩,?_⟩
  have e:=r.length
  simp only[bQ] at e
  omega
theorem Inv.tuple (I:Inv X pins σ H s) (h:SqT X.K H a xs):∃its:List aB,Vals xs its/\IsTup s.heap a its.toArray/\xs.length<=sizeLine:=by
 rcases h with h | ⟨o,its,n,hk,hc,hs,hz,r⟩
 ·obtain⟨z,its,r,p⟩:=h.ok I.hok
  exact⟨its,r,p,z⟩
 ·refine⟨its.toList,r,⟨o,I.kIn a o hk,hc,n,by simpa using hs⟩,?_⟩
  have e:=r.length
  simp only[bQ] at e
  omega
theorem Inv.list_inj (I:Inv X pins σ H s) (h:SqL X.K H a xs) (h':SqL X.K H a ys):xs=ys:=by
 obtain⟨its,r,⟨o,n,e,_,_,d⟩,_⟩:=I.list h
 obtain⟨its',r',⟨o',n',e',_,_,d'⟩,_⟩:=I.list h'
 rw[e] at e';cases e'
 rw[d] at d'
 injection d' with d1 _
 have:its=its':=by simpa using congrArg Array.toList d1
 subst this
 exact r.inj r'
theorem Inv.tuple_inj (I:Inv X pins σ H s) (h:SqT X.K H a xs) (h':SqT X.K H a ys):xs=ys:=by
 obtain⟨its,r,⟨o,e,_,n,d⟩,_⟩:=I.tuple h
 obtain⟨its',r',⟨o',e',_,n',d'⟩,_⟩:=I.tuple h'
 rw[e] at e';cases e'
 rw[d] at d'
 injection d' with d1 _
 have:its=its':=by simpa using congrArg Array.toList d1
 subst this
 exact r.inj r'
end
abbrev Cx.wish (X:Cx) (E:aB->aD->Prop):Cx:={ X with xe:=E }
abbrev Cx.nox (X:Cx):Cx:=X.wish λ_ _=>False
theorem Cx.Ok.wish {X:Cx} (ok:X.Ok) (E:aB->aD->Prop):(X.wish E).Ok :=
 ⟨ok.mod,ok.kind,ok.glob,ok.blt,ok.above,ok.inj,ok.has,ok.cab,ok.hd,ok.frames,ok.stk,ok.exf,ok.bs,ok.bsz,ok.noex,ok.exfs,ok.funs,ok.frf⟩
theorem Cx.Ok.unwish {X:Cx} {E:aB->aD->Prop} (ok:(X.wish E).Ok):X.Ok :=
 ⟨ok.mod,ok.kind,ok.glob,ok.blt,ok.above,ok.inj,ok.has,ok.cab,ok.hd,ok.frames,ok.stk,ok.exf,ok.bs,ok.bsz,ok.noex,ok.exfs,ok.funs,ok.frf⟩
section
variable {X:Cx} {pins:List (Addr × Obj)} {σ:St} {H:Hp} {s:aD} {E:aB->aD->Prop}
theorem Inv.wish (I:Inv X pins σ H s) (E:aB->aD->Prop):Inv (X.wish E) pins σ H s:=⟨I.ok.wish E,I.os,I.bare,I.base,I.loc,I.cell,I.free,I.freeC,I.pin,I.hok,I.len⟩
theorem Inv.unwish (I:Inv (X.wish E) pins σ H s):Inv X pins σ H s:=⟨I.ok.unwish,I.os,I.bare,I.base,I.loc,I.cell,I.free,I.freeC,I.pin,I.hok,I.len⟩
theorem SP.unwish {D:Ends} {f:Flow} {s':aD} (h:SP (X.wish E) pins D f s'):SP X pins D f s':=by
 cases f with
 | next=>obtain⟨σ',H',I,q⟩:=h;exact⟨σ',H',I.unwish,q⟩
 | brk=>obtain⟨σ',H',I,q⟩:=h;exact⟨σ',H',I.unwish,q⟩
 | cont=>obtain⟨σ',H',I,q⟩:=h;exact⟨σ',H',I.unwish,q⟩
 | ret u=>obtain⟨v,σ',H',I,r,q⟩:=h;exact⟨v,σ',H',I.unwish,r,q⟩
theorem PE.nox {e:Expr} {t:TE} (h:PE X.nox e t):PE X e t:=λpins s σ H Q I hw =>
 dI (h pins s σ H Q (I.wish _) hw) (λ_ _ ⟨v,H',I',r,q⟩=>⟨v,H',I'.unwish,r,q⟩) λ_ _ z=>eG z
theorem PT.nox {e:Expr} {t:TT} (h:PT X.nox e t):PT X e t:=λpins s σ H Q I hw =>
 dI (h pins s σ H Q (I.wish _) hw) (λ_ _ ⟨H',I',q⟩=>⟨H',I'.unwish,q⟩) λ_ _ z=>eG z
theorem PSs.nox {st:List Stmt} {t:TS} (h:PSs X.nox st t):PSs X st t:=λpins s σ H D I hw =>
 dI (h pins s σ H D (I.wish _) hw) (λ_ _ q=>q.unwish) λ_ _ z=>eG z
end
section
variable {X:Cx} {st:Stmt} {rest:List Stmt} {t u:TS} {e:Expr} {te:TE} {pos:Pos}
def Uu:TS:=λD σ H=>D.nx σ H
def Wt (t u:TS):TS:=λD σ H=>t { D with nx:=u D } σ H
theorem Cf:PSs X [] Uu:=λ_ _ σ H _ I h=>qX ⟨σ,H,I,h⟩
theorem MQ (h1:PS X st t) (h2:PSs X rest u):PSs X (st::rest) (Wt t u):=by
 intro pins s σ H D I h
 refine vT (thn (h1 pins s σ H { D with nx:=u D } I h) λf s1 q=>?_)
 cases f with
 | next =>
  obtain⟨σ',H',I',q⟩:=q
  exact h2 pins s1 σ' H' D I' q
 | ret v=>exact q
 | brk=>exact q
 | cont=>exact q
theorem JV (h1:PS X st t):PSs X [st] t:=by
 intro pins s σ H D I h
 refine vT (thn (h1 pins s σ H D I h) λf s1 q=>?_)
 cases f with
 | next=>exact qX q
 | ret v=>exact q
 | brk=>exact q
 | cont=>exact q
theorem Inv.quiet {pins:List (Addr × Obj)} {σ:St} {H:Hp} {s:aD} (I:Inv X pins σ H s):interactive X.env=false:=by simp[interactive,I.ok.kind]
def Ut (te:TE):TS:=λD σ H=>te σ H λ_ H1=>D.nx σ H1
theorem wS (he:PE X e te) (hs:swapsWith e none pos.line X.env=pure false:=by rfl):PS X (.Expr e pos) (Ut te):=by
 intro pins s σ H D I h
 exact NS (thn (he pins s σ H _ I h) λv s1 ⟨x,H1,I1,r1,q1⟩=>⟨σ,H1,I1,q1⟩) I.quiet hs
def Ws (te:TE):TS:=λD σ H=>te σ H D.rt
theorem Rj (he:PE X e te):PS X (.Return (some e) pos) (Ws te):=by
 intro pins s σ H D I h
 exact wpAny_Return_some (thn (he pins s σ H _ I h) λv s1 ⟨x,H1,I1,r1,q1⟩=>⟨x,σ,H1,I1,r1,q1⟩)
def Wm (c:TT) (t u:TS):TS:=λD σ H=>c σ H λb H1=>if b=true then t D σ H1 else u D σ H1
theorem Pd {c:Expr} {a b:List Stmt} {tc:TT} (hc:PT X c tc) (ha:PSs X a t) (hb:PSs X b u):PS X (.If c a b pos) (Wm tc t u):=by
 intro pins s σ H D I h
 refine wpAny_If (thn (hc pins s σ H _ I h) λd s1 ⟨H1,I1,q1⟩=>?_)
 cases d with
 | true=>exact ha pins s1 σ H1 D I1 q1
 | false=>exact hb pins s1 σ H1 D I1 q1
def Sg:TS:=λ_ _ _=>False
theorem Jy:PS X st Sg:=λ_ _ _ _ _ _ h=>h.elim
end
abbrev TG:=V->St->Hp->(St->Hp->Prop)->Prop
abbrev TGs:=List V->St->Hp->(St->Hp->Prop)->Prop
def PG (X:Cx) (target:Expr) (t:TG):Prop :=
 ∀(pins:List (Addr × Obj)) (s:aD) (σ:St) (H:Hp) (v:V) (u:aB) (Q:St->Hp->Prop),Inv X pins σ H s->RelV v u->t v σ H Q ->
  wpAny (model X.prog X.w) X.A (assign target X.env u) (λ_ s'=>∃σ' H',Inv X pins σ' H' s'/\Q σ' H') X.xe s
def PGs (X:Cx) (ts:List Expr) (t:TGs):Prop :=
 ∀(pins:List (Addr × Obj)) (s:aD) (σ:St) (H:Hp) (vs:List V) (us:List aB) (Q:St->Hp->Prop),Inv X pins σ H s->Vals vs us->t vs σ H Q ->
  wpAny (model X.prog X.w) X.A (assignInOrder ((assignEach ts X.env).map (·.2)) us) (λ_ s'=>∃σ' H',Inv X pins σ' H' s'/\Q σ' H') X.xe s
section
variable {X:Cx} {pos:Pos}
def Ou (i:Nat):TG:=λv σ H Q=>Q (σ.set i (some v)) H
theorem Nq {i:Nat} {x:Str} (hN:X.N.Nodup) (hi:X.N[i]? = some x) (hx:Loc X.env.scope x) (hf:X.fn x=true\/X.env.scope.names.lookup x=some .local:=by walk_at "loc"):PG X (.Name x pos) (Ou i):=by
 intro pins s σ H v u Q I r h
 exact GC (zW I hN hi hx r (λs' I'=>⟨_,H,I',h⟩) hf)
def Vm:TGs:=λvs σ H Q=>vs=[]/\Q σ H
def Tb (t:TG) (u:TGs):TGs:=λvs σ H Q=>∃v r,vs=v::r/\t v σ H λσ' H'=>u r σ' H' Q
theorem Nr:PGs X [] Vm:=by
 intro pins s σ H vs us Q I r h
 obtain⟨e,h⟩:=h
 subst e
 cases r
 exact FB ⟨σ,H,I,h⟩
theorem Jv {e:Expr} {es:List Expr} {t:TG} {u:TGs} (h1:PG X e t) (h2:PGs X es u)
  (hs:(assignEach (e::es) X.env).map (·.2)=assign e X.env::(assignEach es X.env).map (·.2):=by rfl):PGs X (e::es) (Tb t u):=by
 intro pins s σ H vs us Q I r h
 obtain⟨v,vr,e1,h⟩:=h
 subst e1
 cases r with
 | cons r rr =>
  rw[hs]
  refine sL (thn (h1 pins s σ H _ _ _ I r h) λ_ s1 ⟨σ1,H1,I1,q1⟩=>?_)
  exact h2 pins s1 σ1 H1 _ _ Q I1 rr q1
def Vn (K:aF) (n:Nat) (t:TGs):TG:=λv σ H Q=>∃a xs,v = .ref a/\SqT K H a xs/\xs.length=n/\t xs σ H Q
theorem Rc {es:List Expr} {k:Nat} {t:TGs} {n:Nat} (hc:X.calm=true) (h:PGs X es t)
  (hn:(assignEach es X.env).length=n:=by rfl) (hst:(assignEach es X.env).findIdx? (·.1)=none:=by rfl):PG X (.Tuple es k pos) (Vn X.K n t):=by
 intro pins s σ H v u Q I r hw
 obtain⟨a,xs,e1,hq,hl,hw⟩:=hw
 subst e1
 cases r
 obtain⟨its,rv,ht,hz⟩:=I.tuple hq
 refine assign_Tuple_tuple (I.ok.hd hc) ht (by simp[hn,<-hl,rv.length]) hst λh' hx=>?_
 have I1:Inv X pins σ H { s with heap:=h' }:=I.kept (t':=s.toks) λb o e=>hx b o (aR (aO e)) e
 exact h pins _ σ H xs _ Q I1 (by simpa using rv) hw
def Uo (te:TE) (g:TG):TS:=λD σ H=>te σ H λx H1=>g x σ H1 D.nx
theorem Rf {tg e:Expr} {te:TE} {g:TG} (he:PE X e te) (hg:PG X tg g) (hs:swapsWithSole [tg] e pos.line X.env=pure false:=by rfl) (hw:swappedStores [tg] e X.env=pure none:=by rfl)
  (h1:(assignEach [tg] X.env).map (·.2)=[assign tg X.env]:=by rfl):PS X (.Assign [tg] e pos) (Uo te g):=by
 intro pins s σ H D I h
 refine wpAny_Assign_stores (thn (he pins s σ H _ I h) λv s1 ⟨x,H1,I1,r1,q1⟩=>?_) hs hw
 rw[h1]
 exact thn (hg pins s1 σ H1 x v _ I1 r1 q1) λ_ s2 q=>q
theorem MP {i:Nat} {x:Str} {e:Expr} {te:TE} {pos':Pos} (hN:X.N.Nodup) (hi:X.N[i]? = some x) (hx:Loc X.env.scope x) (he:PE X e te) (hs:swapsWith e (some (.Name x pos')) pos.line X.env=pure false:=by rfl) (hf:X.fn x=true\/X.env.scope.names.lookup x=some .local:=by walk_at "loc") :
  PS X (.Assign [.Name x pos'] e pos) (Uo te (Ou i)):=by
 intro pins s σ H D I h
 refine wpAny_Assign_Name (thn (he pins s σ H _ I h) λv s1 ⟨y,H1,I1,r1,q1⟩=>?_) hs
 exact zW I1 hN hi hx r1 (λs2 I2=>⟨_,H1,I2,q1⟩) hf
def Wr (i j:Nat) (ta:TA):TS:=λD σ H=>ta σ H λvs H1=>∃v w,vs=[v,w]/\D.nx ((σ.set i (some v)).set j (some w)) H1
theorem Ri {i j:Nat} {x y:Str} {a b:Expr} {ta:TA} {px py pt:Pos} {kt k2 pt2} (hc:X.calm=true) (hN:X.N.Nodup) (hi:X.N[i]? = some x) (hj:X.N[j]? = some y) (hij:i≠j)
  (hx:X.env.scope.names.lookup x=some .local) (hy:X.env.scope.names.lookup y=some .local) (ha:PA X [a,b] ta)
  (hw:swappedStores [.Tuple [.Name x px,.Name y py] kt pt] (.Tuple [a,b] k2 pt2) X.env=pure (some [x,y]))
  (hs:swapsWithSole [.Tuple [.Name x px,.Name y py] kt pt] (.Tuple [a,b] k2 pt2) pos.line X.env=pure false:=by rfl) :
  PS X (.Assign [.Tuple [.Name x px,.Name y py] kt pt] (.Tuple [a,b] k2 pt2) pos) (Wr i j ta):=by
 intro pins s σ H D I h
 rw[exec_Assign_arm]
 refine aA (nQ ?_)
 rw[hs]
 refine aA (aK ?_)
 rw[if_neg (by decide)]
 refine aA (Tuple_ (thn (ha _ pins s σ H _ I h) λus s1 ⟨vs,H1,I1,r1,q1⟩=>?_))
 obtain⟨v,w,e1,q1⟩:=q1
 subst e1
 obtain⟨u1,u2,rfl,rv,rw'⟩:∃u1 u2,us=[u1,u2]/\RelV v u1/\RelV w u2:=by
  cases r1 with
  | cons p q =>
   cases q with
   | cons p' q' =>
    cases q'
    exact⟨_,_,rfl,p,p'⟩
 refine eQ ?_ (by show 2<=sizeLine;decide)
 have I2:Inv X pins σ H1 { s1 with heap:=s1.heap.push { cls:=.type "tuple",data:=.seq [u1,u2].toArray } }:=I1.kept (t':=s1.toks) λb o e=>aJ _ e
 rw[hw]
 refine aA (aK ?_)
 show wpAny (model X.prog X.w) X.A (do rule "assign.swapped-stores";let items <-unpackItems (.ref s1.heap.objs.size) 2 none;assignInOrder [λv=>bindName X.env y v,λv=>bindName X.env x v] items.reverse;pure Flow.next) _ _ _
 refine aA (wpAny_rule (aA (unpackItems_tuple (items:=#[u1,u2]) (I.ok.hd hc) (GJ s1.heap _) λh' hx'=>?_)))
 have I3:=I2.kept (h':=h') (t':=s1.toks) λb o e=>hx' b o (aR (aO e)) e
 show wpAny _ _ (assignInOrder [λv=>bindName X.env y v,λv=>bindName X.env x v] [u2,u1] >>= λ_=>pure Flow.next) _ _ _
 refine aA (sL (NV (zW I3 hN hj (.inl hy) rw' (λs2 I4=>?_) (.inr hy))))
 refine sL (NV (zW I4 hN hi (.inl hx) rv (λs3 I5=>FB (aK ?_)) (.inr hx)))
 rw[List.set_comm _ _ (Ne.symm hij)] at I5
 exact⟨_,H1,I5,q1⟩
end
section
variable {X:Cx} {pos:Pos}
def Sh (c:TT) (tb:TS):TS:=λD σ H=>∃W:Nat->St->Hp->Prop,(∃m,W m σ H)/\∀m σ H,W m σ H ->
 c σ H λb H1=>if b=true then ∃N:St->Hp->Prop,(∀σ' H',N σ' H'->∃m',m'<m/\W m' σ' H')/\tb { D with nx:=N,ct:=N,bk:=D.nx } σ H1 else D.nx σ H1
theorem Jz {c:Expr} {body:List Stmt} {tc:TT} {tb:TS} (hp:PassesOwn (model X.prog X.w) X.A X.env X.xe) (hc:PT X c tc) (hb:PSs X body tb):PS X (.While c body [] pos) (Sh tc tb):=by
 intro pins s σ H D I h
 obtain⟨W,⟨m0,w0⟩,turn⟩:=h
 refine wpAny_While (codeAny_whileLoop (λn s'=>∃σ' H',Inv X pins σ' H' s'/\W n σ' H') ?_ m0 ⟨σ,H,I,w0⟩)
 rintro n s1 ⟨σ1,H1,I1,w1⟩
 refine jR hp (thn (hc pins s1 σ1 H1 _ I1 (turn n σ1 H1 w1)) λb s2 ⟨H2,I2,q2⟩=>?_)
 cases b with
 | true =>
  obtain⟨N,hN,q2⟩:=q2
  rw[if_pos rfl]
  refine jR hp (thn (hb pins s2 σ1 H2 _ I2 q2) λf s3 q3=>?_)
  cases f with
  | next =>
   obtain⟨σ3,H3,I3,n3⟩:=q3
   obtain⟨m',hm,w3⟩:=hN σ3 H3 n3
   exact⟨m',hm,σ3,H3,I3,w3⟩
  | cont =>
   obtain⟨σ3,H3,I3,n3⟩:=q3
   obtain⟨m',hm,w3⟩:=hN σ3 H3 n3
   exact⟨m',hm,σ3,H3,I3,w3⟩
  | brk=>exact q3
  | ret v=>exact q3
 | false =>
  rw[if_neg bS]
  exact qX ⟨σ1,H2,I2,q2⟩
end
structure It where
 go:Nat->Hp->Prop
 yld:Nat->Hp->V->Hp->Prop
 stop:Nat->Hp->Prop
def GG (X:Cx) (pins:List (Addr × Obj)) (H:Hp) (b:Addr):Prop :=
 H b=none/\b≠X.env.locals/\b ∉ X.fs/\(b∈X.ex\/X.s₀.heap.objs.size<=b)/\(∀x c,X.env.cells.lookup x=some c->c≠b)/\∀p∈X.pn++pins,p.1≠b
theorem Inv.fpOk {X:Cx} {pins:List (Addr × Obj)} {σ:St} {H H':Hp} {s:aD} {b:Addr} (I:Inv X pins σ H s) (hb:s.heap.objs.size<=b) (hn:H' b=none):GG X pins H' b:=by
 refine⟨hn,jB (aV I.lt hb),I.nofs hb,.inr (dQ I.sz hb),λx c e z=>?_,λp hp z=>?_⟩
 ·obtain⟨v,q⟩:=I.cell x c e
  exact absurd (aV q.lt (by rw[z];exact hb)) (fM _)
 ·exact absurd (aV (aO (I.pin p hp).1) (by rw[z];exact hb)) (fM _)
structure Turn (P:bA) (w:cA) (K:aF) (tg:Expr) (J:It) (fp:List Addr) (it:Addr) (tn:Nat->Heap->Prop):Prop where
 mem:it∈fp
 obj:∀i h,tn i h->∀b∈fp,∃o,h.get? b=some o/\∀v,o.data≠.cell v
 keep:∀i h h',tn i h->(∀b∈fp,∀o,h.get? b=some o->h'.get? b=some o)->tn i h'
 item:∀(X:Cx),X.prog=P->X.w=w->X.K=K->X.calm=true->∀(i:Nat) (pins:List (Addr × Obj)) (s:aD) (σ:St) (H:Hp) (E:aB->aD->Prop),Inv X pins σ H s->(∀b∈fp,GG X pins H b)->tn i s.heap->J.go i H ->
  wpAny (model P w) X.A (pyNext (.ref it)) (λr s1=>∃u,r=some u /\
   wpAny (model P w) X.A (letOwnedTupleGo tg (.ref it) u) (λ_ s2=>∃x H',Inv X pins σ H' s2/\RelV x u/\J.yld i H x H'/\tn (i+1) s2.heap/\∀b∈fp,H' b=none) E s1) E s
 done:∀(X:Cx),X.prog=P->X.w=w->X.K=K->X.calm=true->∀(i:Nat) (pins:List (Addr × Obj)) (s:aD) (σ:St) (H:Hp) (E:aB->aD->Prop),Inv X pins σ H s->(∀b∈fp,GG X pins H b)->tn i s.heap->J.stop i H ->
  wpAny (model P w) X.A (pyNext (.ref it)) (λr s1=>r=none/\Inv X pins σ H s1) E s
 self:∀(A:cE) (i:Nat) (s:aD) (Q:aB->aD->Prop) (E:aB->aD->Prop),tn i s.heap->Q (.ref it) s->wpAny (model P w) A (pyIter (.ref it)) Q E s
abbrev TI:=St->Hp->(It->Hp->Prop)->Prop
def PIE (X:Cx) (pins:List (Addr × Obj)) (σ:St) (tg:Expr) (R:It->Hp->Prop) (itv:aB) (s2:aD):Prop :=
 ∃(it:Addr) (fp:List Addr) (tn:Nat->Heap->Prop) (J:It) (H':Hp),itv = .ref it/\Inv X pins σ H' s2/\Turn X.prog X.w X.K tg J fp it tn/\tn 0 s2.heap/\(∀b∈fp,GG X pins H' b)/\R J H'
def PI (X:Cx) (tg iter:Expr) (wi:TI):Prop :=
 ∀(pins:List (Addr × Obj)) (s:aD) (σ:St) (H:Hp) (R:It->Hp->Prop),Inv X pins σ H s->wi σ H R ->
  wpAny (model X.prog X.w) X.A (eval iter X.env) (λv s1=>wpAny (model X.prog X.w) X.A (pyIter v) (PIE X pins σ tg R) X.xe s1) X.xe s
theorem Ic {M:Model} {A:cE} {E:aB->aD->Prop} {s:aD} {tg:Expr} {it:Addr} {u:aB} {o:Obj} {n:String} {vs:Array aB} {Q:Unit->aD->Prop} (ho:s.heap.get? it=some o) (hc:o.cls = .type n) (hd:o.data = .fields vs)
  (hn:["enumerate","zip","dict_itemiterator","dict_reverseitemiterator","odict_iterator","itertools.zip_longest","itertools.pairwise"].contains n=false) (hQ:Q () s):wpAny M A (letOwnedTupleGo tg (.ref it) u) Q E s:=by
 unfold letOwnedTupleGo
 cases tg <;> first
  | exact aK hQ
  | (cases u <;> first
    | exact aK hQ
    | (refine aA (wpAny_load ho ?_);rw[hc,hd];show wpAny M A (if (["enumerate","zip","dict_itemiterator","dict_reverseitemiterator","odict_iterator","itertools.zip_longest","itertools.pairwise"].contains n && vs[0]? == some (rawInt _))=true then _ else _) Q E s;rw[if_neg (by intro h;rw[hn,yH] at h;cases h)];exact aK hQ))
def Itl (K:aF) (a:Addr):It :=
 ⟨λi H=>∃xs x,SqL K H a xs/\xs[i]? = some x,λi H x H'=>H'=H/\∀xs,SqL K H a xs->xs[i]? = some x,λi H=>∃xs,SqL K H a xs/\xs.length<=i⟩
def Itt (K:aF) (a:Addr):It :=
 ⟨λi H=>∃xs x,SqT K H a xs/\xs[i]? = some x,λi H x H'=>H'=H/\∀xs,SqT K H a xs->xs[i]? = some x,λi H=>∃xs,SqT K H a xs/\xs.length<=i⟩
def Itr (lo:Int) (n:Nat):It:=⟨λi _=>i<n,λi H x H'=>H'=H/\x = .int (lo+i),λi _=>n<=i⟩
theorem Fx {P:bA} {w:cA} {K:aF} {tg:Expr} (a it:Addr):Turn P w K tg (Itl K a) [it] it (λi h=>h.IsListIter it a i) where
 mem:=by simp
 obj:=λi h st b hb=>by
  have e:b=it:=by simpa using hb
  subst e
  obtain⟨o,e,c,d⟩:=st
  exact⟨o,e,λv z=>by rw[d] at z;cases z⟩
 keep:=λi h h' st k=>st.at λo e=>k it (by simp) o e
 item:=by
  intro X hP hw hK hc i pins s σ H E I hf st hg
  subst hP hw hK
  obtain⟨xs,x,hq,hx⟩:=hg
  obtain⟨its,rv,p,hz⟩:=I.list hq
  obtain⟨u,hu,ru⟩:=rv.get hx
  obtain⟨f0,f1,f2,f3,f4,f5⟩:=hf it (by simp)
  refine wV st p.isList (x:=u) (by simpa using hu) λh' st' sb=>?_
  have I1:Inv X pins σ H { s with heap:=h' }:=I.turned (t':=s.toks) (λb o hb e=>(sb.2 b hb).trans e) f0 f1 f3 f4 f5
  obtain⟨o,e,c,d⟩:=id st'
  exact⟨u,rfl,Ic (s:={ s with heap:=h' }) e c d (by decide) ⟨x,H,I1,ru,⟨rfl,λys hy=>by rw[I.list_inj hy hq];exact hx⟩,st',λb hb=>(hf b hb).1⟩⟩
 done:=by
  intro X hP hw hK hc i pins s σ H E I hf st hg
  subst hP hw hK
  obtain⟨xs,hq,hx⟩:=hg
  obtain⟨its,rv,p,hz⟩:=I.list hq
  obtain⟨f0,f1,f2,f3,f4,f5⟩:=hf it (by simp)
  have hl:=rv.length
  exact yD (I.ok.hd hc) st p.isList (by simp;omega) λh' eb=>⟨rfl,I.turned (t':=s.toks) (λb o hb e=>eb b o hb e) f0 f1 f3 f4 f5⟩
 self:=λ_ _ _ _ _ st h=>wpAny_pyIter_listiter st h
theorem Af {P:bA} {w:cA} {K:aF} {tg:Expr} (a it:Addr):Turn P w K tg (Itt K a) [it] it (λi h=>h.IsTupleIter it a i) where
 mem:=by simp
 obj:=λi h st b hb=>by
  have e:b=it:=by simpa using hb
  subst e
  obtain⟨o,e,c,d⟩:=st
  exact⟨o,e,λv z=>by rw[d] at z;cases z⟩
 keep:=λi h h' st k=>st.at λo e=>k it (by simp) o e
 item:=by
  intro X hP hw hK hc i pins s σ H E I hf st hg
  subst hP hw hK
  obtain⟨xs,x,hq,hx⟩:=hg
  obtain⟨its,rv,p,hz⟩:=I.tuple hq
  obtain⟨u,hu,ru⟩:=rv.get hx
  obtain⟨f0,f1,f2,f3,f4,f5⟩:=hf it (by simp)
  refine wpAny_pyNext_tuple_item st (show s.heap.IsTuple a its.toArray from p) (x:=u) (by simpa using hu) λh' st' sb=>?_
  have I1:Inv X pins σ H { s with heap:=h' }:=I.turned (t':=s.toks) (λb o hb e=>(sb.2 b hb).trans e) f0 f1 f3 f4 f5
  obtain⟨o,e,c,d⟩:=id st'
  exact⟨u,rfl,Ic (s:={ s with heap:=h' }) e c d (by decide) ⟨x,H,I1,ru,⟨rfl,λys hy=>by rw[I.tuple_inj hy hq];exact hx⟩,st',λb hb=>(hf b hb).1⟩⟩
 done:=by
  intro X hP hw hK hc i pins s σ H E I hf st hg
  subst hP hw hK
  obtain⟨xs,hq,hx⟩:=hg
  obtain⟨its,rv,p,hz⟩:=I.tuple hq
  obtain⟨f0,f1,f2,f3,f4,f5⟩:=hf it (by simp)
  have hl:=rv.length
  exact wpAny_pyNext_tuple_end (I.ok.hd hc) st (show s.heap.IsTuple a its.toArray from p) (by simp;omega) λh' eb=>⟨rfl,I.turned (t':=s.toks) (λb o hb e=>eb b o hb e) f0 f1 f3 f4 f5⟩
 self:=λ_ _ _ _ _ st h=>wpAny_pyIter_tupleiter st h
theorem Ae {P:bA} {w:cA} {K:aF} {tg:Expr} (it:Addr) (lo:Int) (n:Nat):Turn P w K tg (Itr lo n) [it] it (λi h=>IsRangeIter h it (lo+(i:Nat)*1) ((n:Int)-(i:Nat)) 1) where
 mem:=by simp
 obj:=λi h st b hb=>by
  have e:b=it:=by simpa using hb
  subst e
  exact⟨_,st,λv z=>by
   have z':Data.fields _=Data.cell v:=z
   cases z'⟩
 keep:=λi h h' st k=>k it (by simp) _ st
 item:=by
  intro X hP hw hK hc i pins s σ H E I hf st hg
  subst hP hw hK
  obtain⟨f0,f1,f2,f3,f4,f5⟩:=hf it (by simp)
  have W:=Walks.range (prog:=X.prog) (w:=X.w) (I.ok.hd hc) it lo 1 n
  refine W.item i s _ _ hg st λv h' tk hv st' kk=>?_
  obtain⟨t,rfl⟩:=hv
  have I1:Inv X pins σ H { s with heap:=h',toks:=tk }:=I.turned (λb o hb e=>kk b o (by simpa using hb) e) f0 f1 f3 f4 f5
  refine⟨_,rfl,Ic (s:={ s with heap:=h',toks:=tk }) (n:="range_iterator") st' rfl rfl (by decide) ⟨.int (lo+i),H,I1,⟨t,?_⟩,⟨rfl,rfl⟩,st',λb hb=>(hf b hb).1⟩⟩
  rw[Int.mul_one]
 done:=by
  intro X hP hw hK hc i pins s σ H E I hf st hg
  subst hP hw hK
  obtain⟨f0,f1,f2,f3,f4,f5⟩:=hf it (by simp)
  exact wpAny_pyNext_range_end (I.ok.hd hc) st (by have:n<=i:=hg;omega) λh' eb=>⟨rfl,I.turned (t':=s.toks) (λb o hb e=>eb b o hb e) f0 f1 f3 f4 f5⟩
 self:=λ_ _ _ _ _ st h=>wpAny_pyIter_rangeiter st h
section
variable {X:Cx} {tg:Expr}
def Td (K:aF) (tl:TE):TI:=λσ H R=>tl σ H λx H1=>∃a,x = .ref a/\(∃xs,SqL K H1 a xs)/\R (Itl K a) H1
def Vo (K:aF) (tl:TE):TI:=λσ H R=>tl σ H λx H1=>∃a,x = .ref a/\(∃xs,SqT K H1 a xs)/\R (Itt K a) H1
theorem Nt {l:Expr} {tl:TE} (hl:PE X l tl):PI X tg l (Td X.K tl):=by
 intro pins s σ H R I h
 refine thn (hl pins s σ H _ I h) λv s1 ⟨x,H1,I1,r1,q1⟩=>?_
 obtain⟨a,e,⟨xs,hq⟩,q⟩:=q1
 subst e
 cases r1
 obtain⟨its,rv,p,hz⟩:=I1.list hq
 refine pK p.isList ?_
 refine⟨s1.heap.objs.size,[s1.heap.objs.size],_,_,H1,rfl,I1.kept (t':=s1.toks) λb o e=>aJ _ e,Fx a _,⟨_,bX _ rfl,rfl,rfl⟩,λb hb=>?_,q⟩
 have e:b=s1.heap.objs.size:=by simpa using hb
 subst e
 exact I1.fpOk (aZ _) (I1.hok.fresh (aZ _))
theorem Re {l:Expr} {tl:TE} (hl:PE X l tl):PI X tg l (Vo X.K tl):=by
 intro pins s σ H R I h
 refine thn (hl pins s σ H _ I h) λv s1 ⟨x,H1,I1,r1,q1⟩=>?_
 obtain⟨a,e,⟨xs,hq⟩,q⟩:=q1
 subst e
 cases r1
 obtain⟨its,rv,p,hz⟩:=I1.tuple hq
 refine DX (show s1.heap.IsTuple a its.toArray from p) ?_
 refine⟨s1.heap.objs.size,[s1.heap.objs.size],_,_,H1,rfl,I1.kept (t':=s1.toks) λb o e=>aJ _ e,Af a _,⟨_,bX _ rfl,rfl,rfl⟩,λb hb=>?_,q⟩
 have e:b=s1.heap.objs.size:=by simpa using hb
 subst e
 exact I1.fpOk (aZ _) (I1.hok.fresh (aZ _))
theorem WY {pins:List (Addr × Obj)} {σ:St} {H:Hp} {s:aD} {R:It->Hp->Prop} {E:aB->aD->Prop} {lo hi:Int} {t u v:Tok} {tk:Nat} (I:Inv X pins σ H s) (h1:-(2 ^ 62)<=lo) (h2:lo<2 ^ 62) (h3:-(2 ^ 62)<=hi) (h4:hi<2 ^ 62)
  (q:R (Itr lo (hi-lo).toNat) H):wpAny (model X.prog X.w) X.A (pyIter (.ref s.heap.objs.size)) (PIE X pins σ tg R) E { s with heap:=s.heap.push { cls:=.type "range",data:=.fields #[.int lo t,.int hi u,.int 1 v] },toks:=tk }:=by
 refine wpAny_pyIter_range (IsRange.new ..) (small_one h1 h2 h3 h4) ?_
 have I1:Inv X pins σ H { s with heap:=s.heap.push { cls:=.type "range",data:=.fields #[.int lo t,.int hi u,.int 1 v] },toks:=tk }:=I.kept λb o e=>aJ _ e
 refine⟨(s.heap.push { cls:=.type "range",data:=.fields #[.int lo t,.int hi u,.int 1 v] }).objs.size,[(s.heap.push { cls:=.type "range",data:=.fields #[.int lo t,.int hi u,.int 1 v] }).objs.size],_,_,H,rfl,
  I1.kept (t':=tk) λb o e=>aJ _ e,Ae _ lo (hi-lo).toNat,?_,λb hb=>?_,q⟩
 ·have e1:lo+((0:Nat):Int)*1=lo:=by simp
  have e2:(((hi-lo).toNat:Nat):Int)-((0:Nat):Int)=Builtin.Range.rangeSize lo hi 1:=by rw[rangeSize_one];split <;> omega
  show IsRangeIter _ _ (lo+((0:Nat):Int)*1) ((((hi-lo).toNat:Nat):Int)-((0:Nat):Int)) 1
  rw[e1,e2]
  exact bX _ rfl
 ·have e:b=(s.heap.push { cls:=.type "range",data:=.fields #[.int lo t,.int hi u,.int 1 v] }).objs.size:=by simpa using hb
  subst e
  exact I1.fpOk (aZ _) (I1.hok.fresh (aZ _))
def Te (ta:TA):TI:=λσ H R=>ta σ H λvs H1=>∃j:Int,vs=[.int j]/\-(2 ^ 62)<=j/\j<2 ^ 62/\R (Itr 0 j.toNat) H1
def Tf (ta:TA):TI:=λσ H R=>ta σ H λvs H1=>∃i j:Int,vs=[.int i,.int j]/\(-(2 ^ 62)<=i/\i<2 ^ 62/\-(2 ^ 62)<=j/\j<2 ^ 62)/\R (Itr i (j-i).toNat) H1
theorem Fe {a:Expr} {ta:TA} {p pos:Pos} (hg:Gl X "range") (hm:X.mg "range" = none) (ha:PA X [a] ta) (hs:starEach [a] X.env=[(false,eval a X.env)]:=by rfl):PI X tg (.Call (.Name "range" p) [a] [] pos) (Te ta):=by
 intro pins s σ H R I h
 refine Call_ (qC I hg hm boot_range (dZ (thn (ha pos pins s σ H _ I h) λus s1 ⟨vs,H1,I1,r1,q1⟩=>?_) hs rfl))
 obtain⟨j,e,q1,q2,q⟩:=q1
 subst e
 cases r1 with
 | cons r rr =>
  cases rr
  obtain⟨t,rfl⟩:=r
  exact call_range_1 (WY I1 (by omega) (by omega) q1 q2 (by simpa using q))
theorem Ff {a b:Expr} {ta:TA} {p pos:Pos} (hg:Gl X "range") (hm:X.mg "range" = none) (ha:PA X [a,b] ta) (hs:starEach [a,b] X.env=[(false,eval a X.env),(false,eval b X.env)]:=by rfl) (hs2:starEach [b] X.env=[(false,eval b X.env)]:=by rfl) :
  PI X tg (.Call (.Name "range" p) [a,b] [] pos) (Tf ta):=by
 intro pins s σ H R I h
 refine Call_ (qC I hg hm boot_range (dZ (thn (ha pos pins s σ H _ I h) λus s1 ⟨vs,H1,I1,r1,q1⟩=>?_) (by rw[hs,hs2]) (by rw[hs2];rfl)))
 obtain⟨i,j,e,⟨q1,q2,q3,q4⟩,q⟩:=q1
 subst e
 cases r1 with
 | cons r rr =>
  cases rr with
  | cons r' rr =>
   cases rr
   obtain⟨t,rfl⟩:=r
   obtain⟨t',rfl⟩:=r'
   exact call_range_2 (WY I1 q1 q2 q3 q4 q)
def Wl (wi:TI) (g:TG) (tb:TS):TS:=λD σ H=>wi σ H λJ H1=>∃W:Nat->Nat->St->Hp->Prop,(∃m,W 0 m σ H1)/\∀i m σ H,W i m σ H ->
 (J.stop i H/\D.nx σ H)\/(J.go i H/\∃N:St->Hp->Prop,(∀σ' H',N σ' H'->∃m',m'<m/\W (i+1) m' σ' H')/\∀x H',J.yld i H x H'->g x σ H' λσ2 H2=>tb { D with nx:=N,ct:=N,bk:=D.nx } σ2 H2)
def SU (fp:List Addr) (h:Heap):List (Addr × Obj):=fp.filterMap λb=>(h.get? b).map λo=>(b,o)
theorem qE {fp:List Addr} {h:Heap} {b:Addr} {o:Obj} (hb:b∈fp) (e:h.get? b=some o):(b,o)∈SU fp h:=oA.mpr ⟨b,hb,by rw[e];rfl⟩
theorem Ey {fp:List Addr} {h:Heap} {p:Addr × Obj} (hp:p∈SU fp h):p.1∈fp/\h.get? p.1=some p.2:=by
 obtain⟨b,hb,e⟩:=oA.mp hp
 cases q:h.get? b with
 | none=>rw[q] at e;cases e
 | some o =>
  rw[q] at e
  have e':(b,o)=p:=dE e
  subst e'
  exact⟨hb,q⟩
theorem Inv.pinned {pins:List (Addr × Obj)} {σ:St} {H:Hp} {s:aD} {fp:List Addr} (I:Inv X pins σ H s) (hf:∀b∈fp,GG X pins H b) (ho:∀b∈fp,∃o,s.heap.get? b=some o/\∀v,o.data≠.cell v):Inv X (pins++SU fp s.heap) σ H s :=
 I.pins_of λp hp=>(cH.mp hp).elim (λz=>I.pin p (bK _ z)) λz=>by
  obtain⟨hb,e⟩:=Ey z
  obtain⟨f0,f1,f2,_⟩:=hf p.1 hb
  obtain⟨o,e',d⟩:=ho p.1 hb
  rw[e] at e';cases e'
  exact⟨e,f0,f1,f2,d⟩
theorem Inv.unpinned {pins pl:List (Addr × Obj)} {σ:St} {H:Hp} {s:aD} (I:Inv X (pins++pl) σ H s):Inv X pins σ H s:=I.pins_of λp hp=>I.pin p (bK _ (eP _ hp))
theorem Rh {iter:Expr} {body:List Stmt} {wi:TI} {g:TG} {tb:TS} {pos:Pos} (hp:PassesOwn (model X.prog X.w) X.A X.env X.xe) (hc:X.calm=true) (hi:PI X tg iter wi) (hg:PG X tg g) (hb:PSs X body tb)
  (hs:∀x,foldedSetIterable iter X.env x=pure x:=by intro _;rfl):PS X (.For tg iter body [] pos) (Wl wi g tb):=by
 intro pins s σ H D I h
 refine wpAny_For (thn (hi pins s σ H _ I h) λv s1 h1=>thn h1 λitv s2 h2=>?_) hs
 obtain⟨it,fp,tn,J,H2,e,I2,T,st2,f2,W,⟨m0,w0⟩,turn⟩:=h2
 subst e
 have stat:∀{H':Hp},(∀b∈fp,H' b=none)->∀b∈fp,GG X pins H' b:=λhn b hb=>⟨hn b hb,(f2 b hb).2⟩
 refine codeAny_forLoop_any (λn s'=>∃i σ' H',Inv X pins σ' H' s'/\tn i s'.heap/\(∀b∈fp,H' b=none)/\W i n σ' H') ?_ m0 ⟨0,σ,H2,I2,st2,λb hb=>(f2 b hb).1,w0⟩
 rintro n s3 ⟨i,σ3,H3,I3,st3,fr3,w3⟩
 rcases turn i n σ3 H3 w3 with ⟨stop,qn⟩ | ⟨go,N,hN,step⟩
 ·refine jR hp (thn (T.done X rfl rfl rfl hc i pins s3 σ3 H3 X.xe I3 (stat fr3) st3 stop) λr s4 ⟨hr,I4⟩=>?_)
  subst hr
  exact qX ⟨σ3,H3,I4,qn⟩
 ·refine jR hp (thn (T.item X rfl rfl rfl hc i pins s3 σ3 H3 X.xe I3 (stat fr3) st3 go) λr s4 ⟨u,hr,h4⟩=>?_)
  subst hr
  refine jR hp (thn h4 λ_ s5 ⟨x,H5,I5,r5,y5,st5,fr5⟩=>?_)
  have I5':=I5.pinned (stat fr5) (T.obj _ _ st5)
  refine jR hp (thn (hg _ s5 σ3 H5 x u _ I5' r5 (step x H5 y5)) λ_ s6 ⟨σ6,H6,I6,q6⟩=>?_)
  refine jR hp (thn (hb _ s6 σ6 H6 _ I6 q6) λf s7 q7=>?_)
  have again:∀{σ7:St} {H7:Hp},Inv X (pins++SU fp s5.heap) σ7 H7 s7->N σ7 H7->∃m,m<n/\∃i σ' H',Inv X pins σ' H' s7/\tn i s7.heap/\(∀b∈fp,H' b=none)/\W i m σ' H':=λ{σ7 H7} I7 n7=>by
   obtain⟨m',hm,w7⟩:=hN σ7 H7 n7
   refine⟨m',hm,i+1,σ7,H7,I7.unpinned,T.keep _ _ _ st5 λb hb o e=>(I7.pin (b,o) (bK _ (bK _ (qE hb e)))).1,λb hb=>?_,w7⟩
   obtain⟨o,e,d⟩:=T.obj _ _ st5 b hb
   exact (I7.pin (b,o) (bK _ (bK _ (qE hb e)))).2.1
  cases f with
  | next=>obtain⟨σ7,H7,I7,n7⟩:=q7;exact again I7 n7
  | cont=>obtain⟨σ7,H7,I7,n7⟩:=q7;exact again I7 n7
  | brk=>obtain⟨σ7,H7,I7,q7⟩:=q7;exact⟨σ7,H7,I7.unpinned,q7⟩
  | ret v=>obtain⟨x7,σ7,H7,I7,r7,q7⟩:=q7;exact⟨x7,σ7,H7,I7.unpinned,r7,q7⟩
end
theorem LM {K:aF} {a:Addr} {xs:List V} {g:TG} {tb:TS} {D:Ends} {σ:St} {H:Hp} (Pv:Nat->St->Hp->Prop) (h0:Pv 0 σ H) (hl:∀i σ H,i<=xs.length->Pv i σ H->SqL K H a xs)
  (hs:∀i x σ H,xs[i]? = some x->Pv i σ H->g x σ H λσ2 H2=>tb { D with nx:=Pv (i+1),ct:=Pv (i+1),bk:=D.nx } σ2 H2) (hd:∀σ H,Pv xs.length σ H->D.nx σ H) :
  ∃W:Nat->Nat->St->Hp->Prop,(∃m,W 0 m σ H)/\∀i m σ H,W i m σ H ->
   ((Itl K a).stop i H/\D.nx σ H)\/((Itl K a).go i H/\∃N:St->Hp->Prop,(∀σ' H',N σ' H'->∃m',m'<m/\W (i+1) m' σ' H')/\∀x H',(Itl K a).yld i H x H'->g x σ H' λσ2 H2=>tb { D with nx:=N,ct:=N,bk:=D.nx } σ2 H2):=by
 refine⟨λi m σ H=>m=xs.length-i/\i<=xs.length/\Pv i σ H,⟨xs.length,by simp,dY _,h0⟩,?_⟩
 rintro i m σ H ⟨rfl,hi,p⟩
 have q:=hl i σ H hi p
 by_cases hlt:i<xs.length
 ·refine .inr ⟨⟨xs,xs[i],q,by simp[hlt]⟩,Pv (i+1),λσ' H' p'=>⟨xs.length-(i+1),by omega,rfl,hlt,p'⟩,λx H' y=>?_⟩
  obtain⟨e,y⟩:=y
  subst e
  exact hs i x σ _ (y xs q) p
 ·have e:i=xs.length:=by omega
  subst e
  exact .inl ⟨⟨xs,q,aZ _⟩,hd σ H p⟩
abbrev R2:=V->V->Hp->VK->Prop
def OpR (X:Cx) (f:aB->aB->Sem aB) (r:R2):Prop :=
 ∀(pins:List (Addr × Obj)) (s:aD) (σ:St) (H:Hp) (x y:V) (v u:aB) (Q:VK),Inv X pins σ H s->RelV x v->RelV y u->r x y H Q ->
  wpAny (model X.prog X.w) X.A (f v u) (EP X pins σ Q) X.xe s
def UnR (X:Cx) (f:aB->Sem aB) (r:V->Hp->VK->Prop):Prop :=
 ∀(pins:List (Addr × Obj)) (s:aD) (σ:St) (H:Hp) (x:V) (v:aB) (Q:VK),Inv X pins σ H s->RelV x v->r x H Q ->
  wpAny (model X.prog X.w) X.A (f v) (EP X pins σ Q) X.xe s
def wX (X:Cx) (f:aB) (r:List V->Hp->VK->Prop):Prop :=
 ∀(pins:List (Addr × Obj)) (s:aD) (σ:St) (H:Hp) (xs:List V) (us:List aB) (Q:VK),Inv X pins σ H s->Vals xs us->r xs H Q ->
  wpAny (model X.prog X.w) X.A (call f us) (EP X pins σ Q) X.xe s
def tOp (r:R2) (ta tb:TE):TE:=λσ H Q=>ta σ H λx H1=>tb σ H1 λy H2=>r x y H2 Q
def tUn (r:V->Hp->VK->Prop) (ta:TE):TE:=λσ H Q=>ta σ H λx H1=>r x H1 Q
def rI (C:Int->Int->Prop) (g:Int->Int->V):R2:=λx y H Q=>∃i j,x = .int i/\y = .int j/\C i j/\Q (g i j) H
def rI0 (g:Int->Int->V):R2:=λx y H Q=>∃i j,x = .int i/\y = .int j/\Q (g i j) H
def rU (g:Int->V):V->Hp->VK->Prop:=λx H Q=>∃i,x = .int i/\Q (g i) H
section
variable {X:Cx} {a b c:Expr} {ta tb tc:TE} {pos:Pos}
theorem Pl (ha:PE X a ta) (hb:PE X b tb) {pins:List (Addr × Obj)} {s:aD} {σ:St} {H:Hp} {R:V->V->Hp->Prop} (I:Inv X pins σ H s)
  (h:ta σ H λx H1=>tb σ H1 λy H2=>R x y H2) {Q:aB->aD->Prop} {f:aB->aB->Sem aB}
  (hf:∀v u s2 x y H2,Inv X pins σ H2 s2->RelV x v->RelV y u->R x y H2->wpAny (model X.prog X.w) X.A (f v u) Q X.xe s2) :
  wpAny (model X.prog X.w) X.A (eval a X.env) (λv s₁=>wpAny (model X.prog X.w) X.A (eval b X.env) (λu s₂=>wpAny (model X.prog X.w) X.A (f v u) Q X.xe s₂) X.xe s₁) X.xe s:=by
 refine thn (ha pins s σ H _ I h) λv s1 ⟨x,H1,I1,r1,q1⟩=>?_
 refine thn (hb pins s1 σ H1 _ I1 q1) λu s2 ⟨y,H2,I2,r2,q2⟩=>?_
 exact hf v u s2 x y H2 I2 r1 r2 q2
theorem Tv {op:Operator} {r:R2} (ho:OpR X (binaryOp op) r) (ha:PE X a ta) (hb:PE X b tb):PE X (.BinOp a op b pos) (tOp r ta tb):=by
 intro pins s σ H Q I h
 exact wpAny_BinOp (Pl ha hb I h λv u s2 x y H2 I2 rx ry q=>ho pins s2 σ H2 x y v u Q I2 rx ry q)
theorem Tx {op:UnaryOp} {r:V->Hp->VK->Prop} (ho:UnR X (unaryOp op) r) (ha:PE X a ta):PE X (.UnaryOp op a pos) (tUn r ta):=by
 intro pins s σ H Q I h
 exact UnaryOp_ (thn (ha pins s σ H _ I h) λv s1 ⟨x,H1,I1,r1,q1⟩=>ho pins s1 σ H1 x v Q I1 r1 q1)
theorem opI {f:aB->aB->Sem aB} {C:Int->Int->Prop} {g:Int->Int->Int}
  (rule:∀(i j:Int) (t u:Tok) (s:aD) (Q:aB->aD->Prop) (E:aB->aD->Prop),C i j->Q (.int (g i j) s.toks) { s with toks:=s.toks+1 }->wpAny (model X.prog X.w) X.A (f (.int i t) (.int j u)) Q E s) :
  OpR X f (rI C λi j=>.int (g i j)):=by
 intro pins s σ H x y v u Q I rx ry h
 obtain⟨i,j,rfl,rfl,hc,q⟩:=h
 obtain⟨t,rfl⟩:=rx
 obtain⟨t',rfl⟩:=ry
 exact rule i j t t' s _ _ hc ⟨.int (g i j),H,I.tok _,⟨_,rfl⟩,q⟩
theorem Nh {f:aB->aB->Sem aB} {g:Int->Int->Bool}
  (rule:∀(i j:Int) (t u:Tok) (s:aD) (Q:aB->aD->Prop) (E:aB->aD->Prop),Q (.bool (g i j)) s->wpAny (model X.prog X.w) X.A (f (.int i t) (.int j u)) Q E s) :
  OpR X f (rI0 λi j=>.bl (g i j)):=by
 intro pins s σ H x y v u Q I rx ry h
 obtain⟨i,j,rfl,rfl,q⟩:=h
 obtain⟨t,rfl⟩:=rx
 obtain⟨t',rfl⟩:=ry
 exact rule i j t t' s _ _ ⟨.bl (g i j),H,I,rfl,q⟩
def CMul (i j:Int):Prop:=(-(2 ^ 64)<i/\i<2 ^ 64)\/(-(2 ^ 64)<j/\j<2 ^ 64)
theorem CMul.ok {i j:Int} (h:CMul i j):IntMulOk i j:=by
 rcases h with ⟨h1,h2⟩ | ⟨h1,h2⟩
 ·exact .of_left (OO h1 h2)
 ·exact .of_right (OO h1 h2)
theorem unI {f:aB->Sem aB} {g:Int->Int}
  (rule:∀(i:Int) (t:Tok) (s:aD) (Q:aB->aD->Prop) (E:aB->aD->Prop),Q (.int (g i) s.toks) { s with toks:=s.toks+1 }->wpAny (model X.prog X.w) X.A (f (.int i t)) Q E s) :
  UnR X f (rU λi=>.int (g i)):=by
 intro pins s σ H x v Q I rx h
 obtain⟨i,rfl,q⟩:=h
 obtain⟨t,rfl⟩:=rx
 exact rule i t s _ _ ⟨.int (g i),H,I.tok _,⟨_,rfl⟩,q⟩
theorem Sk:UnR X (unaryOp .USub) (rU λi=>.int (-i)):=unI λ_ _ _ _ _ q=>neg_int q
end
def Uk:V->V->Bool
 | .non,.non=>true | .non,.int _=>true | .int _,.non=>true | .non,.bl _=>true | .bl _,.non=>true | .non,.str _=>true | .str _,.non=>true
 | .int _,.int _=>true | .bl _,.bl _=>true | .str _,.str _=>true | .byt _,.byt _=>true
 | .int _,.str _=>true | .str _,.int _=>true | .bl _,.str _=>true | .str _,.bl _=>true
 | _,_=>false
def rEq:R2:=λx y H Q=>Uk x y=true/\Q (.bl (decide (x=y))) H
def rNe:R2:=λx y H Q=>Uk x y=true/\Q (.bl (!decide (x=y))) H
theorem Ay {i j:Int}:decide (V.int i=V.int j)=(i == j):=by
 rw[nT]
 simp
theorem Hh {i j:Bool}:decide (V.bl i=V.bl j)=(i == j):=by
 rw[nT]
 simp
theorem Az {i j:Str}:decide (V.str i=V.str j)=(i == j):=by
 rw[nT]
 simp
theorem Ax {i j:Array UInt8}:decide (V.byt i=V.byt j)=(i.toList == j.toList):=by
 rw[nT]
 cases i
 cases j
 simp
section
variable {X:Cx} {a b c:Expr} {ta tb tc:TE} {pos:Pos}
theorem gF {pins:List (Addr × Obj)} {σ:St} {H:Hp} {s:aD} {Q:VK} {k k':Bool} (I:Inv X pins σ H s) (q:Q (.bl k) H) (e:k=k'):EP X pins σ Q (.bool k') s:=by
 subst e
 exact⟨.bl k,H,I,rfl,q⟩
theorem Pb:OpR X (compareOp .Eq) rEq:=by
 intro pins s σ H x y v u Q I rx ry h
 obtain⟨hs,q⟩:=h
 cases x with
 | non =>
  cases rx
  cases y with
  | non=>cases ry;exact PySem.EqNone.eq_none_none (gF I q (by simp))
  | bl j=>cases ry;exact PySem.EqNone.eq_none_bool (gF I q (by simp))
  | int j=>obtain⟨t',rfl⟩:=ry;exact PySem.EqNone.eq_none_int (gF I q (by simp))
  | str j=>obtain⟨t',rfl⟩:=ry;exact PySem.EqNone.eq_none_str (gF I q (by simp))
  | _=>exact absurd (show false=true from hs) bS
 | bl i =>
  cases rx
  cases y with
  | non=>cases ry;exact PySem.EqNone.eq_bool_none (gF I q (by simp))
  | bl j=>cases ry;exact eq_bool (gF I q Hh)
  | str j=>obtain⟨t',rfl⟩:=ry;exact PySem.EqMixed.eq_bool_str (gF I q (by simp))
  | _=>exact absurd (show false=true from hs) bS
 | int i =>
  obtain⟨t,rfl⟩:=rx
  cases y with
  | non=>cases ry;exact PySem.EqNone.eq_int_none (gF I q (by simp))
  | int j=>obtain⟨t',rfl⟩:=ry;exact eq_int (gF I q Ay)
  | str j=>obtain⟨t',rfl⟩:=ry;exact PySem.EqMixed.eq_int_str (gF I q (by simp))
  | _=>exact absurd (show false=true from hs) bS
 | str i =>
  obtain⟨t,rfl⟩:=rx
  cases y with
  | non=>cases ry;exact PySem.EqNone.eq_str_none (gF I q (by simp))
  | bl j=>cases ry;exact PySem.EqMixed.eq_str_bool (gF I q (by simp))
  | int j=>obtain⟨t',rfl⟩:=ry;exact PySem.EqMixed.eq_str_int (gF I q (by simp))
  | str j=>obtain⟨t',rfl⟩:=ry;exact eq_str (gF I q Az)
  | _=>exact absurd (show false=true from hs) bS
 | byt i =>
  obtain⟨t,rfl⟩:=rx
  cases y with
  | byt j=>obtain⟨t',rfl⟩:=ry;exact PySem.W.eq_bytes (gF I q Ax)
  | _=>exact absurd (show false=true from hs) bS
 | _=>cases y <;> exact absurd (show false=true from hs) bS
theorem Pc:OpR X (compareOp .NotEq) rNe:=by
 intro pins s σ H x y v u Q I rx ry h
 obtain⟨hs,q⟩:=h
 cases x with
 | non =>
  cases rx
  cases y with
  | non=>cases ry;exact PySem.EqNone.ne_none_none (gF I q (by simp))
  | bl j=>cases ry;exact PySem.EqNone.ne_none_bool (gF I q (by simp))
  | int j=>obtain⟨t',rfl⟩:=ry;exact PySem.EqNone.ne_none_int (gF I q (by simp))
  | str j=>obtain⟨t',rfl⟩:=ry;exact PySem.EqNone.ne_none_str (gF I q (by simp))
  | _=>exact absurd (show false=true from hs) bS
 | bl i =>
  cases rx
  cases y with
  | non=>cases ry;exact PySem.EqNone.ne_bool_none (gF I q (by simp))
  | bl j=>cases ry;exact ne_bool (gF I q (congrArg not Hh))
  | str j=>obtain⟨t',rfl⟩:=ry;exact PySem.EqMixed.ne_bool_str (gF I q (by simp))
  | _=>exact absurd (show false=true from hs) bS
 | int i =>
  obtain⟨t,rfl⟩:=rx
  cases y with
  | non=>cases ry;exact PySem.EqNone.ne_int_none (gF I q (by simp))
  | int j=>obtain⟨t',rfl⟩:=ry;exact ne_int (gF I q (congrArg not Ay))
  | str j=>obtain⟨t',rfl⟩:=ry;exact PySem.EqMixed.ne_int_str (gF I q (by simp))
  | _=>exact absurd (show false=true from hs) bS
 | str i =>
  obtain⟨t,rfl⟩:=rx
  cases y with
  | non=>cases ry;exact PySem.EqNone.ne_str_none (gF I q (by simp))
  | bl j=>cases ry;exact PySem.EqMixed.ne_str_bool (gF I q (by simp))
  | int j=>obtain⟨t',rfl⟩:=ry;exact PySem.EqMixed.ne_str_int (gF I q (by simp))
  | str j=>obtain⟨t',rfl⟩:=ry;exact ne_str (gF I q (congrArg not Az))
  | _=>exact absurd (show false=true from hs) bS
 | byt i =>
  obtain⟨t,rfl⟩:=rx
  cases y with
  | byt j=>obtain⟨t',rfl⟩:=ry;exact PySem.W.ne_bytes (gF I q (congrArg not Ax))
  | _=>exact absurd (show false=true from hs) bS
 | _=>cases y <;> exact absurd (show false=true from hs) bS
theorem Ts:OpR X (compareOp .Lt) (rI0 λi j=>.bl (decide (i<j))):=Nh λ_ _ _ _ _ _ _ q=>lt_int q
theorem Tr:OpR X (compareOp .LtE) (rI0 λi j=>.bl (decide (i<=j))):=Nh λ_ _ _ _ _ _ _ q=>le_int q
theorem Tq:OpR X (compareOp .Gt) (rI0 λi j=>.bl (decide (j<i))):=Nh λ_ _ _ _ _ _ _ q=>gt_int q
theorem Tp:OpR X (compareOp .GtE) (rI0 λi j=>.bl (decide (j<=i))):=Nh λ_ _ _ _ _ _ _ q=>ge_int q
theorem Nl:OpR X (compareOp .IsNot) (λx y H Q=>y = .non/\Q (.bl (!decide (x = .non))) H):=by
 intro pins s σ H x y v u Q I rx ry h
 obtain⟨rfl,q⟩:=h
 cases ry
 refine isnot_none_gen (gF I q ?_)
 cases x <;> first
  | (cases rx;rfl)
  | (obtain⟨t,rfl⟩:=rx;rfl)
def isObj:HO->Bool
 | .lst _=>true
 | .ins _ _ _=>true
 | _=>false
theorem HN {pins:List (Addr × Obj)} {s:aD} {σ:St} {H:Hp} {a:Addr} {o:HO} (I:Inv X pins σ H s) (h:H a=some o) (p:isObj o=true):∃ob,s.heap.get? a=some ob/\ob.cls≠.type "tuple":=by
 cases o with
 | lst xs =>
  obtain⟨_,its,n,_,e⟩:xs.length<=sizeLine/\∃(its:List aB) (n:Nat),Vals xs its/\s.heap.get? a=some { cls:=.type "list",data:=.seq its.toArray n }:=I.hok a _ h
  exact⟨_,e,(by show gE "list"≠.type "tuple";decide +kernel)⟩
 | ins C dx fs =>
  have x:=I.hok a _ h
  obtain⟨_,_,_,e,_⟩:=x
  exact⟨_,e,(by show cU C≠.type "tuple";exact λz=>by cases z)⟩
 | _=>exact absurd (show false=true from p) bS
theorem Jl (b:Expr) {op:CmpOp} (h:op≠.In:=by decide) (h2:op≠.NotIn:=by decide):behindInMarks op b=false:=by
 have e1:(op == CmpOp.In)=false:=by cases op <;> first | rfl | exact absurd rfl h
 have e2:(op == CmpOp.NotIn)=false:=by cases op <;> first | rfl | exact absurd rfl h2
 cases b <;> simp[behindInMarks,e1,e2]
theorem Nn {op:CmpOp} {r:R2} (ho:OpR X (compareOp op) r) (ha:PE X a ta) (hb:PE X b tb) (hm:behindInMarks op b=false):PE X (.Compare a [op] [b] pos) (tOp r ta tb):=by
 intro pins s σ H Q I h
 exact wpAny_Compare1 (Pl ha hb I h λv u s2 x y H2 I2 rx ry q=>ho pins s2 σ H2 x y v u Q I2 rx ry q) hm
def Ux (t:TE):TT:=λσ H Q=>t σ H λx H'=>∃k,x = .bl k/\Q k H'
theorem Nu {op:CmpOp} {r:R2} (ho:OpR X (compareOp op) r) (ha:PE X a ta) (hb:PE X b tb) (hm:behindInMarks op b=false):PT X (.Compare a [op] [b] pos) (Ux (tOp r ta tb)):=by
 intro pins s σ H Q I h
 refine wpAny_isTrue_Compare1 (thn (ha pins s σ H _ I h) λv s1 ⟨x,H1,I1,r1,q1⟩=>thn (hb pins s1 σ H1 _ I1 q1) λu s2 ⟨y,H2,I2,r2,q2⟩ =>
  thn (ho pins s2 σ H2 x y v u _ I2 r1 r2 q2) λc s3 ⟨z,H3,I3,r3,k,e,q3⟩=>?_) hm
 subst e
 cases r3
 exact iP ⟨H3,I3,q3⟩
theorem ZA:(sizeLine:Nat)<2 ^ 63:=by rw[eX];decide
theorem vals1 {x:V} {us:List aB} (r:Vals [x] us):∃u,us=[u]/\RelV x u:=by
 cases r with
 | cons r1 r2=>cases r2;exact⟨_,rfl,r1⟩
theorem vals2 {x y:V} {us:List aB} (r:Vals [x,y] us):∃u w',us=[u,w']/\RelV x u/\RelV y w':=by
 cases r with
 | cons r1 r2 =>
  cases r2 with
  | cons r3 r4=>cases r4;exact⟨_,_,rfl,r1,r3⟩
theorem Gk:wX X (.builtin "abs") (λxs H Q=>∃i,xs=[.int i]/\Q (.int (if i<0 then -i else i)) H):=by
 intro pins s σ H xs us Q I r h
 obtain⟨i,rfl,q⟩:=h
 obtain⟨u,rfl,t,rfl⟩:=vals1 r
 exact call_abs_int λu tk=>⟨.int (if i<0 then -i else i),H,I.tok _,⟨_,rfl⟩,q⟩
theorem Dg (hc:X.calm=true):wX X (.builtin "min") (λxs H Q=>∃i j,xs=[.int i,.int j]/\Q (.int (if j<i then j else i)) H):=by
 intro pins s σ H xs us Q I r h
 obtain⟨i,j,rfl,q⟩:=h
 obtain⟨u,w',rfl,⟨t,rfl⟩,⟨t',rfl⟩⟩:=vals2 r
 refine min_two_ints (I.ok.hd hc) λh' tk k=>⟨_,H,I.kept k,?_,q⟩
 by_cases hj:j<i
 ·rw[if_pos hj,if_pos hj];exact⟨_,rfl⟩
 ·rw[if_neg hj,if_neg hj];exact⟨_,rfl⟩
end
structure ObjM (h:Heap) (x dx C:Addr) (mA:Str->Option aB):Prop where
 obj:h.get? x=some (xE C dx)
 ns:h.Ns1 dx mA
 ne:dx≠x
theorem QB {h:Heap} {dx:Addr} {mA:Str->Option aB} (n:h.Ns1 dx mA):∃od,h.get? dx=some od/\∀name,yV name od=some (mA name):=by
 obtain⟨o,es,ep,ho,hd,hk,_,hm⟩:=n
 refine⟨o,ho,λname=>?_⟩
 have e:=hm name
 unfold nsFind findBy at e
 rw[<-CJ] at e
 unfold yV
 rw[hd]
 dsimp only
 split
 ·rename_i y q
  rw[q] at e
  exact congrArg some e
 ·rename_i q
  rw[q] at e
  have a:es.toList.any (·.refKey)=false:=by
   rw[EN]
   intro y hy
   obtain⟨z,t,hkey⟩:=hk y (fH.mp hy)
   simp[DictEntry.refKey,hkey]
  have a':¬es.toList.any (·.refKey)=true:=by rw[a];exact bS
  rw[if_neg a']
  exact congrArg some e
theorem ObjM.look {h:Heap} {x dx C:Addr} {mA:Str->Option aB} (I:ObjM h x dx C mA):∃od,yU h x (xE C dx) C (some od)/\∀name,yV name od=some (mA name) :=
 let ⟨od,ho,hl⟩:=QB I.ns
 ⟨od,⟨I.obj,rfl,rfl,ho⟩,hl⟩
section
variable {prog:bA} {w:cA} {A:cE} {E:aB->aD->Prop} {s:aD} {K:aF} {x dx C f:Addr} {mA:Str->Option aB} {name:Str} {v:aB}
end
theorem RelO.some_of {v:V} {o:Option aB} (r:RelO (some v) o):∃u,o=some u/\RelV v u:=by
 cases o with
 | none=>exact (show False from r).elim
 | some u=>exact⟨u,rfl,r⟩
section
variable {P:bA} {w:cA} {H H':Hp} {h h':Heap} {a C dx:Addr} {fs fs':List (Str × V)}
theorem Mk (hok:HOk P w H h) (e:H a=some (.ins C dx fs)):∃mA,ObjM h a dx C mA/\(∀f,RelO (fs.lookup f) (mA f))/\PySem.Within mA (fs.map (·.1))/\fs.length<=1000/\H dx=some (.own a):=by
 obtain⟨d,z,ne,ob,mA,n,r,q⟩:=(show ObjOk P w H h a (.ins C dx fs) from hok a _ e)
 exact⟨mA,⟨ob,n,ne⟩,r,q,z,d⟩
end
structure Cls (K:aF) (C:Addr):Prop where
 pg:GT K C Str.empty=true
 hd:PySem.W.hasDictIn K C=true
 po:PySem.W.plainOver K C=true
 sa:fI K (.ref C) "__setattr__" = some (some (.builtin "object.__setattr__"))
theorem Cls.get {K:aF} {C:Addr} (c:Cls K C) (f:Str):GT K C f=true:=c.pg
section
variable {X:Cx} {pins:List (Addr × Obj)} {σ:St} {H:Hp} {s:aD} {a C dx:Addr} {fs:List (Str × V)} {f:Str} {v:V} {A:cE} {E:aB->aD->Prop}
theorem An {prog:bA} {w:cA} {env:Env} {e:Expr} {f:Str} {pos:Pos} {s:aD} {Q:aB->aD->Prop} (hb:attributeBase e f env (eval e env)=eval e env)
  (h:wpAny (model prog w) A (eval e env) (λo s₁=>wpAny (model prog w) A (getAttr o f true) Q E s₁) E s):wpAny (model prog w) A (eval (.Attribute e f pos) env) Q E s :=
 Attribute_any_ h (by rw[arm_eval_Attribute,hb])
end
section
variable {X:Cx} {o e value:Expr} {f:Str} {pos pos' tpos:Pos} {ta tv:TE}
end
section
variable {X:Cx} {pins:List (Addr × Obj)} {σ:St} {H:Hp} {s:aD} {A:cE} {E:aB->aD->Prop} {Q:aB->aD->Prop} {c:aB} {b:Bool}
inductive TyOf (K:aF) (H:Hp):V->aB->Prop where
 | non:TyOf K H .non (.type "NoneType")
 | bl (x:Bool):TyOf K H (.bl x) (.type "bool")
 | int (i:Int):TyOf K H (.int i) (.type "int")
 | str (x:Str):TyOf K H (.str x) (.type "str")
 | flt (x:UInt64):TyOf K H (.flt x) (.type "float")
 | lst {a:Addr} {xs:List V} (e:H a=some (.lst xs)):TyOf K H (.ref a) (.type "list")
 | frz {a:Addr} {o:Obj} {xs:List V} (e:H a=some (.frz o (.lst xs))):TyOf K H (.ref a) (.type "list")
 | tup {a:Addr} {xs:List V} (e:H a=some (.tup xs)):TyOf K H (.ref a) (.type "tuple")
 | dK {a:Addr} {kvs:List (Key × V)} (e:H a=some (.dK kvs)):TyOf K H (.ref a) (.type "dict")
 | dT {a:Addr} {kvs:List (List Key × V)} (e:H a=some (.dT kvs)):TyOf K H (.ref a) (.type "dict")
 | ins {a C dx:Addr} {fs:List (Str × V)} (e:H a=some (.ins C dx fs)) (cl:Cls K C) (ha:fI K (.ref C) "__class__" = some (some (.builtin "object.__class__")))
   (hn:pA K (.builtin "object.__class__") "__get__" = some (some (.builtin "getset_descriptor.__get__"))) (htk:IZ K (.builtin "object.__class__")=some true)
   (hm:nJ K C (.type "object")=some true):TyOf K H (.ref a) (.ref C)
theorem Eb {x:V} {u t:aB} (I:Inv X pins σ H s) (rx:RelV x u) (ty:TyOf X.K H x t) (e:fK X.K t c=some b) (h:∀tk,Q (.bool b) { s with toks:=tk }) :
  wpAny (model X.prog X.w) A (call (.builtin "isinstance") [u,c]) Q E s:=by
 cases ty with
 | non=>cases (show u=eM from rx);exact eY PySem.W.kitx_none I.kIn jG e (λz=>nomatch z) h
 | bl y=>cases (show u=wK y from rx);exact eY PySem.W.kitx_bool I.kIn jG e (λz=>nomatch z) h
 | int i=>obtain⟨t,q⟩:=(show ∃t,u=GU i t from rx);cases q;exact eY PySem.W.kitx_int I.kIn jG e (λz=>nomatch z) h
 | str y=>obtain⟨t,q⟩:=(show ∃t,u=GV y t from rx);cases q;exact eY PySem.W.kitx_str I.kIn jG e (λz=>nomatch z) h
 | flt y=>obtain⟨t,q⟩:=(show ∃t,u=Value.float y t from rx);cases q;exact eY PySem.W.kitx_float I.kIn jG e (λz=>nomatch z) h
 | @lst a xs ea =>
  cases (show u=cU a from rx)
  obtain⟨_,_,n,_,h1⟩:=(show ObjOk X.prog X.w H s.heap a (.lst xs) from I.hok a _ ea)
  exact eY tO I.kIn ⟨_,h1,rfl⟩ e (λz=>nomatch z) h
 | @frz a ob xs ea =>
  cases (show u=cU a from rx)
  obtain⟨_,_,_,n,_,h1⟩:=(show ObjOk X.prog X.w H s.heap a (.frz ob (.lst xs)) from I.hok a _ ea)
  exact eY tO I.kIn ⟨_,h1,rfl⟩ e (λz=>nomatch z) h
 | @tup a xs ea =>
  cases (show u=cU a from rx)
  obtain⟨_,_,_,p⟩:=(show ObjOk X.prog X.w H s.heap a (.tup xs) from I.hok a _ ea)
  obtain⟨o,h1,h2,_⟩:=p
  exact eY PySem.W.kitx_tuple I.kIn ⟨o,h1,h2⟩ e (λz=>nomatch z) h
 | @dK a kvs ea =>
  cases (show u=cU a from rx)
  obtain⟨_,_,vs,_,p⟩:=(show ObjOk X.prog X.w H s.heap a (.dK kvs) from I.hok a _ ea)
  obtain⟨o,es,ep,h1,h2,_⟩:=p
  exact eY EW I.kIn ⟨o,h1,h2.1⟩ e (λz=>nomatch z) h
 | @dT a kvs ea =>
  cases (show u=cU a from rx)
  obtain⟨_,_,xs,_,o,es,ep,h1,h2,_⟩:=(show ObjOk X.prog X.w H s.heap a (.dT kvs) from I.hok a _ ea)
  exact eY EW I.kIn ⟨o,h1,h2.1⟩ e (λz=>nomatch z) h
 | @ins a C dx fs ea cl ha hn htk hm =>
  cases (show u=cU a from rx)
  obtain⟨mA,O,_⟩:=Mk I.hok ea
  obtain⟨od,J,_⟩:=O.look
  exact eY (PySem.W.kitx_own (cl.get _) cl.hd ha hn htk hm) I.kIn J e (λz=>nomatch z) h
end
structure Room (k:Nat) (A:cE):Prop where
 hd:A.handled=none
 dp:A.depth+3*k+5<recursionLimit
 un:A.units+16*k+200<cLine
theorem Room.mono {j k:Nat} {A:cE} (r:Room k A) (h:j<=k):Room j A:=⟨r.hd,by have:=r.dp;omega,by have:=r.un;omega⟩
theorem Room.deeper {k:Nat} {A:cE} (r:Room (k+1) A) (env:Env):Room k (A.deeper env) :=
 ⟨r.hd,by have:=r.dp;show A.depth+1+3*k+5<_;omega,by have:=r.un;show A.units+3+16*k+200<_;omega⟩
theorem ZC {A:cE} {C:Addr} {us:List aB} {kw:List (Str × aB)}:(A.under (.builtin "type.__call__" ⟨.ref C::us,kw⟩)).depth=A.depth+1:=by
 first | rfl | simp[DY,Code.weight,Code.isCreation,Code.isGuard,Code.isCaller,Code.frames,EA,guardIds]
theorem ZD {A:cE} {C:Addr} {us:List aB} {kw:List (Str × aB)}:(A.under (.builtin "type.__call__" ⟨.ref C::us,kw⟩)).units=A.units+1:=by
 first | rfl | simp[DY,Code.cUnits,Code.frames,EA]
theorem Room.make {k:Nat} {A:cE} (r:Room (k+1) A) (C:Addr) (us:List aB) (kw:List (Str × aB)):Room k (A.under (.builtin "type.__call__" ⟨.ref C::us,kw⟩)) :=
 ⟨r.hd,by have:=r.dp;rw[ZC];omega,by have:=r.un;rw[ZD];omega⟩
theorem Room.depth {k:Nat} {A:cE} (r:Room k A):A.depth<recursionLimit:=by have:=r.dp;omega
theorem Room.units {k:Nat} {A:cE} (r:Room k A):A.units+64<cLine:=by have:=r.un;omega
def Wo:TA:=λ_ H Q=>Q [] H
def Ur (ta:TE) (tr:TA):TA:=λσ H Q=>ta σ H λx H1=>tr σ H1 λxs H2=>Q (x::xs) H2
section
variable {X:Cx} {e:Expr} {es:List Expr} {te:TE} {t:TA} {pos:Pos}
theorem qF:PA X [] Wo:=λ_ _ _ _ H Q I h=>tI ⟨[],H,I,.nil,h⟩
theorem jN (ha:PE X e te) (hr:PA X es t) (hs:starEach (e::es) X.env=(false,eval e X.env)::starEach es X.env:=by rfl):PA X (e::es) (Ur te t):=by
 intro pos pins s σ H Q I h
 rw[hs]
 show wpAny _ _ (spliced ((false,eval e X.env)::backTo pos (starEach es X.env))) _ _ s
 refine sD (thn (ha pins s σ H _ I h) λu s1 ⟨x,H1,I1,r1,q1⟩=>?_)
 exact thn (hr pos pins s1 σ H1 _ I1 q1) λus s2 ⟨xs,H2,I2,r2,q2⟩=>⟨x::xs,H2,I2,.cons r1 r2,q2⟩
def Wu (t:TA):TE:=λσ H Q=>t σ H λxs H1=>xs.length<=sizeLine/\∀p,H1 p=none->Q (.ref p) (upd H1 p (.tup xs))
def Wn (t:TA):TE:=λσ H Q=>t σ H λxs H1=>xs.length<=sizeLine/\∀p,H1 p=none->Q (.ref p) (upd H1 p (.lst xs))
theorem Ju {x1} (h:PA X es t):PE X (.Tuple es x1 pos) (Wu t):=by
 intro pins s σ H Q I hq
 refine wpAny_Tuple_spliced (thn (h pos pins s σ H _ I hq) λus s1 ⟨xs,H1,I1,r,z,q⟩=>⟨by rw[<-r.length];exact z,?_⟩)
 have hf:H1 s1.heap.objs.size=none:=I1.hok.fresh (aZ _)
 refine⟨.ref s1.heap.objs.size,upd H1 s1.heap.objs.size (.tup xs),I1.laid (t':=s1.toks) (λb u e=>aJ _ e) (aZ _) ?_,rfl,q _ hf⟩
 exact⟨z,us,r,⟨_,bX _ rfl,rfl,_,rfl⟩⟩
theorem MM (h:PA X es t):PE X (.List es pos) (Wn t):=by
 intro pins s σ H Q I hq
 refine wpAny_List_spliced (thn (h pos pins s σ H _ I hq) λus s1 ⟨xs,H1,I1,r,z,q⟩=>⟨by rw[<-r.length];exact z,?_⟩)
 have hf:H1 s1.heap.objs.size=none:=I1.hok.fresh (aZ _)
 refine⟨.ref s1.heap.objs.size,upd H1 s1.heap.objs.size (.lst xs),I1.laid (t':=s1.toks) (λb u e=>aJ _ e) (aZ _) ?_,rfl,q _ hf⟩
 exact⟨z,us,0,r,bX _ rfl⟩
end
abbrev Sp:=List V->Hp->VK->XK->Prop
abbrev CXT:=List Env->Hp->aD->XK->aB->aD->Prop
structure Env0 (P:bA) (w:cA) (K:aF) (mg:Str->Option aB) (base:Heap) (A:cE) (outer:List Env) (s:aD) (H:Hp):Prop where
 frames:A.frames=some outer
 mod:Mod K mg base
 bs:∀b o,base.get? b=some o->s.heap.get? b=some o/\H b=none
 bsz:base.objs.size<=s.heap.objs.size
 funs:s.heap.FunFrames base outer
 frf:∀b∈frs outer,H b=none
 hok:HOk P w H s.heap
 bare:AllBare s.gens
def CE (outer:List Env) (P:bA) (w:cA) (H:Hp) (s:aD) (Q:VK) (u:aB) (s':aD):Prop :=
 ∃v H',s'.os=s.os/\AllBare s'.gens/\Un (frs outer) [] H H' s.heap s'.heap/\HOk P w H' s'.heap/\RelV v u/\Q v H'
def CR (CX:CXT) (outer:List Env) (P:bA) (w:cA) (H:Hp) (s:aD) (Q:VK) (E:XK) (r:Result) (s':aD):Prop :=
 match r with
 | .ok (.ret u)=>CE outer P w H s Q u s'
 | .ok _=>False
 | .error e=>CX outer H s E e s'
structure FnOk (P:bA) (w:cA) (K:aF) (mg:Str->Option aB) (base:Heap) (CX:CXT) (k:Nat) (f:Addr) (fd:iC) (ps:List Str) (sp:Sp):Prop where
 len:∀vs H Q E,sp vs H Q E->vs.length=ps.length
 run:∀(A:cE) (outer:List Env) (s:aD) (H:Hp) (args:Args) (us:List aB) (vs:List V) (Q:VK) (E:XK),Room k A->Env0 P w K mg base A outer s H->BindsTo s fd args (ps.zip us)->Vals vs us->sp vs H Q E ->
  codeAny (model P w) A (.call (.ref f) args) (CR CX outer P w H s Q E) s
theorem FnOk.mono {P:bA} {w:cA} {K:aF} {mg:Str->Option aB} {base:Heap} {CX:CXT} {j k:Nat} {f:Addr} {fd:iC} {ps:List Str} {sp:Sp} (F:FnOk P w K mg base CX j f fd ps sp) (h:j<=k) :
  FnOk P w K mg base CX k f fd ps sp:=⟨F.len,λA outer s H args us vs Q E hr=>F.run A outer s H args us vs Q E (hr.mono h)⟩
theorem Env0.make {P:bA} {w:cA} {K:aF} {mg:Str->Option aB} {base:Heap} {A:cE} {outer:List Env} {s:aD} {H:Hp} (e:Env0 P w K mg base A outer s H) (C:Addr) (us:List aB) (kw:List (Str × aB)) :
  Env0 P w K mg base (A.under (.builtin "type.__call__" ⟨.ref C::us,kw⟩)) outer s H:=⟨by first | exact e.frames | (simpa [DY,Code.envs,EA,pushEnvs] using e.frames),e.mod,e.bs,e.bsz,e.funs,e.frf,e.hok,e.bare⟩
section
variable {X:Cx} {pins:List (Addr × Obj)} {σ:St} {H:Hp} {s s':aD}
theorem Inv.env0 (I:Inv X pins σ H s):Env0 X.prog X.w X.K X.mg X.base X.A X.stack s H :=
 ⟨I.ok.frames,I.ok.mod,I.bs,dQ I.ok.bsz I.sz,I.stack,I.stkFree,I.hok,I.bare⟩
theorem Inv.after {Q:VK} {u:aB} (I:Inv X pins σ H s) (h:CE X.stack X.prog X.w H s Q u s'):EP X pins σ Q u s':=by
 obtain⟨v,H',os,bare,un,hok,r,q⟩:=h
 obtain⟨hh,g,d,t,os'⟩:=s'
 obtain rfl:os'=s.os:=os
 exact⟨v,H',I.call (h':=hh) (g':=g) (d':=d) (t':=t) (ch:=[]) un hok bare (λb z=>absurd z (by simp)),r,q⟩
end
def Uq (sp:Sp) (dvs:List V) (E:XK) (t:TA):TE:=λσ H Q=>t σ H λvs H1=>sp (vs++dvs) H1 Q E
def Binds (K:aF) (fd:iC) (ps:List Str) (ds:List aB):Prop :=
 ∀(s:aD) (us:List aB),K.In s.heap->(us++ds).length=ps.length->BindsTo s fd ⟨us,[]⟩ (ps.zip (us++ds))
theorem Binds.all {K:aF} {fd:iC} {ps:List Str} (h:∀us:List aB,us.length=ps.length->bindArgs fd ⟨us,[]⟩=pure (ps.zip us)):Binds K fd ps []:=λs us _ hl=>by
 rw[dL] at hl ⊢
 exact .of_eq (h us hl)
def XZ (CX:CXT) (X:Cx) (E:XK):Prop:=∀(pins:List (Addr × Obj)) (σ:St) (H:Hp) (s:aD) (e:aB) (s':aD),Inv X pins σ H s->CX X.stack H s E e s'->X.xe e s'
section
variable {X:Cx} {CX:CXT} {k:Nat} {f C:Addr} {fd:iC} {ps:List Str} {sp:Sp} {dvs:List V} {ds:List aB} {E:XK} {x m:Str} {p pos apos:Pos} {e o:Expr} {es:List Expr} {ta:TE} {t:TA}
theorem Rz {pins:List (Addr × Obj)} {σ:St} {H:Hp} {s:aD} {Q:VK} {us:List aB} {vs:List V} (F:FnOk X.prog X.w X.K X.mg X.base CX k f fd ps sp) (hr:Room k X.A) (hb:Binds X.K fd ps ds) (hd:Vals dvs ds) (hx:XZ CX X E)
  (I:Inv X pins σ H s) (r:Vals vs us) (h:sp (vs++dvs) H Q E):wpAny (model X.prog X.w) X.A (call (.ref f) us) (EP X pins σ Q) X.xe s:=by
 have r2:Vals (vs++dvs) (us++ds):=r.append hd
 have hl:(us++ds).length=ps.length:=by rw[<-r2.length];exact F.len _ _ _ _ h
 refine qH (jX (F.run X.A X.stack s H ⟨us,[]⟩ (us++ds) (vs++dvs) Q E hr I.env0 (hb s us I.kIn hl) r2 h) λr s' hq=>?_)
 cases r with
 | error e=>exact hx pins σ H s e s' I hq
 | ok fl =>
  cases fl with
  | ret u=>exact I.after hq
  | next=>exact eG hq
  | brk=>exact eG hq
  | cont=>exact eG hq
theorem Nm (F:FnOk X.prog X.w X.K X.mg X.base CX k f fd ps sp) (hr:Room k X.A) (hg:Gl X x) (hm:X.mg x=some (.ref f)) (hk:fJ X.K (.ref f)=true) (hb:Binds X.K fd ps ds) (hd:Vals dvs ds) (hx:XZ CX X E)
  (ha:PA X (e::es) t) (hdb:(x == ("__debug__":Str))=false:=by decide) (he:starEach (e::es) X.env=(false,eval e X.env)::starEach es X.env:=by rfl) (hpl:(backTo pos (starEach es X.env)).any (·.1)=false:=by rfl) :
  PE X (.Call (.Name x p) (e::es) [] pos) (Uq sp dvs E t):=by
 intro pins s σ H Q I h
 refine dM (tS I hg hm ?_ hdb)
 refine kT (h₀:=X.base) I.ok.mod.kin hk (thn (ha pos pins s σ H _ I h) λus s1 ⟨vs,H1,I1,r,q⟩=>⟨I1.kIn,?_⟩) he hpl
 exact Rz F hr hb hd hx I1 r q
end
section
variable {X:Cx} {CX:CXT} {k:Nat} {f C:Addr} {fd:iC} {ps ks:List Str} {sp:Sp} {E:XK} {x m:Str} {p pos apos kpos:Pos} {e o:Expr} {es:List Expr} {kws:List lP} {te ta:TE} {t tk:TA} {nm:Option Str}
variable {g:List aB->List aB->List aB} {gV:List V->List V->List V}
end
structure FnScope (N P:List Str) (sc:Scope):Prop where
 kind:sc.kind = .function
 co:sc.isCoroutine=false
 gen:sc.isGenerator=false
 nd:N.Nodup
 pre:N.take P.length=P
 par:∀x∈P,sc.names.lookup x=some .local\/sc.names.lookup x=some .cell
 nofree:∀y∈sc.names,y.2≠.free
theorem PJ {kindOf:Str->Option NameKind} {x:Str}:∀{binds:List (Str × aB)} {m:Str->Option aB},(∀v,(x,v) ∉ binds)->bindL kindOf binds m x=m x
 | [],_,_=>rfl
 | (n,v)::r,m,h=>by
  unfold bindL
  rw[PJ λw hw=>h w (bD _ hw)]
  split
  ·have:x≠n:=by rintro rfl;exact h v cI
   simp[this]
  ·rfl
theorem PF {kindOf:Str->Option NameKind} {x:Str}:∀{binds:List (Str × aB)} {m:Str->Option aB},(∀v,(x,v) ∉ binds)->bindC kindOf binds m x=m x
 | [],_,_=>rfl
 | (n,v)::r,m,h=>by
  unfold bindC
  rw[PF λw hw=>h w (bD _ hw)]
  split
  ·rfl
  ·have:x≠n:=by rintro rfl;exact h v cI
   simp[this]
theorem PH {kindOf:Str->Option NameKind} {x:Str} {v:aB}:∀{P:List Str} {vs:List aB} {i:Nat} {m:Str->Option aB},P.Nodup->P[i]? = some x->vs[i]? = some v->kindOf x=some .local ->
  bindL kindOf (P.zip vs) m x=some v
 | [],_,_,_,_,h,_,_=>by simp at h
 | _::_,[],_,_,_,_,h,_=>by simp at h
 | p::P,w::vs,0,m,nd,h1,h2,hk=>by
  simp at h1 h2;subst h1;subst h2
  show bindL kindOf ((p,w)::P.zip vs) m p=_
  unfold bindL
  rw[PJ λv hv=>(fL.mp nd).1 (qQ hv).1,if_pos hk]
  simp
 | p::P,w::vs,i+1,m,nd,h1,h2,hk=>by
  show bindL kindOf ((p,w)::P.zip vs) m x=_
  unfold bindL
  exact PH (i:=i) (fL.mp nd).2 (by simpa using h1) (by simpa using h2) hk
theorem PC {kindOf:Str->Option NameKind} {x:Str} {v:aB}:∀{P:List Str} {vs:List aB} {i:Nat} {m:Str->Option aB},P.Nodup->P[i]? = some x->vs[i]? = some v->kindOf x≠some .local ->
  bindC kindOf (P.zip vs) m x=some v
 | [],_,_,_,_,h,_,_=>by simp at h
 | _::_,[],_,_,_,_,h,_=>by simp at h
 | p::P,w::vs,0,m,nd,h1,h2,hk=>by
  simp at h1 h2;subst h1;subst h2
  show bindC kindOf ((p,w)::P.zip vs) m p=_
  unfold bindC
  rw[PF λv hv=>(fL.mp nd).1 (qQ hv).1,if_neg hk]
  simp
 | p::P,w::vs,i+1,m,nd,h1,h2,hk=>by
  show bindC kindOf ((p,w)::P.zip vs) m x=_
  unfold bindC
  exact PC (i:=i) (fL.mp nd).2 (by simpa using h1) (by simpa using h2) hk
def start (N:List Str) (vs:List V):St:=vs.map some++dG (N.length-vs.length) none
def yA (CX:CXT) (P:bA) (w:cA) (K:aF) (mg:Str->Option aB) (base:Heap) (N:List Str) (qual:Str) (scope:Scope) (f:Addr) (cd:aB) (A:cE) (outer:List Env) (s:aD) (H:Hp) (E:XK):Cx where
 prog:=P
 w:=w
 K:=K
 mg:=mg
 base:=base
 A:=A.deeper (envOfC qual scope s.heap.objs.size f cd)
 N:=N
 s₀:=s
 H₀:=H
 env:=envOfC qual scope s.heap.objs.size f cd
 outer:=outer
 stack:=envOfC qual scope s.heap.objs.size f cd::outer
 ex:=[]
 calm:=true
 fn:=λ_=>true
 pn:=[]
 xe:=λe s'=>wpAny (model P w) (A.deeper (envOfC qual scope s.heap.objs.size f cd)) (leaving (envOfC qual scope s.heap.objs.size f cd) e) (λ_ s''=>CX outer H s E e s'') (λe' s''=>CX outer H s E e' s'') s'
theorem TR {sc:Scope} {n:Nat} {x:Str} (h:sc.names.lookup x=some .cell):∃c,(cellsFrom n sc.names []).lookup x=some c:=by
 have q:=wH sc.names n [] (.inl h)
 exact uE.mp q
theorem Ea {CX:CXT} {P:bA} {w:cA} {K:aF} {mg:Str->Option aB} {base:Heap} {N ps:List Str} {qual:Str} {scope:Scope} {f:Addr} {cd:aB} {A:cE} {outer:List Env} {s s1:aD} {H:Hp} {E:XK} {us:List aB} {vs:List V}
  (S:FnScope N ps scope) (hd:A.handled=none) (e0:Env0 P w K mg base A outer s H) (hl:vs.length=ps.length) (r:Vals vs us)
  (x:InCallC s s.heap.objs.size (bindL (envOfC qual scope s.heap.objs.size f cd).kindOf (ps.zip us) λ_=>none) (cellsFrom (s.heap.objs.size+1) scope.names []) (bindC (envOfC qual scope s.heap.objs.size f cd).kindOf (ps.zip us) λ_=>none) s1) :
  Inv (yA CX P w K mg base N qual scope f cd A outer s H E) [] (start N vs) H s1:=by
 have hpl:ps.length<=N.length:=by have:=congrArg gU S.pre;rw[fC] at this;omega
 obtain⟨h1,tk,rfl,hk⟩:=x.done
 have noA:∀b:Addr,b ∉ (yA CX P w K mg base N qual scope f cd A outer s H E).ex:=λb z=>absurd (show b∈([]:List Addr) from z) (by simp)
 refine⟨⟨e0.mod,S.kind,rfl,rfl,aZ _,λy z c h1 h2=>?_,λy hy=>?_,λy c _ h=>?_,λ_=>hd,Around.frames_deeper e0.frames,.inr ⟨rfl,rfl⟩,λb z=>absurd z (noA b),e0.bs,e0.bsz,λb _ _=>noA b,λb z=>absurd z (noA b),e0.funs,e0.frf⟩,
  rfl,e0.bare,Un.kept hk,⟨_,x.toInCall.ns,λi y v h1 h2 h3=>?_⟩,λy c h=>⟨_,x.cell y c h⟩,e0.hok.fresh (aZ _),λy c h=>?_,λp hp=>absurd (show p∈([]:List (Addr × Obj)) from hp) (by simp),e0.hok.kept hk,?_⟩
 ·exact name_of_addr x.apart (iU h1) (iU h2)
 ·have hy:scope.names.lookup y=some .cell\/scope.names.lookup y=some .free:=hy
  rcases hy with hy | hy
  ·exact TR hy
  ·exact absurd rfl (S.nofree _ (iU hy))
 ·exact jA (x.above y c (iU h))
 ·have hi:i<vs.length:=by
   unfold start at h2
   by_cases hi:i<vs.length
   ·exact hi
   ·rw[dP (by simpa using hi)] at h2
    rw[gH] at h2
    split at h2 <;> cases h2
  have ha:vs[i]? = some v:=by
   unfold start at h2
   rw[dA (by simpa using hi),aT] at h2
   cases e:vs[i]? with
   | none=>rw[e] at h2;cases h2
   | some a=>rw[e] at h2;cases h2;rfl
  obtain⟨u,hu,rv⟩:=r.get ha
  have hp:ps[i]? = some y:=by
   rw[<-S.pre,List.getElem?_take_of_lt (by omega)];exact h1
  have ndP:ps.Nodup:=by rw[<-S.pre];exact S.nd.sublist (ER _ _)
  refine⟨u,rv,?_⟩
  rcases S.par y (bF hp) with k | k
  ·exact .inl ⟨k,PH ndP hp hu k⟩
  ·obtain⟨c,e⟩:=TR (n:=s.heap.objs.size+1) k
   refine .inr ⟨.inl k,c,e,?_⟩
   have q:=x.cell y c e
   rw[PC ndP hp hu (by show scope.names.lookup y≠_;rw[k];decide)] at q
   exact q
 ·exact e0.hok.fresh (jA (x.above y c (iU h)))
 ·unfold start
  show _=N.length
  rw[bV,aS,jM]
  omega
theorem Os {CX:CXT} {P:bA} {w:cA} {K:aF} {mg:Str->Option aB} {base:Heap} {k:Nat} {f:Addr} {name qual:Str} {params:Arguments} {body:List Stmt} {scope:Scope} {dV kV doc pm cdv ct oc:aB} {an od:Option Addr}
  {osl:Array (Option aB)} {N ps:List Str} {sp:Sp} (lk:K.lookup f=some ⟨oc,od,.func (kU name qual params body scope dV kV doc pm an cdv ct),osl⟩) (hcd:oY K cdv qual=true) (S:FnScope N ps scope)
  (len:∀vs H Q E,sp vs H Q E->vs.length=ps.length)
  (hbody:∀(A:cE) (outer:List Env) (s:aD) (H:Hp) (vs:List V) (Q:VK) (E:XK),Room k (A.deeper (envOfC qual scope s.heap.objs.size f cdv))->sp vs H Q E ->
   ∃t,PSs (yA CX P w K mg base N qual scope f cdv A outer s H E) body t/\t { nx:=λ_ H'=>Q .non H',rt:=Q } (start N vs) H) :
  FnOk P w K mg base CX (k+1) f (kU name qual params body scope dV kV doc pm an cdv ct) ps sp:=by
 refine⟨len,λA outer s H args us vs Q E hr e0 hb r hsp=>?_⟩
 have hl:=len _ _ _ _ hsp
 have KX:K.In s.heap:=e0.mod.kin.keeps λb o e=>(e0.bs b o e).1
 have lim:s.heap.NoLimit:=e0.mod.nolimit.keeps λb o e=>(e0.bs b o e).1
 have hkind:∀y∈ps.zip us,scope.names.lookup y.1=some .local\/(scope.names.lookup y.1=some .cell/\((cellsFrom (s.heap.objs.size+1) scope.names []).lookup y.1).isSome=true):=λ⟨n,v⟩ hy=>by
  rcases S.par n (qQ hy).1 with q | q
  ·exact .inl q
  ·exact .inr ⟨q,wH _ _ _ (.inl q)⟩
 refine codeAny_call_function hr.depth (KX _ _ lk) rfl S.co S.gen rfl (PySem.W.codeRec_of KX hcd) (hb _ _ _ _ ?_)
 refine wpAny_newFunctionEnv_cells S.kind hkind λenv he s1 x=>?_
 subst he
 refine⟨lim.keeps x.toInCall.keep,codeAny_func ?_⟩
 obtain⟨t,ht,hq⟩:=hbody A outer s H vs Q E (hr.deeper _) hsp
 have I:Inv (yA CX P w K mg base N qual scope f cdv A outer s H E) [] (start N vs) H s1:=Ea S hr.hd e0 hl r x
 refine dI (ht [] s1 (start N vs) H _ I hq) (λfl s' hs=>?_) λe s' hs=>hs
 have fin:∀{σ':St} {H':Hp} {v:V} {u:aB},Inv (yA CX P w K mg base N qual scope f cdv A outer s H E) [] σ' H' s'->RelV v u->Q v H'->CE outer P w H s Q u s' :=
  λ{σ' H' v u} J rv q=>⟨v,H',J.os,J.bare,J.base,J.hok,rv,q⟩
 cases fl with
 | ret u =>
  obtain⟨v,σ',H',J,rv,q⟩:=hs
  exact fin J rv q
 | next =>
  obtain⟨σ',H',J,q⟩:=hs
  exact fin (v:=V.non) (u:=eM) J rfl q
 | brk =>
  obtain⟨_,_,_,q⟩:=hs
  exact eG q
 | cont =>
  obtain⟨_,_,_,q⟩:=hs
  exact eG q
section
variable {X:Cx} {x:Str} {p pos:Pos} {e:Expr} {es:List Expr} {t:TA} {id T:String} {r:List V->Hp->VK->Prop}
def tCB (r:List V->Hp->VK->Prop) (t:TA):TE:=λσ H Q=>t σ H λvs H1=>r vs H1 Q
theorem vI (hc:wX X (.builtin id) r) (hg:Gl X x) (hm:X.mg x=none) (hv:bootBuiltins x=some (.builtin id)) (ha:PA X (e::es) t) (hn:x≠"__name__":=by decide) (hdb:(x == ("__debug__":Str))=false:=by decide)
  (he:starEach (e::es) X.env=(false,eval e X.env)::starEach es X.env:=by rfl) (hpl:(backTo pos (starEach es X.env)).any (·.1)=false:=by rfl):PE X (.Call (.Name x p) (e::es) [] pos) (tCB r t):=by
 intro pins s σ H Q I h
 refine dM (qC I hg hm hv ?_ hn hdb)
 exact hZ (thn (ha pos pins s σ H _ I h) λus s1 ⟨vs,H1,I1,r1,q1⟩=>hc pins s1 σ H1 vs us Q I1 r1 q1) he hpl
theorem QG (hc:wX X (.type T) r) (hg:Gl X x) (hm:X.mg x=none) (hv:bootBuiltins x=some (.type T)) (ha:PA X (e::es) t) (hn:x≠"__name__":=by decide) (hdb:(x == ("__debug__":Str))=false:=by decide)
  (he:starEach (e::es) X.env=(false,eval e X.env)::starEach es X.env:=by rfl) (hpl:(backTo pos (starEach es X.env)).any (·.1)=false:=by rfl):PE X (.Call (.Name x p) (e::es) [] pos) (tCB r t):=by
 intro pins s σ H Q I h
 refine dM (qC I hg hm hv ?_ hn hdb)
 exact dZ (thn (ha pos pins s σ H _ I h) λus s1 ⟨vs,H1,I1,r1,q1⟩=>hc pins s1 σ H1 vs us Q I1 r1 q1) he hpl
end
end L2
namespace HT
open PySem PyProof.Rows
def lexLt:List Int->List Int->Bool
 | [],[]=>false
 | [],_::_=>true
 | _::_,[]=>false
 | x::xs,y::ys=>if x=y then lexLt xs ys else decide (x<y)
theorem lexLt_cons (x y:Int) (xs ys:List Int):lexLt (x::xs) (y::ys)=if x=y then lexLt xs ys else decide (x<y):=rfl
theorem OP:lexLt [] []=false:=rfl
theorem MA (y:Int) (ys:List Int):lexLt [] (y::ys)=true:=rfl
theorem LZ (x:Int) (xs:List Int):lexLt (x::xs) []=false:=rfl
theorem Hw (A:cE) (s:aD) (a:Int) (t:Tok) (c:Int) (u:Tok):∃e,wI A s (.int a t) (.int c u) e/\(e=true↔a=c) :=
 ⟨(a == c),DD a t c u,by simp⟩
theorem Kk (A:cE) (s:aD) (a:Int) (t:Tok) (c:Int) (u:Tok) (prog:bA) (w:cA) (E:aB->aD->Prop) (Q:aB->aD->Prop) (h:Q (.bool (decide (a<c))) s) :
  wpAny (model prog w) A (richCompare .Lt (.int a t) (.int c u)) Q E s :=
 (PyProof.Rows.lt_int h:wpAny (model prog w) A (compareOp .Lt (.int a t) (.int c u)) Q E s)
section
open PySem.SeqAt
open PySem.AutoSeq1 (wpAny_loadPart')
open PySem.MeetsSeq PySem.MeetsSeq2 PySem.MeetsSeq3
theorem OW (l b:Addr) (items items2:Array aB) (n n2:Nat) (dd dd2:Option Addr) (sl sl2:Array (Option aB)) (ns ms:List Int) (hi:IntsAre items.toList ns) (hj:IntsAre items2.toList ms) :
  Meets (Builtin.«tuple.__lt__» ⟨[.ref l,.ref b],[]⟩)
   (λ_ R s=>s.heap.get? l=some { cls:=.type "tuple",dict:=dd,data:=.seq items n,slots:=sl }/\s.heap.get? b=some { cls:=.type "tuple",dict:=dd2,data:=.seq items2 n2,slots:=sl2 } /\
    R (.ok (.ret (.bool (lexLt ns ms)))) s) :=
 .of_wp λprog w A R s h=>by
  obtain⟨hp,g,d,tk,os⟩:=s;obtain⟨hl,hb,h⟩:=h
  have f2:=tZ
  have z1:items.size=ns.length:=by rw[<-hi.length];simp
  have z2:items2.size=ms.length:=by rw[<-hj.length];simp
  wp_walk using qY hl,qY hb,mY _ (λrest b s'=>b.1=none/\s'=⟨hp,g,d,tk,os⟩/\∃(vs ws:List aB) (ns' ms':List Int),rest=vs.zip ws /\
   IntsAre vs ns'/\IntsAre ws ms'/\ns'.length+items2.size=ms'.length+items.size/\R (.ok (.ret (.bool (lexLt ns' ms')))) ⟨hp,g,d,tk,os⟩) _
  case turn =>
   rintro⟨y,x⟩ rest b s' ⟨hb',rfl,vs,ws,ns',ms',hz,hvi,hwi,hlen,hR⟩
   cases hvi with
   | nil=>rw[ES] at hz;cases hz
   | cons a t hvi' =>
    cases hwi with
    | nil=>rw[CV] at hz;cases hz
    | cons c u hwi' =>
     rw[hX] at hz
     injection hz with hyx hrest
     injection hyx with hy hx
     subst hy hx
     rw[lexLt_cons] at hR
     simp only[bJ] at hlen
     obtain⟨e,he,hiff⟩:=Hw A.in1 ⟨hp,g,d,tk,os⟩ a t c u
     refine aA (he prog w _ _ ?_)
     cases e with
     | true =>
      rw[if_pos (hiff.mp rfl)] at hR
      wp_walk
      exact⟨rfl,rfl,_,_,_,_,hrest,hvi',hwi',by omega,hR⟩
     | false =>
      rw[if_neg (λq=>absurd (hiff.mpr q) bS)] at hR
      have hri:=Kk A.in1 ⟨hp,g,d,tk,os⟩ a t c u prog w
      wp_walk using hri
      exact⟨_,rfl,by simpa using hR⟩
  case fin =>
   rintro⟨b1,b2⟩ s' ⟨hb',rfl,vs,ws,ns',ms',hz,hvi,hwi,hlen,hR⟩
   simp only at hb'
   subst hb'
   have hv:lexLt ns' ms'=decide (items.size<items2.size):=by
    cases hvi with
    | nil =>
     cases hwi with
     | nil =>
      simp only[dU] at hlen
      rw[OP]
      exact (decide_eq_false (by omega)).symm
     | cons c u hw =>
      simp only[dU,bJ] at hlen
      rw[MA]
      exact (decide_eq_true (by omega)).symm
    | cons a t hv =>
     cases hwi with
     | nil =>
      simp only[dU,bJ] at hlen
      rw[LZ]
      exact (decide_eq_false (by omega)).symm
     | cons c u hw =>
      rw[hX] at hz
      cases hz
   rw[hv] at hR
   wp_walk
   exact⟨_,rfl,by simpa [pN] using hR⟩
  case h =>
   exact⟨rfl,rfl,items.toList,items2.toList,ns,ms,rfl,hi,hj,by omega,h⟩
end
section
variable {prog:bA} {w:cA} {A:cE} {E:aB->aD->Prop} {s:aD}
theorem lt_tupInts {l b:Addr} {items items2:Array aB} {ns ms:List Int} {Q:aB->aD->Prop} (hl:IsTup s.heap l items) (hb:IsTup s.heap b items2) (hi:IntsAre items.toList ns) (hj:IntsAre items2.toList ms)
  (hu:A.units<cLine) (h:Q (.bool (lexLt ns ms)) s):wpAny (model prog w) A (compareOp .Lt (.ref l) (.ref b)) Q E s:=by
 obtain⟨⟨cls,dd,data,sl⟩,ho,hc,n,hd⟩:=id hl
 obtain⟨⟨cls2,dd2,data2,sl2⟩,ho2,hc2,n2,hd2⟩:=id hb
 simp only at hc hd hc2 hd2
 subst hc hd hc2 hd2
 exact wT (op:=.Lt) ⟨_,ho,rfl⟩ ⟨_,ho2,rfl⟩ xY wF (vA _ _) (OW l b items items2 n n2 dd dd2 sl sl2 ns ms hi hj)
  ⟨ho,ho2,show wK (lexLt ns ms)≠yX/\Q (.bool (lexLt ns ms)) s from ⟨(λx=>nomatch x),h⟩⟩ hu
theorem cat_tup {t b:Addr} {vs ws:List aB} {Q:aB->aD->Prop} (ht:IsTup s.heap t vs.toArray) (hb:IsTup s.heap b ws.toArray) (hv:vs≠[])
  (h1:ws=[]->Q (.ref t) s) (h2:ws≠[]->Q (.ref s.heap.objs.size) { s with heap:=s.heap.push { cls:=.type "tuple",data:=.seq (vs++ws).toArray } })
  (hsz:vs.length+ws.length<=sizeLine):wpAny (model prog w) A (binaryOp .Add (.ref t) (.ref b)) Q E s:=by
 obtain⟨⟨cls,dd,data,sl⟩,ho,hc,n,hd⟩:=id ht
 obtain⟨⟨cls2,dd2,data2,sl2⟩,ho2,hc2,n2,hd2⟩:=id hb
 simp only at hc hd hc2 hd2
 subst hc hd hc2 hd2
 have e:vs.toArray++ws.toArray=(vs++ws).toArray:=by simp
 by_cases hw:ws=[]
 ·exact FG ⟨_,ho,rfl⟩ ⟨_,ho2,rfl⟩ HL OU wG vB (uF _ _)
   (tuple_addW1 t b vs.toArray ws.toArray n n2 dd dd2 sl sl2 (by simpa using hv) (by simp[hw])) ⟨ho,ho2,h1 hw⟩
 ·refine FG ⟨_,ho,rfl⟩ ⟨_,ho2,rfl⟩ HL OU wG vB (uF _ _)
   (tuple_addW2 t b vs.toArray ws.toArray n n2 dd dd2 sl sl2 (by simpa using hv) (by simpa using hw) (by rw[aN,aN];exact hsz)) ⟨ho,ho2,?_⟩
  rw[e]
  exact h2 hw
def sIx (n d:Nat):Option Int->Nat
 | none=>d
 | some v=>if v<0 then (v+(n:Int)).toNat else min v.toNat n
theorem sIx_none (n d:Nat):sIx n d none=d:=rfl
theorem sIx_nat (n d k:Nat):sIx n d (some (k:Int))=min k n:=by
 show (if (k:Int)<0 then ((k:Int)+(n:Int)).toNat else min (k:Int).toNat n)=min k n
 rw[if_neg (by omega),tK]
theorem Sa (n d:Nat) (hd:d<=n) (o:Option Int):sIx n d o<=n:=by
 cases o with
 | none=>exact hd
 | some v =>
  show (if v<0 then (v+(n:Int)).toNat else min v.toNat n)<=n
  by_cases hv:v<0
  ·rw[if_pos hv];omega
  ·rw[if_neg hv];exact Nat.min_le_right _ _
theorem At (v:Int) (n d:Nat):(if v<0 then max (v+(n:Int)) 0 else min v (n:Int))=((sIx n d (some v):Nat):Int):=by
 show (if v<0 then max (v+(n:Int)) 0 else min v (n:Int))=(((if v<0 then (v+(n:Int)).toNat else min v.toNat n):Nat):Int)
 by_cases hv:v<0
 ·simp only[if_pos hv];omega
 ·simp only[if_neg hv];omega
theorem YB (lo hi:Option Int) (n:Nat):mZ lo hi 1 (n:Int)=(((sIx n 0 lo:Nat):Int),((sIx n n hi:Nat):Int)):=by
 have h1:¬((1:Int)<0):=by omega
 unfold mZ
 simp only[h1,if_false]
 refine fY ?_ ?_
 ·cases lo with
  | none=>rfl
  | some v=>exact At v n 0
 ·cases hi with
  | none=>rfl
  | some v=>exact At v n n
theorem ZL (i j:Nat):jO (i:Int) (j:Int) 1=j-i:=by
 unfold jO
 have h1:(1:Int) > 0:=by omega
 simp only[h1,if_true,Int.ediv_one]
 split <;> omega
theorem NL {v:aB} {o:Option Int} {Q:Option Int->aD->Prop} (p:IsPart v o) (h:Q o s):wpAny (model prog w) A (Builtin.Slice.slicePartIndex v) Q E s:=by
 cases p with
 | none=>exact NM h
 | int i t=>exact slicePart_int h
theorem HX {sl:Addr} {vl vu:aB} {lo hi:Option Int} {n:Nat} {Q:Int × Int × Nat->aD->Prop} (hs:s.heap.IsSliceOf sl vl vu .none) (pl:IsPart vl lo) (pu:IsPart vu hi)
  (h:Q (((sIx n 0 lo:Nat):Int),1,sIx n n hi-sIx n 0 lo) s):wpAny (model prog w) A (sB (.ref sl) (pure (n:Int))) Q E s:=by
 obtain⟨os,hos,hcs,hds⟩:=id hs
 unfold sB Builtin.Slice.sliceFields
 refine aA (aA (IR hos hds (x:=vl) rfl (aA (IR hos hds (x:=vu) rfl (aA (IR hos hds (x:=.none) rfl (aK ?_)))))))
 refine aA (NM ?_)
 show wpAny _ _ (if ((1:Int) == 0)=true then _ else _) _ _ s
 rw[if_neg (by decide)]
 refine aA (NL pl (aA (NL pu (aA (aK ?_)))))
 show wpAny _ _ (match mZ lo hi 1 (n:Int) with | (lo,hi)=>pure (lo,(1:Int),jO lo hi 1)) _ _ s
 rw[YB lo hi n]
 show wpAny _ _ (pure (((sIx n 0 lo:Nat):Int),(1:Int),jO ((sIx n 0 lo:Nat):Int) ((sIx n n hi:Nat):Int) 1)) _ _ s
 rw[ZL]
 exact aK h
theorem Jx (xs:Array aB) (i k:Nat):((cV k).filterMap λ(m:Nat)=>xs[((i:Int)+(m:Int)*1).toNat]?).toArray=((xs.toList.drop i).take k).toArray:=by
 have e:(λ(m:Nat)=>xs[((i:Int)+(m:Int)*1).toNat]?)=λm=>xs[i+m]?:=by
  funext m
  have:((i:Int)+(m:Int)*1).toNat=i+m:=by omega
  rw[this]
 rw[e]
 have:=pick_run xs i k
 rw[List.filterMap_map] at this
 have e2:((λx=>xs[x]?) ∘ λx=>i+x)=λm=>xs[i+m]?:=rfl
 rw[e2] at this
 rw[this]
theorem getItem_tuple_cut {t sl:Addr} {items:Array aB} {vl vu:aB} {lo hi:Option Int} {Q:aB->aD->Prop} (ht:IsTup s.heap t items) (hs:s.heap.IsSliceOf sl vl vu .none) (pl:IsPart vl lo) (pu:IsPart vu hi)
  (hw:¬(sIx items.size 0 lo=0/\sIx items.size items.size hi=items.size))
  (h:Q (.ref s.heap.objs.size) { s with heap:=s.heap.push { cls:=.type "tuple",data:=.seq ((items.toList.drop (sIx items.size 0 lo)).take (sIx items.size items.size hi-sIx items.size 0 lo)).toArray } })
  (hsz:items.size<=sizeLine):wpAny (model prog w) A (getItem (.ref t) (.ref sl)) Q E s:=by
 have htake:sizeOk (.seq ((items.toList.drop (sIx items.size 0 lo)).take (sIx items.size items.size hi-sIx items.size 0 lo)).toArray):=by
  show ((items.toList.drop (sIx items.size 0 lo)).take (sIx items.size items.size hi-sIx items.size 0 lo)).toArray.size<=sizeLine
  rw[aN,fC,hV,bQ]
  omega
 have hj:sIx items.size items.size hi<=items.size:=Sa _ _ (aZ _) hi
 obtain⟨os,hos,hcs,hds⟩:=id hs
 have hTs:s.TypeIs (.ref sl) "slice":=⟨os,hos,hcs⟩
 unfold getItem
 try with_reducible refine dC ?_
 first | refine aA (aK ?_) | skip
 refine aA (wpAny_sequenceKey ht.typeIs (by decide) ?_)
 refine aA (oI (name:=wJ "__getitem__") ht.typeIs pQ
  (kN pQ ht.typeIs entry_tuple_getitem ?_ (args_tuple_getitem _ _)))
 show wpAny _ _ (Builtin.Tuple.tupleItemsOf (.ref t) >>= _) _ _ s
 refine aA (tupleItemsOf_ ht ?_)
 refine aA (pL hTs ?_)
 rw[if_pos (by decide)]
 refine aA (HX hs pl pu ?_)
 have hno:¬((((sIx items.size 0 lo:Nat):Int) == 0 && (1:Int) == 1 && (sIx items.size items.size hi-sIx items.size 0 lo) == items.size)=true):=by
  intro q
  rw[jE,jE] at q
  have q1:((sIx items.size 0 lo:Nat):Int)=0:=eq_of_beq q.1.1
  have q2:sIx items.size items.size hi-sIx items.size 0 lo=items.size:=eq_of_beq q.2
  exact hw ⟨by omega,by omega⟩
 show wpAny _ _ (if (((sIx items.size 0 lo:Nat):Int) == 0 && (1:Int) == 1 && (sIx items.size items.size hi-sIx items.size 0 lo) == items.size)=true then _ else _) _ _ s
 rw[if_neg hno,Jx]
 first
  | exact aA (m:=kC _) (eQ (aK ⟨_,rfl,aK h⟩) htake)
  | exact aA (m:=kC _) (eQ (aA (aK (aK ⟨_,rfl,aK h⟩))) htake)
  | exact aA (aA (m:=kC _) (eQ (aK (aK ⟨_,rfl,aK h⟩)) htake))
  | exact aA (aA (m:=kC _) (eQ (aK ⟨_,rfl,aK h⟩) htake))
end
end HT
namespace L2
open PySem PySem.Spec PyProof.Rows
abbrev TO:=St->Hp->(Option Int->Hp->Prop)->Prop
def PO (X:Cx) (e:Option Expr) (t:TO):Prop :=
 ∀(pins:List (Addr × Obj)) (s:aD) (σ:St) (H:Hp) (Q:Option Int->Hp->Prop),Inv X pins σ H s->t σ H Q ->
  wpAny (model X.prog X.w) X.A (evalPart e X.env) (λu s'=>∃o H',Inv X pins σ H' s'/\IsPart u o/\Q o H') X.xe s
def Of:TO:=λ_ H Q=>Q none H
def Uw (t:TE):TO:=λσ H Q=>t σ H λx H1=>∃i,x = .int i/\Q (some i) H1
theorem intsAre_of {ns:List Int}:∀{us:List aB},Vals (ns.map V.int) us->IntsAre us ns:=by
 induction ns with
 | nil=>intro us r;rw[cX] at r;cases r;exact .nil
 | cons n ns ih =>
  intro us r
  rw[aU] at r
  cases r with
  | cons r1 r2 =>
   obtain⟨t,e⟩:=r1
   subst e
   exact .cons n t (ih r2)
section
variable {X:Cx} {e:Expr} {te:TE} {lo hi:Option Expr} {tl th:TO} {pos p2:Pos}
theorem Cc:PO X none Of:=by
 intro pins s σ H Q I h
 rw[BG]
 exact aK ⟨none,H,I,.none,h⟩
theorem SV (h:PE X e te):PO X (some e) (Uw te):=by
 intro pins s σ H Q I hw
 rw[evalPart_some]
 refine thn (h pins s σ H _ I hw) λu s1 ⟨x,H1,I1,r1,q1⟩=>?_
 obtain⟨i,rfl,q⟩:=q1
 obtain⟨t,rfl⟩:=r1
 exact⟨some i,H1,I1,.int i t,q⟩
def SlR (X:Cx) (r:V->Option Int->Option Int->Hp->VK->Prop):Prop :=
 ∀(pins:List (Addr × Obj)) (s:aD) (σ:St) (H:Hp) (x:V) (v vl vu:aB) (lo hi:Option Int) (sl:Addr) (Q:VK),Inv X pins σ H s->RelV x v->s.heap.IsSliceOf sl vl vu .none->IsPart vl lo->IsPart vu hi->r x lo hi H Q ->
  ∃T id,typeLookup (.type T) "__getitem__" = pure (some (.builtin id))/\s.TypeIs v T/\wpAny (model X.prog X.w) X.A (getItem v (.ref sl)) (EP X pins σ Q) X.xe s
theorem SlR.or {r r':V->Option Int->Option Int->Hp->VK->Prop} (h:SlR X r) (h':SlR X r'):SlR X (λx lo hi H Q=>r x lo hi H Q\/r' x lo hi H Q):=by
 intro pins s σ H x v vl vu lo hi sl Q I rx hs pl pu q
 rcases q with q | q
 ·exact h pins s σ H x v vl vu lo hi sl Q I rx hs pl pu q
 ·exact h' pins s σ H x v vl vu lo hi sl Q I rx hs pl pu q
def tSl (r:V->Option Int->Option Int->Hp->VK->Prop) (te:TE) (tl th:TO):TE:=λσ H Q=>te σ H λx H1=>tl σ H1 λl H2=>th σ H2 λu H3=>r x l u H3 Q
theorem Js {r:V->Option Int->Option Int->Hp->VK->Prop} (hr:SlR X r) (he:PE X e te) (hl:PO X lo tl) (hu:PO X hi th):PE X (.Subscript e (.Slice lo hi none p2) pos) (tSl r te tl th):=by
 intro pins s σ H Q I h
 refine Subscript_ (thn (he pins s σ H _ I h) λv s1 ⟨x,H1,I1,r1,q1⟩=>?_)
 refine wpAny_Slice (thn (hl pins s1 σ H1 _ I1 q1) λvl s2 ⟨l,H2,I2,pl,q2⟩=>thn (hu pins s2 σ H2 _ I2 q2) λvu s3 ⟨u,H3,I3,pu,q3⟩=>?_)
 rw[BG]
 refine aK ?_
 have I4:Inv X pins σ H3 { s3 with heap:=s3.heap.push { cls:=.type "slice",data:=.fields #[vl,vu,.none] } }:=I3.kept (t':=s3.toks) λb ob q=>aJ _ q
 obtain⟨T,id,hT,ht,hg⟩:=hr pins { s3 with heap:=s3.heap.push { cls:=.type "slice",data:=.fields #[vl,vu,.none] } } σ H3 x v vl vu l u s3.heap.objs.size Q I4 r1 (CM ..) pl pu q3
 show wpAny (model X.prog X.w) X.A (subscriptTail e (.Slice lo hi none p2) v (.ref s3.heap.objs.size)) (EP X pins σ Q) X.xe { s3 with heap:=s3.heap.push { cls:=.type "slice",data:=.fields #[vl,vu,.none] } }
 exact tail_any (ops:=[.ref s3.heap.objs.size,v]) ht hT hg (by with_unfolding_all rfl)
def TY (xs:List V) (lo hi:Option Int):List V:=(xs.drop (HT.sIx xs.length 0 lo)).take (HT.sIx xs.length xs.length hi-HT.sIx xs.length 0 lo)
theorem ID (xs:List V) (lo hi:Option Int):(TY xs lo hi).length<=xs.length:=by
 unfold TY
 rw[fC,hV]
 omega
def Vz (K:aF):V->Option Int->Option Int->Hp->VK->Prop:=λx lo hi H Q=>∃a xs,x = .ref a/\SqT K H a xs /\
 ¬(HT.sIx xs.length 0 lo=0/\HT.sIx xs.length xs.length hi=xs.length)/\∀p,H p=none->Q (.ref p) (upd H p (.tup (TY xs lo hi)))
theorem Sb:SlR X (Vz X.K):=by
 intro pins s σ H x v vl vu lo hi sl Q I rx hs pl pu h
 obtain⟨a,xs,rfl,hx,hw,q⟩:=h
 cases rx
 obtain⟨its,r,ht,hz⟩:=I.tuple hx
 have hlen:its.toArray.size=xs.length:=by rw[aN];exact r.length.symm
 refine⟨"tuple",_,PyProof.Rows.slot_tuple_getitem.lookup,ht.typeIs,?_⟩
 refine HT.getItem_tuple_cut ht hs pl pu (by rw[hlen];exact hw) ?_ (by rw[hlen];exact hz)
 rw[hlen]
 refine⟨.ref s.heap.objs.size,_,I.laid (t':=s.toks) (o:=.tup (TY xs lo hi)) (λb ob q=>aJ _ q) (aZ _) ?_,rfl,q _ (I.hok.fresh (aZ _))⟩
 exact⟨dQ (ID xs lo hi) hz,_,(r.drop (HT.sIx xs.length 0 lo)).take (HT.sIx xs.length xs.length hi-HT.sIx xs.length 0 lo),GJ _ _⟩
def Ua (K:aF):R2:=λx y H Q=>∃a b xs ys,x = .ref a/\y = .ref b/\SqT K H a xs/\SqT K H b ys/\xs≠[]/\xs.length+ys.length<=sizeLine /\
 (ys=[]->Q (.ref a) H)/\(ys≠[]->∀p,H p=none->Q (.ref p) (upd H p (.tup (xs++ys))))
theorem Vals.nil_iff {xs:List V} {us:List aB} (r:Vals xs us):us=[]↔xs=[]:=by
 cases r with
 | nil=>simp
 | cons _ _=>simp
theorem Nk:OpR X (binaryOp .Add) (Ua X.K):=by
 intro pins s σ H x y v u Q I rx ry h
 obtain⟨a,b,xs,ys,rfl,rfl,ha,hb,hx,hz,q1,q2⟩:=h
 cases rx
 cases ry
 obtain⟨its,r1,p1,_⟩:=I.tuple ha
 obtain⟨its2,r2,p2,_⟩:=I.tuple hb
 refine HT.cat_tup p1 p2 (λz=>hx (r1.nil_iff.mp z)) (λz=>⟨.ref a,H,I,rfl,q1 (r2.nil_iff.mp z)⟩) (λz=>?_) (by rw[<-r1.length,<-r2.length];exact hz)
 refine⟨.ref s.heap.objs.size,_,I.laid (t':=s.toks) (o:=.tup (xs++ys)) (λb ob q=>aJ _ q) (aZ _) ?_,rfl,q2 (λw=>z (r2.nil_iff.mpr w)) _ (I.hok.fresh (aZ _))⟩
 exact⟨by rw[bV];exact hz,_,r1.append r2,GJ _ _⟩
end
def ixN (n:Nat) (i:Int):Option Nat:=if 0<=i then (if i<n then some i.toNat else none) else if -(n:Int)<=i then some (i+n).toNat else none
def atI {α:Type} (xs:List α) (i:Int):Option α:=(ixN xs.length i).bind λj=>xs[j]?
theorem Ml {n:Nat} {i:Int} {j:Nat} (h:ixN n i=some j):seqIndex? i n=some j/\j<n/\-(n:Int)<=i/\i<n:=by
 unfold ixN at h
 by_cases h0:0<=i
 ·rw[if_pos h0] at h
  by_cases h1:i<n
  ·rw[if_pos h1] at h
   have e:i.toNat=j:=dE h
   exact⟨by rw[seqIndex_of h0 h1,e],by omega,by omega,h1⟩
  ·rw[if_neg h1] at h;cases h
 ·rw[if_neg h0] at h
  by_cases h1:-(n:Int)<=i
  ·rw[if_pos h1] at h
   have e:(i+n).toNat=j:=dE h
   exact⟨by rw[seqIndex_neg (by omega) h1,e],by omega,h1,by omega⟩
  ·rw[if_neg h1] at h;cases h
theorem Am {α:Type} {xs:List α} {i:Int} {v:α} (h:atI xs i=some v):∃j,seqIndex? i xs.length=some j/\xs[j]? = some v/\j<xs.length/\-(xs.length:Int)<=i/\i<xs.length:=by
 unfold atI at h
 cases e:ixN xs.length i with
 | none=>rw[e] at h;cases h
 | some j =>
  rw[e] at h
  obtain⟨h1,h2,h3,h4⟩:=Ml e
  exact⟨j,h1,h,h2,h3,h4⟩
theorem JP {α:Type} {xs:List α} {j:Nat} {v:α} (h:xs[j]? = some v):atI xs (j:Int)=some v:=by
 have hj:j<xs.length:=(aX.mp h).1
 have e:ixN xs.length (j:Int)=some j:=by
  unfold ixN
  rw[if_pos (by omega),if_pos (by omega)];simp
 unfold atI;rw[e];exact h
theorem TL {α:Type} (xs:List α) (v:α):atI (xs++[v]) (-1)=some v:=by
 have hl:(xs++[v]).length=xs.length+1:=by simp
 have e:ixN (xs++[v]).length (-1)=some xs.length:=by
  unfold ixN
  rw[hl,if_neg (by decide),if_pos (by omega)]
  congr 1
  omega
 unfold atI
 rw[e]
 show (xs++[v])[xs.length]? = some v
 simp
def JN (b:Expr):Prop:=∀o i,subscripted b false o i=operate [o,i] (getItem o i)
def IxR (X:Cx) (r:R2):Prop :=
 ∀(value slice:Expr) (pins:List (Addr × Obj)) (s:aD) (σ:St) (H:Hp) (x y:V) (v u:aB) (Q:VK),Inv X pins σ H s->RelV x v->RelV y u->r x y H Q ->
  subscripted slice false v u=operate [v,u] (getItem v u)->wpAny (model X.prog X.w) X.A (subscriptTail value slice v u) (EP X pins σ Q) X.xe s
def MtR (X:Cx) (id:String) (r:V->List V->Hp->VK->Prop):Prop :=
 ∀(pins:List (Addr × Obj)) (s:aD) (σ:St) (H:Hp) (x:V) (xs:List V) (v:aB) (us:List aB) (Q:VK),Inv X pins σ H s->RelV x v->Vals xs us->r x xs H Q ->
  wpAny (model X.prog X.w) X.A (call (.builtin id) (v::us)) (EP X pins σ Q) X.xe s
section
variable {X:Cx} {a b:Expr} {ta tb:TE} {pos:Pos}
theorem IxR.or {r r':R2} (h:IxR X r) (h':IxR X r'):IxR X (λx y H Q=>r x y H Q\/r' x y H Q):=by
 intro value slice pins s σ H x y v u Q I rx ry q hs
 rcases q with q | q
 ·exact h value slice pins s σ H x y v u Q I rx ry q hs
 ·exact h' value slice pins s σ H x y v u Q I rx ry q hs
theorem Jr {r:R2} (hr:IxR X r) (ha:PE X a ta) (hb:PE X b tb) (hs:JN b):PE X (.Subscript a b pos) (tOp r ta tb):=by
 intro pins s σ H Q I h
 exact Subscript_ (Pl ha hb I h λv u s2 x y H2 I2 rx ry q=>hr a b pins s2 σ H2 x y v u Q I2 rx ry q (hs _ _))
def Vt (K:aF):R2:=λx y H Q=>∃p xs i v,x = .ref p/\y = .int i/\SqL K H p xs/\atI xs i=some v/\Q v H
def Vu (K:aF):R2:=λx y H Q=>∃p xs i v,x = .ref p/\y = .int i/\SqT K H p xs/\atI xs i=some v/\Q v H
theorem SG:IxR X (Vt X.K):=by
 intro value slice pins s σ H x y v u Q I rx ry h hs
 obtain⟨p,xs,i,z,rfl,rfl,hq,he,q⟩:=h
 cases rx
 obtain⟨t,rfl⟩:=ry
 obtain⟨its,r,pl,hz⟩:=I.list hq
 obtain⟨j,h1,h2,h3,h4,h5⟩:=Am he
 obtain⟨w,ew,rw'⟩:=r.get h2
 have hl:=r.length
 have hn:=ZA
 have fin:EP X pins σ Q w s:=⟨z,H,I,rw',q⟩
 by_cases h0:0<=i
 ·have hj:i.toNat=j:=by
   rw[seqIndex_of h0 h5] at h1
   exact dE h1
  exact item_listR pl.isList h0 (by omega) (by rw[hj];simpa using ew) fin hs
 ·have hj:(i+(its.toArray.size:Int)).toNat=j:=by
   rw[seqIndex_neg (by omega) h4] at h1
   rw[aN,<-hl]
   exact dE h1
  exact wU (x:=w) pl.isList.typeIs slot_list_getitem.lookup
   (wpAny_getItem_list_neg (Q:=λr s'=>r=w/\EP X pins σ Q r s') pl.isList (by omega) (by rw[aN] <;> omega) (by omega) (by rw[hj];simpa using ew) ⟨rfl,fin⟩) hs
theorem Qf:IxR X (Vu X.K):=by
 intro value slice pins s σ H x y v u Q I rx ry h hs
 obtain⟨p,xs,i,z,rfl,rfl,hq,he,q⟩:=h
 cases rx
 obtain⟨t,rfl⟩:=ry
 obtain⟨its,r,pl,hz⟩:=I.tuple hq
 obtain⟨j,h1,h2,h3,h4,h5⟩:=Am he
 obtain⟨w,ew,rw'⟩:=r.get h2
 have hl:=r.length
 have hn:=ZA
 have fin:EP X pins σ Q w s:=⟨z,H,I,rw',q⟩
 exact wU (x:=w) pl.typeIs slot_tuple_getitem.lookup
  (getItem_tuple (j:=j) (Q:=λr s'=>r=w/\EP X pins σ Q r s') pl (by omega) (by omega) (by rw[aN,<-hl];exact h1) (by simpa using ew) ⟨rfl,fin⟩) hs
theorem TH (lo hi:Option Int) (n:Nat):(sliceBounds lo hi none n).1=((HT.sIx n 0 lo:Nat):Int)/\(sliceBounds lo hi none n).2.1=((HT.sIx n n hi:Nat):Int)/\(sliceBounds lo hi none n).2.2=1:=by
 refine⟨?_,?_,rfl⟩
 ·cases lo with
  | none=>simp[sliceBounds,HT.sIx]
  | some i =>
   simp only[sliceBounds,HT.sIx,GR,show (1:Int) > 0 by decide,if_true]
   by_cases h:i<0
   ·simp only[h,if_true] <;> omega
   ·simp only[h,if_false] <;> omega
 ·cases hi with
  | none=>simp[sliceBounds,HT.sIx]
  | some i =>
   simp only[sliceBounds,HT.sIx,GR,show (1:Int) > 0 by decide,if_true]
   by_cases h:i<0
   ·simp only[h,if_true] <;> omega
   ·simp only[h,if_false] <;> omega
theorem OV (its:List aB) (lo hi:Option Int):slicePick its.toArray lo hi none=((its.drop (HT.sIx its.length 0 lo)).take (HT.sIx its.length its.length hi-HT.sIx its.length 0 lo)).toArray:=by
 obtain⟨h1,h2,h3⟩:=TH lo hi its.toArray.size
 unfold slicePick
 rw[h1,h2,h3]
 simp only[sliceRange_one,pick_run,aN] <;> rfl
def Vy (K:aF):V->Option Int->Option Int->Hp->VK->Prop:=λx lo hi H Q=>∃a xs,x = .ref a/\SqL K H a xs/\∀p,H p=none->Q (.ref p) (upd H p (.lst (TY xs lo hi)))
theorem Ob:SlR X (Vy X.K):=by
 intro pins s σ H x v vl vu lo hi sl Q I rx hs pl pu h
 obtain⟨a,xs,rfl,hx,q⟩:=h
 cases rx
 obtain⟨its,r,ht,hz⟩:=I.list hx
 have hlen:=r.length
 refine⟨"list",_,slot_list_getitem.lookup,ht.isList.typeIs,?_⟩
 refine uN ht.isList hs pl pu .none (by simp) ?_ (by rw[aN] <;> omega)
 rw[OV,<-hlen]
 refine⟨.ref s.heap.objs.size,_,I.laid (t':=s.toks) (o:=.lst (TY xs lo hi)) (λb ob q=>aJ _ q) (aZ _) ?_,rfl,q _ (I.hok.fresh (aZ _))⟩
 exact⟨dQ (ID xs lo hi) hz,_,0,(r.drop (HT.sIx xs.length 0 lo)).take (HT.sIx xs.length xs.length hi-HT.sIx xs.length 0 lo),bX _ rfl⟩
theorem RF:wX X (.builtin "len") (λxs H Q=>∃p ys,xs=[.ref p]/\(SqL X.K H p ys\/SqT X.K H p ys)/\Q (.int ys.length) H):=by
 intro pins s σ H xs us Q I r h
 obtain⟨p,ys,rfl,hq,q⟩:=h
 obtain⟨u,rfl,rx⟩:=vals1 r
 cases rx
 have hn:=ZA
 rcases hq with hq | hq
 ·obtain⟨its,r',pl,hz⟩:=I.list hq
  have hlen:=r'.length
  exact Calls.call_len_list pl.isList (by simp only[aN] <;> omega) ⟨.int ys.length,H,I.tok _,⟨s.toks+1,by rw[aN,hlen]⟩,q⟩
 ·obtain⟨its,r',pl,hz⟩:=I.tuple hq
  have hlen:=r'.length
  exact len_tuple pl (by simp only[aN] <;> omega) ⟨.int ys.length,H,I.tok _,⟨s.toks+1,by rw[aN,hlen]⟩,q⟩
theorem RH:wX X (.type "list") (λxs H Q=>∃p ys,xs=[.ref p]/\(SqL X.K H p ys\/SqT X.K H p ys)/\∀l,H l=none->Q (.ref l) (upd H l (.lst ys))):=by
 intro pins s σ H xs us Q I r h
 obtain⟨p,ys,rfl,hq,q⟩:=h
 obtain⟨u,rfl,rx⟩:=vals1 r
 cases rx
 have fin:∀(its:List aB),Vals ys its->ys.length<=sizeLine->∀(h':Heap) (c':Nat),(∀b o',s.heap.get? b=some o'->h'.get? b=some o') ->
   h'.get? s.heap.objs.size=some { cls:=.type "list",dict:=none,data:=.seq its.toArray c',slots:=#[] }->EP X pins σ Q (.ref s.heap.objs.size) { s with heap:=h' }:=λits r' hz h' c' kp e =>
  ⟨.ref s.heap.objs.size,_,I.laid (t':=s.toks) kp (aZ _) (show ObjOk X.prog X.w _ h' _ (.lst ys) from ⟨hz,its,c',r',e⟩),rfl,q _ (I.hok.fresh (aZ _))⟩
 rcases hq with hq | hq
 ·obtain⟨its,r',pl,hz⟩:=I.list hq
  have hlen:=r'.length
  obtain⟨o,ho,hc,n,hd⟩:=pl.isList
  exact OJ p (.inl rfl) ho hc hd (λh' c' kp e=>fin its r' hz h' c' kp e) (by simp only[aN] <;> omega)
 ·obtain⟨its,r',pl,hz⟩:=I.tuple hq
  have hlen:=r'.length
  obtain⟨o,ho,hc,n,hd⟩:=pl
  exact OJ p (.inr rfl) ho hc hd (λh' c' kp e=>fin its r' hz h' c' kp e) (by simp only[aN] <;> omega)
theorem OM:wX X (.type "tuple") (λxs H Q=>∃p ys,xs=[.ref p]/\((SqL X.K H p ys/\∀l,H l=none->Q (.ref l) (upd H l (.tup ys)))\/(SqT X.K H p ys/\Q (.ref p) H))):=by
 intro pins s σ H xs us Q I r h
 obtain⟨p,ys,rfl,h⟩:=h
 obtain⟨u,rfl,rx⟩:=vals1 r
 cases rx
 rcases h with ⟨hq,q⟩ | ⟨hq,q⟩
 ·obtain⟨its,r',pl,hz⟩:=I.list hq
  have hlen:=r'.length
  refine call_tuple_list pl.isList (λh' kp=>?_) (by simp only[aN] <;> omega)
  have I1:Inv X pins σ H { s with heap:=h' }:=I.kept (t':=s.toks) kp
  have I2:Inv X pins σ (upd H h'.objs.size (.tup ys)) { s with heap:=h'.push { cls:=.type "tuple",data:=.seq its.toArray } } :=
   I1.laid (t':=s.toks) (λb o e=>aJ _ e) (aZ _) (show ObjOk X.prog X.w _ _ _ (.tup ys) from ⟨hz,its,r',GJ _ _⟩)
  exact⟨.ref h'.objs.size,_,I2,rfl,q _ (I1.hok.fresh (aZ _))⟩
 ·obtain⟨its,r',pl,hz⟩:=I.tuple hq
  exact call_tuple_same pl ⟨.ref p,H,I,rfl,q⟩
def tyV (K:aF) (T:String) (x:V) (H:Hp):Prop:=match x with
 | .str _=>T = "str"
 | .int _=>T = "int"
 | .ref p=>(T = "list"/\∃xs,SqL K H p xs)\/(T = "tuple"/\∃o,K.lookup p=some o/\o.cls = .type "tuple"/\o.dict=none) \/
   (T = "dict"/\((∃kvs,H p=some (.dK kvs))\/∃kvs,H p=some (.dT kvs)))\/(T = "set"/\∃S n,H p=some (.set S n))
 | _=>False
theorem Kx {pins:List (Addr × Obj)} {σ:St} {H:Hp} {s:aD} {T:String} {x:V} {v:aB} (I:Inv X pins σ H s) (r:RelV x v) (ty:tyV X.K T x H) :
  s.TypeIs v T/\∀a,v = .ref a->∃ob,s.heap.get? a=some ob/\ob.dict=none:=by
 cases x with
 | str z =>
  obtain⟨t,rfl⟩:=r
  cases (show T = "str" from ty)
  exact⟨typeIs_str s z t,λ_ e=>nomatch e⟩
 | int i =>
  obtain⟨t,rfl⟩:=r
  cases (show T = "int" from ty)
  exact⟨typeIs_int s i t,λ_ e=>nomatch e⟩
 | ref p =>
  cases r
  rcases ty with ⟨rfl,xs,hq⟩ | ⟨rfl,o,hk,hc,hd⟩ | ⟨rfl,hk⟩ | ⟨rfl,S,n,hk⟩
  ·obtain⟨its,_,pl,_⟩:=I.list hq
   refine⟨pl.isList.typeIs,λa e=>?_⟩
   cases e
   obtain⟨o,n,e,c,hd,_⟩:=pl
   exact⟨o,e,hd⟩
  ·refine⟨⟨o,I.kIn p o hk,hc⟩,λa e=>?_⟩
   cases e
   exact⟨o,I.kIn _ o hk,hd⟩
  ·have z:∃o,s.heap.get? p=some o/\o.ExactDict:=by
    rcases hk with ⟨kvs,hk⟩ | ⟨kvs,hk⟩
    ·obtain⟨_,_,_,_,o,_,_,e,ex,_⟩:=I.hok p _ hk
     exact⟨o,e,ex⟩
    ·obtain⟨_,_,_,_,o,_,_,e,ex,_⟩:=I.hok p _ hk
     exact⟨o,e,ex⟩
   obtain⟨o,e,ex⟩:=z
   refine⟨⟨o,e,ex.1⟩,λa e2=>?_⟩
   cases e2
   exact⟨o,e,ex.2.1⟩
  ·obtain⟨o,_,_,_,e,ex,_⟩:=I.hok p _ hk
   refine⟨⟨o,e,ex.1⟩,λa e2=>?_⟩
   cases e2
   exact⟨o,e,ex.2.1⟩
 | _=>exact eG ty
def Wk (K:aF) (T:String) (r:V->List V->Hp->VK->Prop) (to:TE):TE:=λσ H Q=>to σ H λx H1=>tyV K T x H1/\r x [] H1 Q
def tBM (K:aF) (T:String) (r:V->List V->Hp->VK->Prop) (to:TE) (t:TA):TE:=λσ H Q=>to σ H λx H1=>tyV K T x H1/\t σ H1 λxs H2=>r x xs H2 Q
variable {o e:Expr} {es:List Expr} {to:TE} {t:TA} {name:Str} {apos cpos:Pos} {T id:String} {r:V->List V->Hp->VK->Prop}
theorem Qw (pa:PlainAttrs T) (slot:Slot T name id) (hty:typeOf (.builtin id)=pure (.type "method_descriptor")) (hm:MtR X id r) (ho:PE X o to)
  (hbase:attributeBase o name X.env (eval o X.env)=eval o X.env:=by rfl) (hline:(apos.endLine == cpos.line)=true:=by rfl):PE X (.Call (.Attribute o name apos) [] [] cpos) (Wk X.K T r to):=by
 intro pins s σ H Q I h
 refine wpAny_Call_method0_late hbase hline (thn (ho pins s σ H _ I h) λv s1 ⟨x,H1,I1,r1,ty,q1⟩=>?_)
 obtain⟨h1,h2⟩:=Kx I1 r1 ty
 exact⟨T,id,pa,slot,hty,h1,h2,oN rfl (PySem.evalArgs_none (hm pins s1 σ H1 x [] v [] Q I1 r1 .nil q1))⟩
theorem QF (pa:PlainAttrs T) (slot:Slot T name id) (hty:typeOf (.builtin id)=pure (.type "method_descriptor")) (hm:MtR X id r) (ho:PE X o to) (ha:PA X (e::es) t)
  (hbase:attributeBase o name X.env (eval o X.env)=eval o X.env:=by rfl)
  (hfew:((backTo cpos (starEach (e::es) X.env)).all (λx=>!x.1) && (backToKw cpos (keywordEach [] X.env)).all (λx=>x.1.isSome)
   && decide ((e::es).length+([]:List lP).length+(if ([]:List lP).isEmpty then 0 else 1)<30))=true:=by rfl)
  (hline:(apos.endLine == cpos.line)=true:=by rfl) (hs:starEach (e::es) X.env=(false,eval e X.env)::starEach es X.env:=by rfl) (hplain:(backTo cpos (starEach es X.env)).any (·.1)=false:=by rfl) :
  PE X (.Call (.Attribute o name apos) (e::es) [] cpos) (tBM X.K T r to t):=by
 intro pins s σ H Q I h
 refine wpAny_Call_method_late hbase hfew hline rfl (thn (ho pins s σ H _ I h) λv s1 ⟨x,H1,I1,r1,ty,q1⟩=>?_)
 obtain⟨h1,h2⟩:=Kx I1 r1 ty
 refine⟨T,id,pa,slot,hty,h1,h2,?_⟩
 have hA:=ha cpos pins s1 σ H1 _ I1 q1
 rw[hs] at hA ⊢
 refine oN (by show (false || (backTo cpos (starEach es X.env)).any (·.1))=false;rw[hplain] <;> rfl) (yI ?_)
 exact thn hA λus s2 ⟨vs,H2,I2,r2,q2⟩=>hm pins s2 σ H2 x vs v us Q I2 r1 r2 q2
end
def MtM (X:Cx) (id:String) (r:V->List V->Hp->VK->Prop):Prop :=
 ∀(pins:List (Addr × Obj)) (s:aD) (σ:St) (H:Hp) (x:V) (xs:List V) (v:aB) (us:List aB) (Q:VK),Inv X pins σ H s->RelV x v->Vals xs us->r x xs H Q ->
  wpAny (model X.prog X.w) X.A (call (.builtin id) (v::us)) (EP X pins σ Q) X.xe s
theorem Vals.one:∀{x:V} {us:List aB},Vals [x] us->∃u,us=[u]/\RelV x u
 | _,_,.cons r .nil=>⟨_,rfl,r⟩
theorem Vals.two:∀{x y:V} {us:List aB},Vals [x,y] us->∃u v,us=[u,v]/\RelV x u/\RelV y v
 | _,_,_,.cons r (.cons q .nil)=>⟨_,_,rfl,r,q⟩
theorem Vals.zero:∀{us:List aB},Vals [] us->us=[]
 | _,.nil=>rfl
theorem Vals.dropLast {xs:List V} {us:List aB} (h:Vals xs us):Vals xs.dropLast us.dropLast:=by
 induction h with
 | nil=>exact .nil
 | cons r t ih =>
  cases t with
  | nil=>exact .nil
  | cons q t'=>exact .cons r ih
theorem Vals.eraseIdx:∀{xs:List V} {us:List aB} (i:Nat),Vals xs us->Vals (xs.eraseIdx i) (us.eraseIdx i)
 | _,_,_,.nil=>.nil
 | _,_,0,.cons _ t=>t
 | _,_,i+1,.cons r t=>.cons r (Vals.eraseIdx i t)
theorem YM {α:Type} (l:List α):l.eraseIdx (l.length-1)=l.dropLast:=by
 induction l with
 | nil=>rfl
 | cons a r ih =>
  cases r with
  | nil=>rfl
  | cons b r =>
   have e:(a::b::r).length-1=((b::r).length-1)+1:=by
    have h1:(a::b::r).length=r.length+2:=rfl
    have h2:(b::r).length=r.length+1:=rfl
    omega
   rw[e,List.eraseIdx_cons_succ,ih]
   all_goals rfl
theorem QA {α:Type}:∀(l:List α) (i:Nat),(l.eraseIdx i).length<=l.length
 | [],_=>aZ _
 | _::_,0=>mF _
 | _::r,i+1=>uZ (QA r i)
section
variable {X:Cx} {pins:List (Addr × Obj)} {σ:St} {H:Hp} {s:aD} {l b:Addr} {xs ys zs:List V}
theorem Inv.lset {its its':List aB} {n:Nat} {f:Array aB->Array aB} {t':Nat} (I:Inv X pins σ H s) (hH:H l=some (.lst xs))
  (e:s.heap.get? l=some { cls:=.type "list",data:=.seq its.toArray n }) (hf:f its.toArray=its'.toArray) (hv:Vals ys its') (hz:ys.length<=sizeLine) :
  Inv X pins σ (upd H l (.lst ys)) { s with heap:=s.heap.update l (cW f),toks:=t' }:=by
 have q:=GS e f
 rw[hf] at q
 refine I.write (x:=l) (e:=l) (by rw[hH];exact trivial) (.inl rfl) (λb' u hb hu=>(bO s.heap (cW f) (Ne.symm hb)).trans hu) ⟨_,q⟩ ?_
 exact⟨hz,its',_,hv,q⟩
theorem Inv.lnew {its:List aB} {t':Nat} (I:Inv X pins σ H s) (hv:Vals ys its) (hz:ys.length<=sizeLine) :
  Inv X pins σ (upd H s.heap.objs.size (.lst ys)) { s with heap:=s.heap.push { cls:=.type "list",data:=.seq its.toArray },toks:=t' } :=
 I.laid (λ_ _ q=>aJ _ q) (aZ _) ⟨hz,its,0,hv,bX _ rfl⟩
theorem Inv.fresh (I:Inv X pins σ H s):H s.heap.objs.size=none:=I.hok.fresh (aZ _)
theorem Inv.lstM (I:Inv X pins σ H s) (hH:H l=some (.lst xs)):xs.length<=sizeLine/\∃(its:List aB) (n:Nat),Vals xs its/\xs.length=its.length/\s.heap.get? l=some { cls:=.type "list",data:=.seq its.toArray n }:=by
 obtain⟨z,its,n,r,e⟩:=I.hok l _ hH
 exact⟨z,its,n,r,r.length,e⟩
end
section
variable {X:Cx}
def Cg:V->List V->Hp->VK->Prop:=λx vs H Q=>∃l xs y,x = .ref l/\vs=[y]/\H l=some (.lst xs)/\xs.length<sizeLine/\Q .non (upd H l (.lst (xs++[y])))
theorem HJ:MtM X "list.append" Cg:=by
 intro pins s σ H x vs v us Q I rx rv h
 obtain⟨l,xs,y,rfl,rfl,hH,hz,q⟩:=h
 cases rx
 obtain⟨u,rfl,ru⟩:=rv.one
 obtain⟨z,its,n,r,hl,e⟩:=I.lstM hH
 refine wM F.slot_list_append ⟨_,e,rfl⟩ F.entry_list_append (F.args_list_append_2 _ _) (EY l its.toArray n u (by rw[aN];omega)) ⟨e,?_⟩
 refine⟨.non,_,I.lset (its':=its++[u]) hH e (by simp) (r.append (.cons ru .nil)) ?_,rfl,q⟩
 rw[bV,pS]
 omega
def Vx:V->List V->Hp->VK->Prop:=λx vs H Q=>∃l xs y,x = .ref l/\vs=[]/\H l=some (.lst xs)/\xs[xs.length-1]? = some y/\Q y (upd H l (.lst xs.dropLast))
theorem Qp:MtM X "list.pop" Vx:=by
 intro pins s σ H x vs v us Q I rx rv h
 obtain⟨l,xs,y,rfl,rfl,hH,hy,q⟩:=h
 cases rx
 have hus:=rv.zero
 subst hus
 obtain⟨z,its,n,r,hl,e⟩:=I.lstM hH
 obtain⟨u,hu,ru⟩:=r.get hy
 have hy':its.toArray[its.toArray.size-1]? = some u:=by
  show its.toArray[its.length-1]? = some u
  rw[<-fV,<-hl]
  exact hu
 refine wM F.slot_list_pop ⟨_,e,rfl⟩ F.entry_list_pop (F.args_list_pop_1 _) (MeetsSeq.list_pop_last l its.toArray n u hy' (by rw[aN];omega)) ⟨e,?_⟩
 refine⟨y,_,I.lset (its':=its.dropLast) hH e ?_ r.dropLast ?_,ru,q⟩
 ·show its.toArray.eraseIdxIfInBounds (its.toArray.size-1)=its.dropLast.toArray
  rw[aN,pO,YM]
 ·rw[yL]
  omega
def Rr:V->List V->Hp->VK->Prop:=λx vs H Q=>∃l xs i k y,x = .ref l/\vs=[.int i]/\H l=some (.lst xs)/\-(2 ^ 63)<=i/\i<2 ^ 63/\seqIndex? i xs.length=some k/\xs[k]? = some y/\Q y (upd H l (.lst (xs.eraseIdx k)))
theorem Ji:MtM X "list.pop" Rr:=by
 intro pins s σ H x vs v us Q I rx rv h
 obtain⟨l,xs,i,k,y,rfl,rfl,hH,h1,h2,hk,hy,q⟩:=h
 cases rx
 obtain⟨u,rfl,ru⟩:=rv.one
 obtain⟨t,rfl⟩:=ru
 obtain⟨z,its,n,r,hl,e⟩:=I.lstM hH
 obtain⟨w,hw,rw'⟩:=r.get hy
 refine wM F.slot_list_pop ⟨_,e,rfl⟩ F.entry_list_pop (F.args_list_pop_2 _ _)
  (MeetsSeq.list_pop_at l its.toArray n i t k w (fitsIndex_both h1 h2) (by rw[aN,<-hl];exact hk) (by rw[<-fV];exact hw) (by rw[aN];omega)) ⟨e,?_⟩
 refine⟨y,_,I.lset (its':=its.eraseIdx k) hH e ?_ (r.eraseIdx k) ?_,rw',q⟩
 ·show its.toArray.eraseIdxIfInBounds k=(its.eraseIdx k).toArray
  rw[pO]
 ·have:=QA xs k
  omega
end
section
variable {prog:bA} {w:cA} {A:cE} {E:aB->aD->Prop} {s:aD}
end
section
variable {X:Cx}
end
end L2
namespace Att
open PySem PySem.W PySem.Calls PyProof.Rows
theorem JC {P:Params} {h:Heap}:∀(ns:List Int) (vs:List aB),WellAll P h vs (ns.map WData.int)->IntsAre vs ns:=by
 intro ns
 induction ns with
 | nil =>
  intro vs w
  rw[cX] at w
  cases w
  exact .nil
 | cons n ns ih =>
  intro vs w
  rw[aU] at w
  cases w with
  | cons a b =>
   cases a
   exact .cons _ _ (ih _ b)
theorem Fq {l:OpenLaw} {n:Nat} (hn:l.most=some n) {P:Params} {h:Heap} {args:List WData} {vals:List aB}
  (hpre:l.row.toRowW.claim.pre args=true) (hwl:WellAll P h vals args) :
  ∃a vs ns,vals=[cU a]/\args=[WData.list (ns.map WData.int)]/\h.get? a=some { cls:=.type "list",data:=.seq vs.toArray }/\IntsAre vs ns/\ns.length<=n:=by
 have hsh:WShape.hasAll [] args [.list .int]=true:=(pre_splitW hpre).1
 have hc:l.pre.holds [] { args:=args } = true:=(pre_splitW hpre).2
 obtain⟨d,r,rfl,h1,h2⟩:=hasAllW_cons hsh
 obtain rfl:=hasAllW_nil h2
 obtain⟨xs,rfl,h3⟩:=hasW_list h1
 obtain⟨ns,rfl⟩:=items_int h3
 have hlen:ns.length<=n:=by
  unfold OpenLaw.pre at hc
  have h4:(WTm.not (.lt (.lit (.int (n:Int))) (.len (.arg 0)))).holds [] { args:=[.list (ns.map .int)] } = true:=by
   have h4:=(holds_andW hc).1
   rw[hn] at h4
   exact h4
  have h5:=condW_of h4 (w_not (w_lt w_lit (w_len_list (w_arg rfl))))
  rw[aS] at h5
  refine Nat.le_of_not_lt λq=>?_
  have q':(n:Int)<((ns.length:Nat):Int):=by omega
  first
   | (rw[decide_eq_true q'] at h5;exact absurd h5 (by decide))
   | (simp at h5;omega)
 cases hwl with
 | cons w1 w2 =>
  cases w2
  cases w1 with
  | list ho hall=>exact⟨_,_,ns,rfl,rfl,ho,JC ns _ hall,hlen⟩
theorem Fh (l:OpenLaw) (args:List WData):l.row.toRowW.claim.post args (.bool true) args=true :=
 postW_of (r:=l.row.toRowW) (X:=(true == true))
  (show WShape.has [] (.bool true) .bool=true by first | rfl | decide | simp[WShape.has,WShape.arms,WShape.armsAll])
  (show (WTm.eq .res (.lit (.bool true))).value [] { args:=args,res:=some (.bool true),after:=args } = some (.bool (true == true)) from w_eq_bool (w_res rfl) w_lit) rfl
theorem attach_call {l:OpenLaw} {n:Nat} {q:bA} {loose:List Str} {XP:(Str->Option aB)->Heap->Prop} {YP:cA->Heap->Prop} {d:DefRec}
  (hn:l.most=some n) (hdf:d.params.defaults=[])
  (call:∀(w:cA) (s₀ s₁:aD) (mg mb:Str->Option aB) (fa:Addr) (o:Obj) (pm cd doc:aB) (a:Addr) (vs:List aB) (ns:List Int),
   Ground q loose [] XP w s₀ mg mb s₁.heap->YP w s₁.heap ->
   s₁.heap.get? fa=some o->o.data = .func (docDef d.name d.params d.body d.scope pm cd doc)->s₁.heap.CodeRec cd d.name->mg d.name=some (.ref fa) ->
   s₁.heap.get? a=some { cls:=.type "list",data:=.seq vs.toArray }->IntsAre vs ns->ns.length<=n->s₁.gens = #[] ->
   codeAny (model l.prog w) callerA (.call (.ref fa) ⟨[.ref a],[]⟩) (λr s'=>r = .ok (.ret (.bool true))/\OldK s₁.heap s'.heap/\s'.os=s₁.os/\AllBare s'.gens) s₁) :
  WalkO q loose XP YP l.row.toRowW d [] (λf vs=>KJ f vs):=by
 intro w s₀ s₁ mg mb G Y fa o pm cd doc dV kV ho hd hcd hD hmg hg args vals as hpre hlay hrd hwl hlo
 obtain rfl:dV = .none:=Dflts.none hD hdf
 obtain rfl:kV = .none:=Dflts.noKw hD
 obtain⟨a,vs,ns,rfl,rfl,hobj,hints,hlen⟩:=Fq hn hpre hwl
 refine enter_call (jX (call w s₀ s₁ mg mb fa o pm cd doc a vs ns G Y ho (fd_plain hd) hcd hmg hobj hints hlen hg) λr s' hq=>?_)
 obtain⟨rfl,h2,h3,h4⟩:=hq
 exact⟨.inl ⟨.bool true,.bool true,[],rfl,λ_=>rfl,.bool true,Fh l _,λ_=>⟨jU,λ_ hm=>(nomatch hm)⟩⟩,h2,h3,h4⟩
section
variable {prog:bA} {w:cA} {A:cE} {E:aB->aD->Prop} {s:aD} {K:Frag}
end
end Att
namespace L2
open PySem PySem.Spec PyProof.Rows
theorem vS:∀{vs:List aB} {ns:List Int},IntsAre vs ns->Vals (ns.map V.int) vs
 | _,_,.nil=>.nil
 | _,_,.cons n t h=>.cons ⟨t,rfl⟩ (vS h)
def Lb (H:Hp):Prop:=∀b,H b=none\/∃o xs,H b=some (.frz o (.lst xs))
theorem Iy {P:bA} {w:cA} {K:aF} {mg mb:Str->Option aB} {CX:CXT} {k:Nat} {fa a:Addr} {fd:iC} {x:Str} {sp:Sp} {s₁:aD} {vs:List aB} {ns:List Int}
  (KX:K.In s₁.heap) (hns:s₁.heap.Ns mainGlobals mg) (hb:s₁.heap.Ns builtinsNs mb) (hbb:∀x:Str,x≠"__name__"->mb x=bootBuiltins x) (hlim:s₁.heap.NoLimit) (hg:s₁.gens = #[])
  (ha:s₁.heap.get? a=some { cls:=.type "list",data:=.seq vs.toArray }) (hi:IntsAre vs ns) (hl:ns.length<=sizeLine) (hr:Room k callerA)
  (F:∀base:Heap,K.In base->base.Ns mainGlobals mg->FnOk P w K mg base CX k fa fd [x] sp) (hbind:∀(s:aD) (u:aB),BindsTo s fd ⟨[u],[]⟩ [(x,u)])
  (hsp:∀H:Hp,Lb H->SqL K H a (ns.map V.int)->sp [.ref a] H (λv _=>v = .bl true) λ_ _ _=>False)
  (hCX:∀H e s',CX [] H s₁ (λ_ _ _=>False) e s'->False) :
  codeAny (model P w) callerA (.call (.ref fa) ⟨[.ref a],[]⟩) (λr s'=>r = .ok (.ret (.bool true))/\OldK s₁.heap s'.heap/\s'.os=s₁.os/\AllBare s'.gens) s₁:=by
 have rv:=vS hi
 have lenV:=hi.length
 have core:∀H:Hp,Lb H->SqL K H a (ns.map V.int)->HOk P w H s₁.heap->(∀b,H b≠none->b=a)->(H a≠none->K.lookup a=none) ->
   codeAny (model P w) callerA (.call (.ref fa) ⟨[.ref a],[]⟩) (λr s'=>r = .ok (.ret (.bool true))/\OldK s₁.heap s'.heap/\s'.os=s₁.os/\AllBare s'.gens) s₁:=by
  intro H hO hS hok hA hK
  have base_of:∀{b:Addr} {o:Obj},s₁.heap.get? b=some o->H b=none->(ON s₁.heap H).get? b=some o:=λe n=>VB e n
  have noA:∀{b:Addr} {o:Obj} {es:Array DictEntry} {ep:Nat},s₁.heap.get? b=some o->o.data = .dict es ep->H b=none:=λ{b o es ep} e d=>by
   cases q:H b with
   | none=>rfl
   | some u =>
    have e':b=a:=hA b (by rw[q];simp)
    subst e'
    rw[ha] at e;cases e
    have d':Data.seq vs.toArray _=Data.dict es ep:=d
    cases d'
  have nsK:∀{b:Addr} {m:Str->Option aB},s₁.heap.Ns b m->(ON s₁.heap H).Ns b m:=λ{b m} ⟨o,es,ep,e,d,r⟩=>⟨o,es,ep,base_of e (noA e d),d,r⟩
  have hKb:K.In (ON s₁.heap H):=λb o e=>base_of (KX b o e) (by
   cases q:H b with
   | none=>rfl
   | some u =>
    have e':b=a:=hA b (by rw[q];simp)
    subst e'
    rw[hK (by rw[q];simp)] at e;cases e)
  have hM:Mod K mg (ON s₁.heap H):=⟨hKb,nsK hns,⟨mb,nsK hb,hbb⟩,let ⟨mc,h1,h2⟩:=hlim;⟨mc,nsK h1,h2⟩⟩
  have e0:Env0 P w K mg (ON s₁.heap H) callerA [] s₁ H:=⟨rfl,hM,λb o e=>Bv e,wE (Dy _ _),trivial,λb hb=>absurd (show b∈([]:List Addr) from hb) (by simp),hok,.of_eq hg⟩
  refine jX ((F _ hKb (nsK hns)).run callerA [] s₁ H ⟨[.ref a],[]⟩ [.ref a] [.ref a] _ _ hr e0 (hbind s₁ (.ref a)) (.cons rfl .nil) (hsp H hO hS)) λr s' h=>?_
  cases r with
  | error e=>exact (hCX H e s' h).elim
  | ok fl =>
   cases fl with
   | next=>exact eG h
   | brk=>exact eG h
   | cont=>exact eG h
   | ret u =>
    obtain⟨v,H',os,bare,un,hok',r',q⟩:=h
    have q':v = .bl true:=q
    subst q'
    obtain rfl:u=wK true:=r'
    refine⟨rfl,OldK.of_keep λb o e=>?_,os,bare⟩
    cases q:H b with
    | none=>exact un.keep b o e q (by intro z;exact absurd (show b∈([]:List Addr) from z) (by simp)) (by simp)
    | some u =>
     rcases hO b with z | ⟨ob,xs,z⟩
     ·rw[q] at z;cases z
     ·have z2:=un.frzs b ob _ z
      obtain⟨e1,_⟩:=hok b _ z
      obtain⟨e2,_⟩:=hok' b _ z2
      rw[e] at e1;cases e1
      exact e2
 cases hk:K.lookup a with
 | some o =>
  have e:=KX a o hk
  rw[ha] at e
  cases e
  refine core (λ_=>none) (λ_=>.inl rfl) (.inr ⟨_,vs.toArray,_,hk,rfl,rfl,rfl,by rw[aN,lenV];exact hl,by simpa using rv⟩) (λb u z=>by have z':(none:Option HO)=some u:=z;cases z') (λb z=>absurd rfl z) λz=>absurd rfl z
 | none =>
  refine core (λb=>if b=a then some (.frz { cls:=.type "list",data:=.seq vs.toArray } (.lst (ns.map V.int))) else none) (λb=>?_) (.inl (.inr ⟨{ cls:=.type "list",data:=.seq vs.toArray },if_pos rfl⟩)) (λb u z=>?_) (λb z=>?_) λ_=>hk
  ·by_cases hb:b=a
   ·exact .inr ⟨_,_,if_pos hb⟩
   ·exact .inl (if_neg hb)
  ·by_cases hb:b=a
   ·have z':=(if_pos hb).symm.trans z
    cases z'
    subst hb
    exact⟨ha,by rw[aS];exact hl,vs,_,rv,ha⟩
   ·have z':=(if_neg hb).symm.trans z
    cases z'
  ·by_cases hb:b=a
   ·exact hb
   ·exact absurd (if_neg hb) z
abbrev KOf {K:aF} {h:Heap} (_:K.In h):aF:=K
theorem walk_of {l:IW} {n k:Nat} {q:bA} {loose:List Str} {XP:(Str->Option aB)->Heap->Prop} {YP:cA->Heap->Prop} {d:DefRec} {K:Params->aF} {CX:cA->CXT} {sp:cA->Sp} {x:Str}
  (hn:l.most=some n) (hn2:n<=sizeLine) (hdf:d.params.defaults=[]) (hr:Room k callerA)
  (hY:∀(w:cA) (h:Heap),YP w h->(K w.params).In h)
  (F:∀(w:cA) (mg:Str->Option aB) (fa:Addr) (h:Heap),(K w.params).In h->h.Ns mainGlobals mg->mg d.name=some (.ref fa) ->
   ∃fd:iC,(∀(s:aD) (u:aB),BindsTo s fd ⟨[u],[]⟩ [(x,u)]) /\
    ∀base:Heap,(K w.params).In base->base.Ns mainGlobals mg->FnOk l.prog w (K w.params) mg base (CX w) k fa fd [x] (sp w))
  (hsp:∀(w:cA) (H:Hp) (a:Addr) (ns:List Int),ns.length<=n->Lb H->SqL (K w.params) H a (ns.map V.int)->sp w [.ref a] H (λv _=>v = .bl true) λ_ _ _=>False)
  (hCX:∀(w:cA) (H:Hp) (s:aD) (e:aB) (s':aD),CX w [] H s (λ_ _ _=>False) e s'->False) :
  OE q loose XP YP l.row.toRowW d [] (λf vs=>KJ f vs):=by
 refine Att.attach_call hn hdf λw s₀ s₁ mg mb fa o pm cd doc a vs ns G Y ho hd hcd hmg hobj hints hlen hg=>?_
 have KX:=hY w _ Y
 obtain⟨fd,hb,hF⟩:=F w mg fa _ KX G.T.g hmg
 exact Iy KX G.T.g G.T.b G.T.builtins G.T.nolimit hg hobj hints (dQ hlen hn2) hr hF hb (λH hO hS=>hsp w H a ns hlen hO hS) λH e s'=>hCX w H s₁ e s'
def Mh (s:Stmt) (j:Nat):Stmt:=match s with
 | .ClassDef _ _ _ body _ _ _ _ _ _ _=>body.getD j (.Pass ⟨0,0,0,0⟩)
 | _=>.Pass ⟨0,0,0,0⟩
def AE (s:Stmt):Arguments:=match s with
 | .FunctionDef _ a _ _ _ _ _ _ _ _=>a
 | _=>{ posonlyargs:=[],args:=[],vararg:=none,kwonlyargs:=[],kw_defaults:=[],kwarg:=none,defaults:=[] }
def lR (s:Stmt):List Stmt:=match s with
 | .FunctionDef _ _ b _ _ _ _ _ _ _=>b
 | _=>[]
def dR (s:Stmt):Scope:=match s with
 | .FunctionDef _ _ _ _ _ _ sc _ _ _=>sc
 | _=>{ kind:=.function,names:=[],isGenerator:=false,isCoroutine:=false }
abbrev CX0:CXT:=λ_ _ _ _ _ _=>False
abbrev E0:XK:=λ_ _ _=>False
theorem Tt {X:Cx}:XZ CX0 X E0:=λ_ _ _ _ _ _ _ h=>h.elim
structure Fun (K:aF) (x qual:Str) (st:Stmt) (f:Addr) (fd:iC):Prop where
 ex:∃(oc:aB) (od:Option Addr) (kV doc pm:aB) (an:Option Addr) (cdv ct:aB) (osl:Array (Option aB)),
  fd=kU x qual (AE st) (lR st) (dR st) .none kV doc pm an cdv ct/\K.lookup f=some ⟨oc,od,.func fd,osl⟩/\oY K cdv qual=true
 kp:fJ K (.ref f)=true
section
variable {P:bA} {w:cA} {K:aF} {mg:Str->Option aB} {base:Heap}
theorem Fun.ok {x qual:Str} {st:Stmt} {f:Addr} {fd:iC} {N ps:List Str} {k:Nat} {sp:Sp} (F:Fun K x qual st f fd) (S:FnScope N ps (dR st)) (len:∀vs H Q E,sp vs H Q E->vs.length=ps.length)
  (hbody:∀(cdv:aB) (A:cE) (outer:List Env) (s:aD) (H:Hp) (vs:List V) (Q:VK) (E:XK),Room k (A.deeper (envOfC qual (dR st) s.heap.objs.size f cdv))->sp vs H Q E ->
   ∃t,PSs (yA CX0 P w K mg base N qual (dR st) f cdv A outer s H E).nox (lR st) t/\t { nx:=λ_ H'=>Q .non H',rt:=Q } (start N vs) H):FnOk P w K mg base CX0 (k+1) f fd ps sp:=by
 obtain⟨oc,od,kV,doc,pm,an,cdv,ct,osl,rfl,lk,hcd⟩:=F.ex
 refine Os lk hcd S len λA outer s H vs Q E hr hsp=>?_
 obtain⟨t,h,q⟩:=hbody cdv A outer s H vs Q E hr hsp
 exact⟨t,h.nox,q⟩
theorem Ib {x qual:Str} {st:Stmt} {f:Addr} {oc:aB} {od an:Option Addr} {osl:Array (Option aB)} {kV doc pm cdv ct:aB} (l:K.lookup f=some ⟨oc,od,.func (kU x qual (AE st) (lR st) (dR st) .none kV doc pm an cdv ct),osl⟩)
  (c:oY K cdv qual=true) (k:fJ K (.ref f)=true):Fun K x qual st f (kU x qual (AE st) (lR st) (dR st) .none kV doc pm an cdv ct):=⟨⟨oc,od,kV,doc,pm,an,cdv,ct,osl,rfl,l,c⟩,k⟩
end
section
variable {X:Cx}
theorem pv (i:Nat) {x:Str} {pos:Pos} (hN:X.N[i]? = some x:=by rfl) (hv:Vis X.env.scope x:=by walk_at "vis") (hd:(x == ("__debug__":Str))=false:=by decide)
  (hcd:(x == ("__classdict__":Str))=false:=by decide):PE X (.Name x pos) (Uy i):=Rb hN hv hd hcd
end
def Same (H H':Hp):Prop:=∀b o,H b=some o->H' b=some o
theorem Same.refl (H:Hp):Same H H:=λ_ _ h=>h
theorem Same.trans {H H1 H2:Hp} (a:Same H H1) (b:Same H1 H2):Same H H2:=λc o h=>b c o (a c o h)
theorem Same.free {H H':Hp} (e:Same H H') {l:Addr} (h:H' l=yT):H l=yT:=by
 cases q:H l with
 | none=>rfl
 | some o =>
  rw[e l o q] at h
  cases h
end L2
namespace L2.R2
abbrev Pt:=Int × Int
def cM (a b c:Pt):Int:=(b.1-a.1)*(c.2-a.2)-(b.2-a.2)*(c.1-a.1)
def ltP (a b:Pt):Prop:=a.1<b.1\/(a.1=b.1/\a.2<b.2)
instance (a b:Pt):Decidable (ltP a b):=by unfold ltP;infer_instance
theorem rN {a:Pt}:¬ltP a a:=λh=>h.elim (qI _) λh=>qI _ h.2
theorem qD {a b c:Pt} (h:ltP a b) (k:ltP b c):ltP a c:=by
 rcases h with h | ⟨h,h'⟩
 ·exact eD (k.elim (Int.lt_trans h) λk=>k.1 ▸ h)
 ·exact k.elim (λk=>eD (h ▸ k)) λk=>eJ ⟨h.trans k.1,Int.lt_trans h' k.2⟩
theorem rO (a b:Pt):ltP a b\/a=b\/ltP b a:=by
 rcases EK a.1 b.1 with h | h | h
 ·exact eD (eD h)
 ·rcases EK a.2 b.2 with k | k | k
  ·exact eD (eJ ⟨h,k⟩)
  ·exact eJ (eD (fY h k))
  ·exact eJ (eJ (eJ ⟨h.symm,k⟩))
 ·exact eJ (eJ (eD h))
theorem rX {a b:Pt} (h:ltP a b):¬ltP b a:=λk=>rN (qD h k)
def LP (x y:Int):Prop:=0<x\/(x=0/\0<y)
theorem oR {a b:Pt} (h:ltP a b):LP (b.1-a.1) (b.2-a.2):=h.elim (λh=>eD (EL h)) λh=>eJ ⟨by rw[h.1,Int.sub_self],EL h.2⟩
theorem KD {x y x' y':Int} (h:LP x y) (k:LP x' y'):LP (x+x') (y+y'):=by
 rcases h with h | ⟨rfl,h'⟩ <;> rcases k with k | ⟨rfl,k'⟩
 ·exact eD (Int.add_pos h k)
 ·exact eD (by rw[EJ];exact h)
 ·exact eD (by rw[Int.zero_add];exact k)
 ·exact eJ ⟨rfl,Int.add_pos h' k'⟩
theorem rK {k x y:Int} (hk:0<k) (h:LP x y):LP (k*x) (k*y):=by
 unfold LP at *
 rcases h with h | ⟨h,h'⟩
 ·exact eD (bZ hk h)
 ·exact eJ ⟨by rw[h,Int.mul_zero],bZ hk h'⟩
theorem Al {k x y z w:Int} (hk:0<=k) (h:LP x y) (h0:LP z w):LP (z+k*x) (w+k*y):=by
 rcases CO hk with h' | rfl
 ·exact KD h0 (rK h' h)
 ·rw[vZ,vZ,EJ,EJ];exact h0
theorem Ol (h:LP 0 0):False:=h.elim (qI _) λh=>qI _ h.2
theorem XY {k x y:Int} (h:LP x y) (hk:LP (k*x) (k*y)):0<k:=by
 unfold LP at *
 rcases h with h | ⟨h,h'⟩
 ·rcases hk with hk | ⟨hk,_⟩
  ·exact iK hk h |> λh=>h
  ·rcases Int.mul_eq_zero.mp hk with e | e
   ·subst e;simp at *;
   ·omega
 ·subst h
  rcases hk with hk | ⟨_,hk⟩
  ·simp at hk
  ·exact iK hk h'
theorem QZ {ux uy vx vy wx wy:Int} (hu:LP ux uy) (hv:LP vx vy) (hw:LP wx wy) (h:0<ux*vy-uy*vx) (k:0<vx*wy-vy*wx) :
  0<ux*(vy+wy)-uy*(vx+wx)/\0<(ux+vx)*wy-(uy+vy)*wx:=by
 constructor
 ·refine XY hv (?_:LP _ _)
  have:=KD (rK h (KD hv hw)) (rK k hu)
  have e1:(ux*(vy+wy)-uy*(vx+wx))*vx=(ux*vy-uy*vx)*(vx+wx)+(vx*wy-vy*wx)*ux:=by grind
  have e2:(ux*(vy+wy)-uy*(vx+wx))*vy=(ux*vy-uy*vx)*(vy+wy)+(vx*wy-vy*wx)*uy:=by grind
  rw[e1,e2];exact this
 ·refine XY hv (?_:LP _ _)
  have:=KD (rK h hw) (rK k (KD hu hv))
  have e1:((ux+vx)*wy-(uy+vy)*wx)*vx=(ux*vy-uy*vx)*wx+(vx*wy-vy*wx)*(ux+vx):=by grind
  have e2:((ux+vx)*wy-(uy+vy)*wx)*vy=(ux*vy-uy*vx)*wy+(vx*wy-vy*wx)*(uy+vy):=by grind
  rw[e1,e2];exact this
theorem XO {a b c d:Pt} (ab:ltP a b) (bc:ltP b c) (cd:ltP c d) (h:0<cM a b c) (k:0<cM b c d):0<cM a b d/\0<cM a c d:=by
 have:=QZ (oR ab) (oR bc) (oR cd) (by unfold cM at h;grind) (by unfold cM at k;grind)
 unfold cM
 constructor
 ·have:=this.1;grind
 ·have:=this.2;grind
theorem Oi {ux uy vx vy ax ay px py:Int} (A:LP ax ay) (P:LP px py) (V:LP vx vy) (hc:0<ux*vy-uy*vx) (m0:0<=-(ux*ay-uy*ax)) (x0:0<=ax*vy-ay*vx) (y0:0<=ux*py-uy*px) (n0:0<=vx*py-vy*px):0<ax*py-ay*px:=by
 have CA:=rK hc A
 have S:=Al m0 V CA
 rw[show (ux*vy-uy*vx)*ax + -(ux*ay-uy*ax)*vx=(ax*vy-ay*vx)*ux by grind,show (ux*vy-uy*vx)*ay + -(ux*ay-uy*ax)*vy=(ax*vy-ay*vx)*uy by grind] at S
 have hx:0<ax*vy-ay*vx:=by
  rcases CO x0 with h | h
  ·exact h
  ·rw[<-h,vZ,vZ] at S;exact (Ol S).elim
 have T:=Al n0 CA (rK hx (rK hc P))
 rw[show (ax*vy-ay*vx)*((ux*vy-uy*vx)*px)+(vx*py-vy*px)*((ux*vy-uy*vx)*ax)=((ax*py-ay*px)*(ux*vy-uy*vx))*vx by grind,show (ax*vy-ay*vx)*((ux*vy-uy*vx)*py)+(vx*py-vy*px)*((ux*vy-uy*vx)*ay)=((ax*py-ay*px)*(ux*vy-uy*vx))*vy by grind] at T
 exact iK (XY V T) hc
theorem XT {a0 b c0 a p:Pt} (h0:ltP b c0) (ha:ltP a b) (hp:ltP b p) (hc:0<cM a0 b c0) (h1:0<=cM a0 b a) (h2:0<=cM b c0 a) (h3:0<=cM a0 b p) (h4:0<=cM b c0 p):0<cM a b p:=by
 have A:=oR ha;have P:=oR hp;have U2:=oR h0
 have hc':0<(b.1-a0.1)*(c0.2-b.2)-(b.2-a0.2)*(c0.1-b.1):=by
  have e:cM a0 b c0=(b.1-a0.1)*(c0.2-b.2)-(b.2-a0.2)*(c0.1-b.1):=by { unfold cM;grind }
  rw[<-e];exact hc
 have m0:0<=-((b.1-a0.1)*(b.2-a.2)-(b.2-a0.2)*(b.1-a.1)):=by
  have e:cM a0 b a = -((b.1-a0.1)*(b.2-a.2)-(b.2-a0.2)*(b.1-a.1)):=by unfold cM;grind
  rw[<-e];exact h1
 have x0:0<=(b.1-a.1)*(c0.2-b.2)-(b.2-a.2)*(c0.1-b.1):=by
  have e:cM b c0 a=(b.1-a.1)*(c0.2-b.2)-(b.2-a.2)*(c0.1-b.1):=by unfold cM;grind
  rw[<-e];exact h2
 have y0:0<=(b.1-a0.1)*(p.2-b.2)-(b.2-a0.2)*(p.1-b.1):=by
  have e:cM a0 b p=(b.1-a0.1)*(p.2-b.2)-(b.2-a0.2)*(p.1-b.1):=by unfold cM;grind
  rw[<-e];exact h3
 have n0:0<=(c0.1-b.1)*(p.2-b.2)-(c0.2-b.2)*(p.1-b.1):=by
  have e:cM b c0 p=(c0.1-b.1)*(p.2-b.2)-(c0.2-b.2)*(p.1-b.1):=by unfold cM;grind
  rw[<-e];exact h4
 have goal:cM a b p=(b.1-a.1)*(p.2-b.2)-(b.2-a.2)*(p.1-b.1):=by unfold cM;grind
 rw[goal]
 exact Oi A P U2 hc' m0 x0 y0 n0
def iG (p:Pt):List Pt->List Pt
 | b::a::r=>if cM a b p<=0 then iG p (a::r) else b::a::r
 | s=>s
def iV (L:List Pt):List Pt:=L.foldl (λs p=>p::iG p s) []
def Dec (s:List Pt):Prop:=s.Pairwise λx y=>ltP y x
def Inc (s:List Pt):Prop:=s.Pairwise ltP
def Tri (s:List Pt):Prop:=∀c b a,[c,b,a].Sublist s->0<cM a b c
def Seen (p:Pt) (s:List Pt):Prop:=∀b a,[b,a].Sublist s->0<cM a b p
theorem IL (p:Pt):∀s,∃l,s=l++iG p s
 | []=>⟨[],rfl⟩
 | [_]=>⟨[],rfl⟩
 | b::a::r=>by
  unfold iG
  split
  ·obtain⟨l,e⟩:=IL p (a::r)
   exact⟨b::l,by rw[cD,<-e]⟩
  ·exact⟨[],rfl⟩
theorem vJ (p:Pt) (s:List Pt):(iG p s).Sublist s:=by
 obtain⟨l,e⟩:=IL p s
 conv=>rhs;rw[e]
 exact List.sublist_append_right _ _
theorem Cd (p:Pt):∀s,s≠[]->iG p s≠[]
 | [],h=>h
 | [_],_=>by simp[iG]
 | b::a::r,_=>by
  unfold iG
  split
  ·exact Cd p (a::r) (by simp)
  ·simp
theorem WM (p:Pt):∀s b a r,iG p s=b::a::r->0<cM a b p
 | [],_,_,_,h=>by simp[iG] at h
 | [_],_,_,_,h=>by simp[iG] at h
 | b'::a'::r',b,a,r,h=>by
  unfold iG at h
  split at h
  ·exact WM p (a'::r') b a r h
  ·rename_i hn
   cases h
   omega
theorem Dec.mem {s:List Pt} {b:Pt} {r:List Pt} (h:Dec (b::r)) {a:Pt} (ha:a∈r):ltP a b:=(bW.mp h).1 a ha
theorem Wi {α:Type} {b a b0:α} {r:List α} (h:[b,a].Sublist (b0::r)):(b=b0/\a∈r)\/[b,a].Sublist r:=by
 cases h with
 | cons _ h=>exact eJ h
 | cons_cons _ h=>exact eD ⟨rfl,by simpa using h⟩
theorem XF {p b0 a0:Pt} {r:List Pt} (d:Dec (b0::a0::r)) (t:Tri (b0::a0::r)) (hp:ltP b0 p) (h:0<cM a0 b0 p):Seen p (b0::a0::r):=by
 have top:∀a,a∈a0::r->0<cM a b0 p:=by
  intro a ha
  rcases aL.mp ha with rfl | ha
  ·exact h
  ·have t1:0<cM a a0 b0:=t b0 a0 a (by simpa using ha)
   exact (XO (Dec.mem (s:=[]) (bW.mp d).2 ha) (Dec.mem (s:=[]) d (by simp)) hp t1 h).2
 intro b a hs
 rcases Wi hs with ⟨rfl,ha⟩ | hs
 ·exact top a ha
 ·have hb:b∈a0::r:=hs.subset (by simp)
  have t1:0<cM a b b0:=t b0 b a (hs.cons_cons b0)
  have hab:ltP a b:=by
   have d':Dec [b,a]:=jL hs (bW.mp d).2
   exact (bW.mp d').1 a (by simp)
  exact (XO hab (Dec.mem (s:=[]) d hb) hp t1 (top b hb)).1
theorem Od {p:Pt} {s:List Pt} (d:Dec s) (t:Tri s) (hp:∀q∈s,ltP q p):Dec (p::iG p s)/\Tri (p::iG p s):=by
 have hs:=vJ p s
 have d':Dec (iG p s):=jL hs d
 have t':Tri (iG p s):=λc b a h=>t c b a (h.trans hs)
 have hp':∀q∈iG p s,ltP q p:=λq hq=>hp q (hs.subset hq)
 have sn:Seen p (iG p s):=by
  generalize e:iG p s=u at *
  match u,e with
  | [],_=>intro b a h;cases h
  | [x],_=>intro b a h;have:=h.length_le;simp at this
  | b::a::r,e=>exact XF d' t' (hp' b (by simp)) (WM p s b a r e)
 refine⟨bW.mpr ⟨hp',d'⟩,?_⟩
 intro c b a h
 cases h with
 | cons _ h=>exact t' c b a h
 | cons_cons _ h=>exact sn b a h
structure LowChain (L C:List Pt):Prop where
 inc:Inc C
 mem:∀q∈C,q∈L
 first:∀q∈L,∀c r,C=c::r->¬ltP q c
 last:∀q∈L,∀c l,C=l++[c]->¬ltP c q
 side:∀l a b r,C=l++a::b::r->∀q∈L,0<=cM a b q
 bend:∀l a b c r,C=l++a::b::c::r->0<cM a b c
theorem LowChain.vertex {L C:List Pt} (H:LowChain L C) {a b p:Pt} (hb:b∈C) (ha:a∈L) (hp:p∈L) (ab:ltP a b) (bp:ltP b p):0<cM a b p:=by
 obtain⟨l,r,e⟩:=CS hb
 rcases eW l with rfl | ⟨l',a0,rfl⟩
 ·exact absurd ab (H.first a ha b r e)
 ·match r with
  | []=>exact absurd bp (H.last p hp b _ e)
  | c0::r' =>
   have e1:C=l'++a0::b::c0::r':=by simpa using e
   have e2:C=(l'++[a0])++b::c0::r':=by simpa using e
   have i:=H.inc
   rw[e2] at i
   have bc:ltP b c0:=(bW.mp (gI.mp i).2.1).1 c0 (by simp)
   exact XT bc ab bp (H.bend _ _ _ _ _ e1) (H.side _ _ _ _ e1 a ha) (H.side _ _ _ _ e2 a ha) (H.side _ _ _ _ e1 p hp) (H.side _ _ _ _ e2 p hp)
theorem QJ {L C:List Pt} (H:LowChain L C) {p:Pt} (hp:p∈L):∀s,Dec s->(∀q∈s,q∈L)->(∀q∈s,ltP q p)->∀c∈C,c∈s->c∈iG p s
 | [],_,_,_,_,_,h=>h
 | [_],_,_,_,_,_,h=>h
 | b::a::r,d,m,lt,c,hc,h=>by
  unfold iG
  split
  ·rename_i ht
   rcases aL.mp h with rfl | h
   ·exact absurd (H.vertex hc (m a (by simp)) hp (Dec.mem (s:=[]) d (by simp)) (lt _ (by simp))) (by omega)
   ·exact QJ H hp (a::r) (bW.mp d).2 (λq hq=>m q (bD _ hq)) (λq hq=>lt q (bD _ hq)) c hc h
  ·exact h
theorem Cy {L C:List Pt} (H:LowChain L C):∀(R:List Pt) (s:List Pt),(∀q∈R,q∈L)->Inc R->Dec s->Tri s->(∀q∈s,q∈L)->(∀q∈s,∀p∈R,ltP q p)->(∀c∈C,c∈s\/c∈R) ->
  let S:=R.foldl (λs p=>p::iG p s) s
  Dec S/\Tri S/\(∀q∈S,q∈L)/\(∀c∈C,c∈S)
 | [],s,_,_,d,t,m,_,hc=>⟨d,t,m,λc h=>by simpa using hc c h⟩
 | p::R,s,hR,i,d,t,m,lt,hc=>by
  have ok:=Od d t (p:=p) (λq hq=>lt q hq p (by simp))
  refine Cy H R (p::iG p s) (λq hq=>hR q (bD _ hq)) (bW.mp i).2 ok.1 ok.2 ?_ ?_ ?_
  ·intro q hq
   rcases aL.mp hq with rfl | hq
   ·exact hR _ (by simp)
   ·exact m q ((vJ p s).subset hq)
  ·intro q hq r hr
   rcases aL.mp hq with rfl | hq
   ·exact (bW.mp i).1 r hr
   ·exact lt q ((vJ p s).subset hq) r (bD _ hr)
  ·intro c hcc
   rcases hc c hcc with h | h
   ·exact eD (bD _ (QJ H (hR p (by simp)) s d m (λq hq=>lt q hq p (by simp)) c hcc h))
   ·rcases aL.mp h with rfl | h
    ·exact eD (by simp)
    ·exact eJ h
theorem Ap:∀(C:List Pt) (t:Pt),t ∉ C->(∃c∈C,ltP c t)->(∃d∈C,ltP t d)->Inc C->∃l c d r,C=l++c::d::r/\ltP c t/\ltP t d
 | [],_,_,⟨_,h,_⟩,_,_=>by cases h
 | [x],t,_,⟨c,hc,h⟩,⟨d,hd,k⟩,_=>by
  simp at hc hd;subst hc;subst hd;exact absurd k (rX h)
 | x::y::r,t,ht,⟨c,hc,h⟩,⟨d,hd,k⟩,i=>by
  have hxt:ltP x t:=by
   rcases aL.mp hc with rfl | hc
   ·exact h
   ·exact qD ((bW.mp i).1 c hc) h
  rcases rO y t with hy | rfl | hy
  ·have hd':d∈y::r:=by
    rcases aL.mp hd with rfl | hd
    ·exact absurd k (rX hxt)
    ·exact hd
   obtain⟨l,c',d',r',e,h1,h2⟩:=Ap (y::r) t (λh=>ht (bD _ h)) ⟨y,by simp,hy⟩ ⟨d,hd',k⟩ (bW.mp i).2
   exact⟨x::l,c',d',r',by rw[e];rfl,h1,h2⟩
  ·simp at ht
  ·exact⟨[],x,y,r,rfl,hxt,hy⟩
theorem SE:∀(A B:List Pt),Inc A->Inc B->(∀q,q∈A↔q∈B)->A=B
 | [],[],_,_,_=>rfl
 | [],b::B,_,_,h=>absurd ((h b).mpr (by simp)) (by simp)
 | a::A,[],_,_,h=>absurd ((h a).mp (by simp)) (by simp)
 | a::A,b::B,ia,ib,h=>by
  have ia':=bW.mp ia;have ib':=bW.mp ib
  have e:a=b:=by
   rcases aL.mp ((h a).mp (by simp)) with e | ha
   ·exact e
   ·rcases aL.mp ((h b).mpr (by simp)) with e | hb
    ·exact e.symm
    ·exact absurd (ib'.1 a ha) (rX (ia'.1 b hb))
  subst e
  congr 1
  refine SE A B ia'.2 ib'.2 λq=>⟨λhq=>?_,λhq=>?_⟩
  ·rcases aL.mp ((h q).mp (bD _ hq)) with rfl | h'
   ·exact absurd (ia'.1 q hq) rN
   ·exact h'
  ·rcases aL.mp ((h q).mpr (bD _ hq)) with rfl | h'
   ·exact absurd (ib'.1 q hq) rN
   ·exact h'
theorem Mi (A B:List Pt) (ia:Inc A) (ib:Inc B) (h:∀x∈A,x∈B):A.Sublist B:=by
 induction B generalizing A with
 | nil =>
  cases A with
  | nil=>exact EM _
  | cons a A=>cases h a (.head _)
 | cons b B ih =>
  cases A with
  | nil=>exact List.nil_sublist _
  | cons a A =>
   have ia':=bW.mp ia
   have ib':=bW.mp ib
   rcases aL.mp (h a (.head _)) with rfl | ha
   ·exact (ih A ia'.2 ib'.2 λx hx=>(aL.mp (h x (.tail _ hx))).resolve_left λe=>rN (e ▸ ia'.1 x hx)).cons_cons a
   ·refine (ih (a::A) ia ib'.2 λx hx=>(aL.mp (h x hx)).resolve_left λe=>?_).cons b
    rcases aL.mp hx with k | hx
    ·exact rN (k ▸ e ▸ ib'.1 a ha)
    ·exact rX (ia'.1 x hx) (e ▸ ib'.1 a ha)
theorem VC {L C:List Pt} (iL:Inc L) (H:LowChain L C) (hne:C≠[]):(iV L).reverse=C:=by
 obtain⟨d,t,m,k⟩:=Cy H L [] (λ_ h=>h) iL jU (λ_ _ _ h=>by cases h) (λ_ h=>by cases h) (λ_ h=>by cases h) (λc hc=>eJ (H.mem c hc))
 have inc:Inc (iV L).reverse:=lJ.mpr d
 refine SE _ _ inc H.inc λq=>⟨λhq=>?_,λhq=>mO.mpr (k q hq)⟩
 apply Decidable.byContradiction
 intro hn
 have hq':q∈iV L:=mO.mp hq
 have hL:=m q hq'
 have h1:∃c∈C,ltP c q:=by
  match C,hne with
  | c::r,_ =>
   refine⟨c,by simp,?_⟩
   rcases rO c q with h | rfl | h
   ·exact h
   ·simp at hn
   ·exact absurd h (H.first q hL c r rfl)
 have h2:∃d∈C,ltP q d:=by
  rcases eW C with e | ⟨l,c,e⟩
  ·exact absurd e hne
  ·refine⟨c,by simp[e],?_⟩
   rcases rO q c with h | rfl | h
   ·exact h
   ·simp[e] at hn
   ·exact absurd h (H.last q hL c l (by simpa using e))
 obtain⟨l,c,e,r,eC,hc,he⟩:=Ap C q hn h1 h2 H.inc
 have hs:[e,q,c].Sublist (iV L):=by
  have i3:Inc [c,q,e]:=by
   exact .cons (λx hx=>(aL.mp hx).elim (λe=>e ▸ hc) λh=>cG.mp h ▸ qD hc he) (.cons (λx hx=>cG.mp hx ▸ he) (.cons (λx hx=>by cases hx) .nil))
  have:[c,q,e].Sublist (iV L).reverse:=by
   refine Mi _ _ i3 inc λx hx=>?_
   rw[mO]
   rcases aL.mp hx with rfl | hx
   ·exact k _ (eC ▸ bK _ (.head _))
   ·rcases aL.mp hx with rfl | hx
    ·exact hq'
    ·exact k _ (cG.mp hx ▸ eC ▸ bK _ (.tail _ (.head _)))
  simpa using this.reverse
 have t1:=t e q c hs
 have t2:=H.side l c e r eC q hL
 have:cM c e q = - cM c q e:=by unfold cM;grind
 omega
namespace K33
theorem UV {α:Type} (p:α->Bool):∀l:List α,(l.filter p++l.filter λx=>!p x).Perm l
 | []=>.refl _
 | x::l=>by
  have ih:=UV p l
  rw[pW,pW]
  cases e:p x with
  | true=>simpa using ih
  | false =>
   simp only[aP,if_false,lW,if_true]
   exact GP.trans (.cons x ih)
theorem UW {α:Type} (k:α->Int):∀(cs:List Int) (es:List α),cs.Nodup->(∀e∈es,k e∈cs)->(cs.flatMap λc=>es.filter λe=>decide (k e=c)).Perm es
 | [],es,_,h=>by
  cases es with
  | nil=>exact .refl _
  | cons e es=>exact absurd (h e (.head _)) eB
 | c::cs,es,nd,h=>by
  have nd':=fL.mp nd
  rw[lQ]
  have e1:(cs.flatMap λc=>es.filter λe=>decide (k e=c))=cs.flatMap λc'=>(es.filter λe=>!decide (k e=c)).filter λe=>decide (k e=c'):=by
   rw[pX,pX]
   congr 1
   refine gT λc' hc=>?_
   rw[List.filter_filter]
   refine EO λe _=>?_
   by_cases z:k e=c'
   ·have:¬k e=c:=λy=>nd'.1 (by rw[<-y,z];exact hc)
    rw[decide_eq_true z,decide_eq_false this];rfl
   ·rw[decide_eq_false z];rfl
  rw[e1]
  refine List.Perm.trans (xP _ (UW k cs (es.filter λe=>!decide (k e=c)) nd'.2 λe he=>?_)) (UV _ es)
  have he':=fB.mp he
  have:¬k e=c:=by simpa using he'.2
  exact (aL.mp (h e he'.1)).resolve_left this
abbrev grp {α:Type} (k:α->Int) (es:List α) (c:Int):List α:=es.filter λe=>decide (k e=c)
theorem Me {α:Type} {k:α->Int} {es:List α} {c:Int} (h:grp k es c≠[]):∃e∈es,k e=c:=by
 obtain⟨e,he⟩:=List.exists_mem_of_ne_nil _ h
 have:=fB.mp he
 exact⟨e,this.1,of_decide_eq_true this.2⟩
end K33
abbrev Lc:=Pt × Pt
def GA {α:Type}:List α->List (α × α)
 | x::y::r=>(x,y)::GA r
 | _=>[]
def wid (s:Lc):Int:=s.2.1-s.1.1
def hB (B:Int) (s:Lc) (t:Int):Int:=(s.1.2*wid s+(s.2.2-s.1.2)*(t-s.1.1))*B.fdiv (wid s)
theorem zX {α:Type}:∀{L:List α} {z:α × α},z∈GA L->z.1∈L/\z.2∈L
 | x::y::r,z,h=>by
  rw[GA] at h
  rcases aL.mp h with rfl | h
  ·exact⟨.head _,.tail _ (.head _)⟩
  ·exact⟨.tail _ (.tail _ (zX h).1),.tail _ (.tail _ (zX h).2)⟩
 | [],z,h=>by cases h
 | [x],z,h=>by cases h
def iB (p:Pt):Pt:=(-p.1,-p.2)
theorem zL (p:Pt):iB (iB p)=p:=by unfold iB;simp
theorem rY (a b c:Pt):cM (iB a) (iB b) (iB c)=cM a b c:=by unfold cM iB;grind
theorem wR {a b:Pt}:ltP (iB a) (iB b)↔ltP b a:=or_congr CP (and_congr (Int.neg_inj.trans eq_comm) CP)
theorem WL (p:Pt):∀s,iG (iB p) (s.map iB)=(iG p s).map iB
 | []=>rfl
 | [_]=>rfl
 | b::a::r=>by
  have ih:=WL p (a::r)
  simp only[aU] at ih ⊢
  rw[iG,iG,rY]
  split
  ·exact ih
  ·rfl
theorem XV:∀(L s:List Pt),(L.map iB).foldl (λs p=>p::iG p s) (s.map iB)=(L.foldl (λs p=>p::iG p s) s).map iB
 | [],_=>rfl
 | p::L,s=>by
  simp only[aU,nU]
  rw[WL,<-aU]
  exact XV L (p::iG p s)
theorem LQ (L:List Pt):iV (L.map iB)=(iV L).map iB:=XV L []
theorem DM {L:List Pt} (h:Dec L):Inc (L.map iB):=by
 unfold Inc;rw[jV]
 exact h.imp λk=>wR.mpr k
theorem Mg {L C:List Pt} (iL:Inc L) (H:LowChain (L.map iB) (C.map iB)) (hne:C≠[]):(iV L.reverse).reverse=C:=by
 have i1:Inc (L.reverse.map iB):=DM (lJ.mpr iL)
 have H':LowChain (L.reverse.map iB) (C.map iB):=by
  have m:∀q,q∈L.reverse.map iB↔q∈L.map iB:=by intro q;simp
  exact⟨H.inc,λq h=>(m q).mpr (H.mem q h),λq h=>H.first q ((m q).mp h),λq h=>H.last q ((m q).mp h),λl a b r e q h=>H.side l a b r e q ((m q).mp h),H.bend⟩
 have:=VC i1 H' (by simpa using hne)
 rw[LQ,<-GM] at this
 have k:=congrArg (qL iB) this
 rw[cZ,cZ] at k
 have e:iB ∘ iB=id:=by funext p;exact zL p
 rwa [e,mE,mE] at k
theorem Mu {ax ay vx vy ux uy:Int} (A:LP ax ay) (V:LP vx vy) (U:LP ux uy) (hc:0<ux*vy-uy*vx) (k1:0<=vx*ay-vy*ax) (k2:0<=-(ux*ay-uy*ax)):False:=by
 have S:=Al k2 V (Al k1 U (rK hc A))
 rw[show (ux*vy-uy*vx)*ax+(vx*ay-vy*ax)*ux + -(ux*ay-uy*ax)*vx=0 by grind,show (ux*vy-uy*vx)*ay+(vx*ay-vy*ax)*uy + -(ux*ay-uy*ax)*vy=0 by grind] at S
 exact Ol S
theorem HG {a b c q:Pt} (ba:ltP b a) (bc:ltP b c) (h:0<cM a b c) (h1:0<=cM a b q) (h2:0<=cM b c q):¬ltP q b:=by
 intro hq
 have A:=oR hq;have V:=oR ba;have U:=oR bc
 have hc:0<(c.1-b.1)*(a.2-b.2)-(c.2-b.2)*(a.1-b.1):=by
  have e:cM a b c=(c.1-b.1)*(a.2-b.2)-(c.2-b.2)*(a.1-b.1):=by unfold cM;grind
  rw[<-e];exact h
 have k1:0<=(a.1-b.1)*(b.2-q.2)-(a.2-b.2)*(b.1-q.1):=by
  have e:cM a b q=(a.1-b.1)*(b.2-q.2)-(a.2-b.2)*(b.1-q.1):=by unfold cM;grind
  rw[<-e];exact h1
 have k2:0<=-((c.1-b.1)*(b.2-q.2)-(c.2-b.2)*(b.1-q.1)):=by
  have e:cM b c q = -((c.1-b.1)*(b.2-q.2)-(c.2-b.2)*(b.1-q.1)):=by unfold cM;grind
  rw[<-e];exact h2
 exact Mu A V U hc k1 k2
theorem Es {a b c q:Pt} (ab:ltP a b) (cb:ltP c b) (h:0<cM a b c) (h1:0<=cM a b q) (h2:0<=cM b c q):¬ltP b q:=λhq =>
 HG (wR.mpr ab) (wR.mpr cb) (by rw[rY];exact h) (by rw[rY];exact h1) (by rw[rY];exact h2) (wR.mpr hq)
def Gf (R:List Pt):Prop:=∀l a b c s,R=l++a::b::c::s->¬(ltP b a/\ltP b c)
def Gg (R:List Pt):Prop:=∀l a b s,R=l++a::b::s->a≠b
theorem UN:∀(s:List Pt) (a b:Pt),ltP b a->Gf (a::b::s)->Gg (a::b::s)->Dec (a::b::s)
 | [],a,b,h,_,_=>by simp only[Dec,bW,aL,eB,or_false];exact⟨λx e=>e ▸ h,by simp⟩
 | c::s,a,b,h,nd,nr=>by
  have hc:ltP c b:=by
   rcases rO c b with h' | h' | h'
   ·exact h'
   ·exact absurd h'.symm (nr [a] b c s rfl)
   ·exact absurd ⟨h,h'⟩ (nd [] a b c s rfl)
  have ih:=UN s b c hc (λl x y z w e=>nd (a::l) x y z w (by rw[e];rfl)) (λl x y w e=>nr (a::l) x y w (by rw[e];rfl))
  refine bW.mpr ⟨λq hq=>?_,ih⟩
  rcases aL.mp hq with rfl | hq
  ·exact h
  ·exact qD ((bW.mp ih).1 q hq) h
theorem WD:∀(R:List Pt),R≠[]->Gf R->Gg R->∃A m B,R=A++m::B/\Inc (A++[m])/\Dec (m::B)
 | [],h,_,_=>absurd rfl h
 | [x],_,_,_=>⟨[],x,[],rfl,by simp[Inc],by simp[Dec]⟩
 | a::b::s,_,nd,nr=>by
  rcases rO a b with h | h | h
  ·obtain⟨A,m,B,e,i,d⟩:=WD (b::s) (by simp) (λl x y z w e=>nd (a::l) x y z w (by rw[e];rfl)) (λl x y w e=>nr (a::l) x y w (by rw[e];rfl))
   refine⟨a::A,m,B,by rw[e];rfl,?_,d⟩
   refine bW.mpr ⟨λq hq=>?_,i⟩
   have hb:q=b\/ltP b q:=by
    match A,e,i,hq with
    | [],e,i,hq=>simp at hq;simp at e;exact eD (hq.trans e.1.symm)
    | x::A,e,i,hq =>
     simp at e
     obtain⟨rfl,e⟩:=e
     rcases aL.mp hq with rfl | hq
     ·exact eD rfl
     ·exact eJ ((bW.mp i).1 q hq)
   rcases hb with rfl | hb
   ·exact h
   ·exact qD h hb
  ·exact absurd h (nr [] a b s rfl)
  ·exact⟨[],a,b::s,rfl,by simp[Inc],UN s a b h nd nr⟩
structure RingAbout (L:List Pt) (z y:Pt) (t:List Pt):Prop where
 mem:∀q∈z::y::t,q∈L
 least:∀q∈y::t,ltP z q
 side:∀l a b r,(z::y::t)++[z]=l++a::b::r->∀q∈L,0<=cM a b q
 bend:∀l a b c r,(z::y::t)++[z,y]=l++a::b::c::r->0<cM a b c
theorem Cv {a b c:Pt} (h:0<cM a b c):a≠b/\b≠c:=by
 constructor <;> rintro rfl <;> unfold cM at h <;> grind
def rD (L:List Pt):List Pt:=(iV L).reverse.dropLast
theorem Dz {z b a c:Pt} {T l s:List Pt} (e:(z::T)++[z]=l++a::b::c::s):b∈T:=by
 have h:((z::T)++[z]).dropLast=(l++a::b::c::s).dropLast:=congrArg OA e
 have h2:(l++a::b::c::s).dropLast=(l++[a])++(b::(c::s).dropLast):=by
  have:l++a::b::c::s=(l++[a,b])++(c::s):=by simp
  rw[this,List.dropLast_append_of_ne_nil (by simp)];simp
 rw[mD,h2] at h
 cases l with
 | nil=>simp at h;rw[h.2];simp
 | cons l0 l=>simp at h;rw[h.2];simp
theorem Fp {L:List Pt} {z y:Pt} {t:List Pt} (iL:Inc L) (H:RingAbout L z y t):rD L++rD L.reverse=z::y::t:=by
 have zlty:ltP z y:=H.least y (by simp)
 have bendR:∀l a b c s,(z::y::t)++[z]=l++a::b::c::s->0<cM a b c:=by
  intro l a b c s e
  refine H.bend l a b c (s++[y]) ?_
  have:(z::y::t)++[z,y]=((z::y::t)++[z])++[y]:=by simp
  rw[this,e];simp
 have rep:Gg ((z::y::t)++[z]):=by
  intro l a b s e
  match s with
  | c::s=>exact (Cv (bendR l a b c s e)).1
  | [] =>
   have:(z::y::t)++[z,y]=l++a::b::[y]:=by
    have:(z::y::t)++[z,y]=((z::y::t)++[z])++[y]:=by simp
    rw[this,e];simp
   exact (Cv (H.bend l a b y [] this)).1
 have memR:∀q∈(z::y::t)++[z],q∈L:=by
  intro q hq
  rcases cH.mp hq with h | h
  ·exact H.mem q h
  ·simp at h;subst h;exact H.mem _ (by simp)
 have hz:z∈L:=H.mem z (by simp)
 have dip:Gf ((z::y::t)++[z]):=by
  intro l a b c s e ⟨h1,h2⟩
  have nb:=HG h1 h2 (bendR l a b c s e) (H.side l a b (c::s) e z hz) (H.side (l++[a]) b c s (by rw[e];simp) z hz)
  exact nb (H.least b (Dz e))
 obtain⟨A,m,B,e,iA,dB⟩:=WD _ (by simp) dip rep
 have hA:∃A',A=z::A':=by
  match A,e with
  | [],e =>
   exfalso
   simp at e
   obtain⟨rfl,e5⟩:=e
   have hy:y∈B:=by rw[<-e5];simp
   exact rX zlty ((bW.mp dB).1 y hy)
  | x::A',e=>simp at e;exact⟨A',by rw[e.1]⟩
 obtain⟨A',rfl⟩:=hA
 have hB:∃B',B=B'++[z]:=by
  rcases eW B with rfl | ⟨B',x,rfl⟩
  ·exfalso
   have e':(z::y::t)++[z]=(z::A')++[m]:=e
   have:=gP e' rfl
   simp at this
   subst this
   exact rN ((bW.mp iA).1 z (by simp))
  ·have e':(z::y::t)++[z]=(z::A'++m::B')++[x]:=by rw[e];simp
   have:=gP e' rfl
   simp at this
   exact⟨B',by rw[this];simp⟩
 obtain⟨B',rfl⟩:=hB
 have e2:(z::y::t)++[z]=(z::A'++m::B')++[z]:=by rw[e];simp
 have er:z::y::t=z::A'++m::B':=pR e2 rfl
 have minL:∀q∈L,¬ltP q z:=by
  intro q hq
  rcases eW (y::t) with h | ⟨u,x,hu⟩
  ·simp at h
  ·have e3:(z::y::t)++[z,y]=(z::u)++x::z::y::[]:=by rw[hu];simp
   have hx:ltP z x:=H.least x (by rw[hu];simp)
   exact HG hx zlty (H.bend _ _ _ _ _ e3) (H.side (z::u) x z [] (by rw[hu];simp) q hq) (H.side [] z y (t++[z]) (by simp) q hq)
 have maxL:∀q∈L,¬ltP m q:=by
  intro q hq
  rcases eW (z::A') with h | ⟨u,x,hu⟩
  ·simp at h
  ·have hxm:ltP x m:=by
    have iA':=iA
    rw[hu] at iA'
    exact (gI.mp iA').2.2 x (by simp) m (by simp)
   match hB':B'++[z],dB with
   | [],_=>simp at hB'
   | c::s,dB =>
    have e3:(z::y::t)++[z]=u++x::m::c::s:=by rw[e,<-hB',hu];simp
    have hcm:ltP c m:=by
     exact (bW.mp dB).1 c (by simp)
    exact Es hxm hcm (bendR _ _ _ _ _ e3) (H.side _ _ _ _ e3 q hq) (H.side (u++[x]) m c s (by rw[e3];simp) q hq)
 have low:LowChain L (z::A'++[m]):=by
  refine⟨iA,λq hq=>memR q ?_,λq hq c r ec=>?_,λq hq c l ec=>?_,λl a b r ec q hq=>?_,λl a b c r ec=>?_⟩
  ·rw[e];simp at hq ⊢;rcases hq with h | h | h <;> simp[h]
  ·simp at ec;rw[<-ec.1];exact minL q hq
  ·have:=gP ec rfl
   simp at this;rw[<-this];exact maxL q hq
  ·refine H.side l a b (r++(B'++[z])) ?_ q hq
   have:z::A'++m::(B'++[z])=(z::A'++[m])++(B'++[z]):=by simp
   rw[e,this,ec];simp
  ·refine bendR l a b c (r++(B'++[z])) ?_
   have:z::A'++m::(B'++[z])=(z::A'++[m])++(B'++[z]):=by simp
   rw[e,this,ec];simp
 have negmem:∀q∈L.map iB,∃p∈L,q=iB p:=by
  intro q hq
  obtain⟨p,hp,rfl⟩:=cK.mp hq
  exact⟨p,hp,rfl⟩
 have eN:∀(X Y:List Pt),X.map iB=Y->X=Y.map iB:=by
  rintro X Y rfl
  rw[cZ]
  have e:iB ∘ iB=id:=by funext p;exact zL p
  rw[e,mE]
 have up:LowChain (L.map iB) ((m::(B'++[z])).map iB):=by
  refine⟨DM dB,λq hq=>?_,λq hq c r ec=>?_,λq hq c l ec=>?_,λl a b r ec q hq=>?_,λl a b c r ec=>?_⟩
  ·obtain⟨p,hp,rfl⟩:=cK.mp hq
   refine fS (memR p ?_)
   rw[e]
   exact bK _ hp
  ·obtain⟨p,hp,rfl⟩:=negmem q hq
   simp at ec
   rw[<-ec.1,wR]
   exact maxL p hp
  ·obtain⟨p,hp,rfl⟩:=negmem q hq
   have ec':(m::B').map iB++[iB z]=l++[c]:=by simpa using ec
   have:=gP ec' rfl
   simp at this
   rw[<-this,wR]
   exact minL p hp
  ·obtain⟨p,hp,rfl⟩:=negmem q hq
   have ec':=eN _ _ ec
   simp only[dN,aU] at ec'
   have:=H.side (z::A'++l.map iB) (iB a) (iB b) (r.map iB) (by rw[e,ec'];simp) p hp
   rw[<-rY,zL,zL] at this
   exact this
  ·have ec':=eN _ _ ec
   simp only[dN,aU] at ec'
   have:=bendR (z::A'++l.map iB) (iB a) (iB b) (iB c) (r.map iB) (by rw[e,ec'];simp)
   rw[rY] at this
   exact this
 have h1:=VC iL low (by simp)
 have h2:=Mg iL up (by simp)
 unfold rD
 rw[h1,h2,er]
 have:m::(B'++[z])=(m::B')++[z]:=by simp
 rw[this,mD,mD]
def YA (L:List Pt):Prop:=L.Pairwise λx y=>¬ltP y x
theorem QI (p:Pt):∀s,iG p (iG p s)=iG p s
 | []=>rfl
 | [_]=>rfl
 | b::a::r=>by
  by_cases h:cM a b p<=0
  ·rw[iG,if_pos h];exact QI p (a::r)
  ·have e:iG p (b::a::r)=b::a::r:=by rw[iG,if_neg h]
   rw[e,e]
theorem Fy (a p:Pt):cM a p p<=0:=by
 unfold cM
 have:(p.1-a.1)*(p.2-a.2)-(p.2-a.2)*(p.1-a.1)=0:=by grind
 omega
theorem NP (a p:Pt):cM a a p<=0:=by
 unfold cM
 have:(a.1-a.1)*(p.2-a.2)-(a.2-a.2)*(p.1-a.1)=0:=by grind
 omega
theorem qA (L:List Pt) (p:Pt):iV (L++[p])=p::iG p (iV L):=by unfold iV;rw[tM];rfl
theorem Ih:∀(L:List Pt),(iV L).length<=L.length:=by
 have sub:∀(L s:List Pt),(L.foldl (λs p=>p::iG p s) s).length<=L.length+s.length:=by
  intro L
  induction L with
  | nil=>intro s;simp
  | cons y L ih =>
   intro s
   have i2:=ih (y::iG y s)
   have:=(vJ y s).length_le
   simp only[nU,bJ] at i2 ⊢
   omega
 intro L;simpa [iV] using sub L []
structure DupOk (L D:List Pt):Prop where
 inc:Inc D
 mem:∀z,z∈D↔z∈L
 many:2<=D.length->iV L=iV D
 one:∀c,D=[c]->iV L=[c]\/iV L=[c,c]
 none:D=[]->iV L=[]
theorem Ny {α:Type} {P:List α->Prop} (h0:P []) (h1:∀l x,P l->P (l++[x])):∀l,P l:=by
 intro l
 have:∀m:List α,P m.reverse:=by
  intro m
  induction m with
  | nil=>exact h0
  | cons x m ih=>rw[tN];exact h1 _ _ ih
 have:=this l.reverse
 rwa [List.reverse_reverse] at this
theorem Hv:∀(L:List Pt),YA L->∃D,DupOk L D:=by
 refine Ny ?_ ?_
 ·intro _
  exact⟨[],jU,λz=>Iff.rfl,λh=>absurd h (by simp),λc h=>by simp at h,λ_=>rfl⟩
 ·intro L p ih hw
  have hw':=gI.mp hw
  obtain⟨D,H⟩:=ih hw'.1
  have top:∀z∈L,¬ltP p z:=λz hz=>hw'.2.2 z hz p (by simp)
  rcases eW D with hD | ⟨D',c,hD⟩
  ·-- nothing so far
   have hL:L=[]:=by
    apply List.eq_nil_iff_forall_not_mem.mpr
    intro z hz
    have:=(H.mem z).mpr hz
    rw[hD] at this;cases this
   subst hL
   refine⟨[p],by simp[Inc],λz=>by simp,λh=>absurd h (by simp),λc h=>?_,λh=>by simp at h⟩
   simp at h;subst h
   exact eD rfl
  ·have hD:D=D'++[c]:=by simpa using hD
   subst hD
   have hcL:c∈L:=(H.mem c).mp (by simp)
   have cl:∀z∈D'++[c],z=c\/ltP z c:=by
    intro z hz
    rcases cH.mp hz with h | h
    ·exact eJ ((gI.mp H.inc).2.2 z h c (by simp))
    ·exact eD (by simpa using h)
   by_cases hpc:p=c
   ·subst hpc
    refine⟨D'++[p],H.inc,λz=>?_,λh2=>?_,λc hc=>?_,λh=>by simp at h⟩
    ·rw[H.mem z];simp only[cH,cG]
     exact⟨eD,λh=>h.elim id λe=>e ▸ hcL⟩
    ·rw[qA,H.many h2,qA]
     have hne:iV D'≠[]:=by
      rcases eW D' with h | ⟨D'',d,h⟩
      ·rw[h] at h2;simp at h2
      ·have:D'=D''++[d]:=by simpa using h
       rw[this,qA];simp
     have hne2:=Cd p _ hne
     generalize hu:iG p (iV D')=u at hne2
     cases u with
     | nil=>exact absurd rfl hne2
     | cons a r =>
      rw[iG,if_pos (Fy a p)]
      congr 1
      rw[<-hu,QI]
    ·have hD':D'=[]/\p=c:=by
      cases D' with
      | nil=>simp at hc;exact⟨rfl,hc⟩
      | cons x D'=>simp at hc
     obtain⟨rfl,rfl⟩:=hD'
     rw[qA]
     rcases H.one p rfl with e | e
     ·rw[e];exact eJ rfl
     ·rw[e,iG,if_pos (NP p p)];exact eJ rfl
   ·have ltcp:ltP c p:=by
     rcases rO c p with h | h | h
     ·exact h
     ·exact absurd h.symm hpc
     ·exact absurd h (top c hcL)
    have inc2:Inc ((D'++[c])++[p]):=by
     refine gI.mpr ⟨H.inc,by simp,λz hz w hw=>?_⟩
     have:w=p:=by simpa using hw
     subst this
     rcases cl z hz with rfl | h
     ·exact ltcp
     ·exact qD h ltcp
    refine⟨(D'++[c])++[p],inc2,λz=>?_,λ_=>?_,λd hd=>by have:=congrArg gU hd;simp at this,λh=>by simp at h⟩
    ·rw[cH,H.mem z,cH]
    ·rw[qA,qA (D'++[c])]
     by_cases h2:2<=(D'++[c]).length
     ·rw[H.many h2]
     ·have:D'=[]:=by
       cases D' with
       | nil=>rfl
       | cons x D'=>simp at h2
      subst this
      rcases H.one c rfl with e | e
      ·rw[e];rfl
      ·rw[e,iG,if_pos (NP c p)];rfl
theorem UQ {L D:List Pt} (hw:YA L) (iD:Inc D) (hm:∀z,z∈D↔z∈L):(2<=D.length->iV L=iV D)/\(D.length<=1->(iV L).length<=2):=by
 obtain⟨D1,H⟩:=Hv L hw
 have:D1=D:=SE _ _ H.inc iD λq=>(H.mem q).trans (hm q).symm
 subst this
 refine⟨H.many,λh=>?_⟩
 match D1,H,h with
 | [],H,_=>rw[H.none rfl];simp
 | [c],H,_=>rcases H.one c rfl with e | e <;> rw[e] <;> simp
 | _::_::_,_,h=>simp at h
def BT (L:List Pt):List Pt:=rD L++rD L.reverse
theorem UR {L D:List Pt} (hw:YA L) (iD:Inc D) (hm:∀z,z∈D↔z∈L):(2<=D.length->BT L=BT D)/\(D.length<=1->(BT L).length<3):=by
 have a:=UQ hw iD hm
 have wn:YA (L.reverse.map iB):=by
  unfold YA
  rw[jV,lJ]
  exact hw.imp λh k=>h (wR.mp k)
 have iN:Inc (D.reverse.map iB):=DM (lJ.mpr iD)
 have b:=UQ wn iN λz=>by simp only[cK,mO];constructor <;> (rintro⟨w,h1,h2⟩;exact⟨w,by first | exact (hm w).mp h1 | exact (hm w).mpr h1,h2⟩)
 rw[LQ,LQ] at b
 simp only[aS,rB] at b
 have inj:∀(X Y:List Pt),X.map iB=Y.map iB->X=Y:=by
  intro X Y h
  have:=congrArg (qL iB) h
  rw[cZ,cZ] at this
  have e:iB ∘ iB=id:=by funext p;exact zL p
  rwa [e,mE,mE] at this
 constructor
 ·intro h
  unfold BT rD
  rw[a.1 h,inj _ _ (b.1 h)]
 ·intro h
  have h1:=a.2 h
  have h2:=b.2 h
  unfold BT rD
  simp only[bV,yL,rB]
  exact CY (Nat.add_le_add (yS h1 1) (yS h2 1)) (by decide)
def Nxt (L:List Pt) (a b:Pt):Prop:=∃l r,L=l++a::b::r
theorem Nxt.cons {L:List Pt} {a b:Pt} (x:Pt) (h:Nxt L a b):Nxt (x::L) a b:=by
 obtain⟨l,r,rfl⟩:=h;exact⟨x::l,r,rfl⟩
theorem Nxt.left {A:List Pt} {a b:Pt} (B:List Pt) (h:Nxt A a b):Nxt (A++B) a b:=by
 obtain⟨l,r,rfl⟩:=h;exact⟨l,r++B,by simp⟩
theorem Nxt.right {B:List Pt} {a b:Pt} (A:List Pt) (h:Nxt B a b):Nxt (A++B) a b:=by
 obtain⟨l,r,rfl⟩:=h;exact⟨A++l,r,by simp⟩
theorem MI:∀(A B:List Pt) (a b:Pt),Nxt (A++B) a b->Nxt A a b\/((∃A',A=A'++[a])/\∃B',B=b::B')\/Nxt B a b
 | [],B,a,b,h=>eJ (eJ h)
 | [x],B,a,b,⟨l,r,e⟩=>by
  cases l with
  | nil =>
   simp at e
   obtain⟨rfl,e⟩:=e
   exact eJ (eD ⟨⟨[],rfl⟩,r,e⟩)
  | cons y l=>simp at e;exact eJ (eJ ⟨l,r,e.2⟩)
 | x::y::A,B,a,b,⟨l,r,e⟩=>by
  cases l with
  | nil =>
   simp at e
   obtain⟨rfl,rfl,e⟩:=e
   exact eD ⟨[],A,rfl⟩
  | cons u l =>
   simp at e
   obtain⟨rfl,e⟩:=e
   rcases MI (y::A) B a b ⟨l,r,by simpa using e⟩ with h | ⟨⟨A',h1⟩,h2⟩ | h
   ·exact eD (h.cons x)
   ·exact eJ (eD ⟨⟨x::A',by rw[h1];rfl⟩,h2⟩)
   ·exact eJ (eJ h)
theorem Nb {f:Pt->Pt} {L:List Pt} {a b:Pt} (h:Nxt (L.map f) a b):∃x y,Nxt L x y/\a=f x/\b=f y:=by
 obtain⟨l,r,e⟩:=h
 obtain⟨l1,l2,rfl,rfl,e2⟩:=wC.mp e
 obtain⟨x,l3,rfl,rfl,e3⟩:=yN.mp e2
 obtain⟨y,l4,rfl,rfl,e4⟩:=yN.mp e3
 exact⟨x,y,⟨l1,l4,rfl⟩,rfl,rfl⟩
theorem Nxt.mem {L:List Pt} {a b:Pt} (h:Nxt L a b):a∈L/\b∈L:=by
 obtain⟨l,r,rfl⟩:=h;simp
def Cyc (cs:List Pt) (a b:Pt):Prop:=Nxt (cs++cs.take 1) a b
structure Cvx (cs:List Pt):Prop where
 len:3<=cs.length
 nodup:cs.Nodup
 strict:∀a b,Cyc cs a b->∀q∈cs,q≠a->q≠b->0<cM a b q
theorem Si (a b:Pt):cM a b a=0:=by unfold cM;grind
theorem Sj (a b:Pt):cM a b b=0:=by unfold cM;grind
theorem Cvx.side {cs:List Pt} (h:Cvx cs) {a b:Pt} (hab:Cyc cs a b) {q:Pt} (hq:q∈cs):0<=cM a b q:=by
 by_cases h1:q=a
 ·subst h1;rw[Si];decide
 ·by_cases h2:q=b
  ·subst h2;rw[Sj];decide
  ·exact Int.le_of_lt (h.strict a b hab q hq h1 h2)
theorem Cvx.map {cs:List Pt} (h:Cvx cs) {f:Pt->Pt} {k:Int} (hk:0<k) (hf:∀a b c,cM (f a) (f b) (f c)=k*cM a b c) (inj:∀a b,f a=f b->a=b):Cvx (cs.map f):=by
 refine⟨by simpa using h.len,?_,λa b hab q hq n1 n2=>?_⟩
 ·exact jT f (λa b hn e=>hn (inj a b e)) h.nodup
 ·unfold Cyc at hab
  rw[<-AZ,<-dN] at hab
  obtain⟨x,y,hxy,rfl,rfl⟩:=Nb hab
  obtain⟨p,hp,rfl⟩:=cK.mp hq
  rw[hf]
  exact bZ hk (h.strict x y hxy p hp (λe=>n1 (by rw[e])) λe=>n2 (by rw[e]))
theorem Go {X Y:List Pt} {a b:Pt} (h:Cyc (Y++X) a b):Cyc (X++Y) a b:=by
 unfold Cyc at *
 cases Y with
 | nil=>simpa using h
 | cons y Y =>
  cases X with
  | nil=>simpa using h
  | cons x X =>
   simp only[cD,AQ,List.take_zero] at h ⊢
   have e:y::(Y++x::X++[y])=(y::Y)++((x::X)++[y]):=by simp
   rw[e] at h
   have goal1:∀{a b},Nxt ((x::X)++[y]) a b->Nxt (x::(X++y::Y++[x])) a b:=by
    intro a b h
    have:=h.left (Y++[x])
    simpa using this
   have goal2:∀{a b},Nxt ((y::Y)++[x]) a b->Nxt (x::(X++y::Y++[x])) a b:=by
    intro a b h
    have:=h.right (x::X)
    simpa using this
   rcases MI _ _ a b h with h | ⟨⟨A',h1⟩,B',h2⟩ | h
   ·exact goal2 (h.left _)
   ·simp at h2
    refine goal2 ?_
    rw[h1,<-h2.1]
    exact⟨A',[],by simp⟩
   ·exact goal1 h
theorem Cvx.swap {X Y:List Pt} (h:Cvx (X++Y)):Cvx (Y++X):=by
 refine⟨by have:=h.len;simp at this ⊢;omega,?_,λa b hab q hq=>h.strict a b (Go hab) q (by simp at hq ⊢;exact hq.symm)⟩
 have:=h.nodup
 rw[oU] at this ⊢
 exact⟨this.2.1,this.1,λa ha b hb e=>this.2.2 b hb a ha e.symm⟩
theorem Cyc.mem {cs:List Pt} {a b:Pt} (h:Cyc cs a b):a∈cs/\b∈cs:=by
 have k:∀x,x∈cs++cs.take 1->x∈cs:=λx hx=>(cH.mp hx).elim id yQ
 exact⟨k a (Nxt.mem h).1,k b (Nxt.mem h).2⟩
theorem len_sub {α:Type} [DecidableEq α]:∀(l m:List α),l.Nodup->(∀x∈l,x∈m)->l.length<=m.length
 | [],_,_,_=>dY _
 | x::l,m,hn,hs=>by
  have hx:=hs x (.head _)
  have hn':=fL.mp hn
  have:=len_sub l (m.erase x) hn'.2 λy hy=>(yO λ(e:y=x)=>hn'.1 (e ▸ hy)).mpr (hs y (.tail _ hy))
  rw[uB hx] at this
  exact dQ (uZ this) (wE (Nat.succ_pred_eq_of_pos (wB hx)))
theorem Cvx.third {cs:List Pt} (c:Cvx cs) (u v:Pt):∃w∈cs,w≠u/\w≠v:=by
 apply jP
 intro hn
 have:=len_sub cs [u,v] c.nodup λw hw=>by
  by_cases h1:w=u
  ·exact h1 ▸ .head _
  ·by_cases h2:w=v
   ·exact h2 ▸ .tail _ (.head _)
   ·exact absurd ⟨w,hw,h1,h2⟩ hn
 exact absurd (dQ c.len this) (show ¬ 3<=2 by decide)
theorem Cvx.ne {cs:List Pt} (c:Cvx cs) {u v:Pt} (h:Cyc cs u v):u≠v:=by
 obtain⟨w,hw,n1,n2⟩:=c.third u v
 rintro rfl
 have:=c.strict u u h w hw n1 n2
 rw[show cM u u w=0 by unfold cM;grind] at this
 exact qI _ this
theorem My {cs:List Pt} (c:Cvx cs) {u v:Pt} (h:Cyc cs u v) (h':Cyc cs v u):False:=by
 obtain⟨w,hw,w1,w2⟩:=c.third u v
 have t1:=c.strict _ _ h w hw w1 w2
 rw[show cM u v w = - cM v u w by unfold cM;grind] at t1
 exact Int.lt_asymm (c.strict _ _ h' w hw w2 w1) (Int.neg_pos.mp t1)
theorem Cvx.bend {R:List Pt} (h:Cvx R) {l r:List Pt} {a b c:Pt} (e:R++R.take 2=l++a::b::c::r):0<cM a b c:=by
 obtain⟨x,y,R',eR⟩:∃x y R',R=x::y::R':=by
  match R,h.len with
  | x::y::R',_=>exact⟨x,y,R',rfl⟩
 have t1:R.take 1=[x]:=by rw[eR];rfl
 have t2:R++R.take 2=(R++R.take 1)++[y]:=by rw[t1,fT,eR];rfl
 rw[t2] at e
 have ⟨ab,bc⟩:Cyc R a b/\Cyc R b c:=by
  rcases eW r with rfl | ⟨r',w,rfl⟩
  ·have e':(R++R.take 1)++[y]=(l++[a,b])++[c]:=by rw[e,fT];rfl
   have k:=pR e' rfl
   have ec:=gP e' rfl
   injection ec with ec _
   refine⟨⟨l,[],k⟩,?_⟩
   have k':R++[x]=(l++[a])++[b]:=by rw[<-t1,k,fT];rfl
   have eb:=gP k' rfl
   injection eb with eb _
   rw[<-eb,<-ec]
   exact⟨[],R'++[x],by rw[t1,eR];rfl⟩
  ·have e':(R++R.take 1)++[y]=(l++a::b::c::r')++[w]:=by rw[e,fT,xQ];rfl
   have k:=pR e' rfl
   exact⟨⟨l,c::r',k⟩,l++[a],r',by rw[k,fT];rfl⟩
 exact h.strict a b ab c bc.mem.2 (λhc=>My h ab (hc ▸ bc)) λhc=>h.ne bc hc.symm
theorem TF {L D:List Pt} {z:Pt} {T:List Pt} (iD:Inc D) (h:Cvx (z::T)) (least:∀q∈T,¬ltP q z) (mem:∀q∈z::T,q∈D) (left:∀a b,Cyc (z::T) a b->∀q∈D,0<=cM a b q):BT D=z::T:=by
 obtain⟨y,t,rfl⟩:∃y t,T=y::t:=by
  have:=h.len
  cases T with
  | nil=>simp at this
  | cons y t=>exact⟨y,t,rfl⟩
 refine Fp iD ⟨mem,λq hq=>?_,λl a b r e=>left a b ⟨l,r,e⟩,λl a b c r e=>h.bend (l:=l) (r:=r) e⟩
 rcases rO z q with h' | h' | h'
 ·exact h'
 ·subst h';exact absurd hq (fL.mp h.nodup).1
 ·exact absurd h' (least q hq)
section
open PySem PySem.Spec PyProof.Rows L2
inductive D where
 | non | bl (b:Bool) | int (i:Int) | str (x:Str) | tup (xs:List D) | lst (xs:List D) | dct (ks:List Int) (xs:List D) | dtt (ks:List (List Int)) (xs:List D)
def FzL (K:aF) (H:Hp) (a:Addr) (vs:List V):Prop :=
 (∃o,H a=some (.frz o (.lst vs))) \/
  ∃(o:Obj) (its:Array aB) (n:Nat),K.lookup a=some o/\o.cls = .type "list"/\o.dict=none/\o.data = .seq its n/\its.size<=sizeLine/\Vals vs its.toList
theorem FzL.sq {K:aF} {H:Hp} {a:Addr} {vs:List V}:FzL K H a vs->SqL K H a vs
 | .inl ⟨o,h⟩=>.inl (.inr ⟨o,h⟩)
 | .inr h=>.inr h
def Vq (col:Nat):Str:=if col=28 then "rising.<locals>.<lambda>" else if col=59 then "framed_rising.<locals>.<lambda>" else "laid_triangles.<locals>.<lambda>"
abbrev Sm (c:Addr) (q:Str):HO:=.ext λh=>∃oc vs t,h.get? c=some oc/\oc.data = .fields vs/\vs[1]? = some (.str q t)
structure LamOk (H:Hp) (ps:Array aB):Prop where
 ok:TriplesOk ps.toList
 code:∀pos cv,codeAmong pos ps.toList=some cv->∃c,cv = .ref c/\H c=some (Sm c (Vq pos.col))
def LamK (H H':Hp):Prop:=∀b ps,H b=some (.tbl ps)->∃more,H' b=some (.tbl (ps++more))/\(LamOk H ps->LamOk H' (ps++more))
theorem LamK.trans {H H1 H2:Hp} (a:LamK H H1) (b:LamK H1 H2):LamK H H2:=λc ps h=>by
 obtain⟨m1,e1,f1⟩:=a c ps h
 obtain⟨m2,e2,f2⟩:=b c _ e1
 exact⟨m1++m2,by rw[e2,rZ],λx=>by rw[<-rZ];exact f2 (f1 x)⟩
theorem LamOk.mono {H H':Hp} {ps:Array aB} (x:LamOk H ps) (k:∀b φ,H b=some (.ext φ)->H' b=some (.ext φ)):LamOk H' ps:=⟨x.ok,λpos cv e=>let ⟨c,e1,e2⟩:=x.code pos cv e;⟨c,e1,k _ _ e2⟩⟩
theorem LamK.of {H H':Hp} (k:∀b φ,H b=some (.ext φ)->H' b=some (.ext φ)) (h:∀b ps,H b=some (.tbl ps)->H' b=some (.tbl ps)):LamK H H':=λb ps e=>⟨#[],by rw[CI];exact h b ps e,λx=>by rw[CI];exact x.mono k⟩
def NT:HO->Prop
 | .tbl _=>False
 | _=>True
structure Keep (H H':Hp):Prop where
 tups:∀b xs,H b=some (.tup xs)->H' b=some (.tup xs)
 frzs:∀b o u,H b=some (.frz o u)->H' b=some (.frz o u)
 exts:∀b φ,H b=some (.ext φ)->H' b=some (.ext φ)
 xds:∀b fs,H b=some (.xd fs)->H' b=some (.xd fs)
 tbls:LamK H H'
theorem Keep.refl (H:Hp):Keep H H:=⟨λ_ _ h=>h,λ_ _ _ h=>h,λ_ _ h=>h,λ_ _ h=>h,.of (λ_ _ h=>h) λ_ _ h=>h⟩
theorem Keep.trans {H H1 H2:Hp} (a:Keep H H1) (b:Keep H1 H2):Keep H H2 :=
 ⟨λc xs h=>b.tups c xs (a.tups c xs h),λc o u h=>b.frzs c o u (a.frzs c o u h),λc φ h=>b.exts c φ (a.exts c φ h),λc fs h=>b.xds c fs (a.xds c fs h),a.tbls.trans b.tbls⟩
structure Same (H H':Hp):Prop where
 get:∀b o,H b=some o->NT o->H' b=some o
 tbls:LamK H H'
theorem Same.fn {H H':Hp} (f:∀b o,H b=some o->H' b=some o):Same H H':=⟨λb o h _=>f b o h,.of (λb φ h=>f b _ h) λb ps h=>f b _ h⟩
theorem Same.refl (H:Hp):Same H H:=.fn λ_ _ h=>h
theorem Same.trans {H H1 H2:Hp} (a:Same H H1) (b:Same H1 H2):Same H H2:=⟨λc o h n=>b.get c o (a.get c o h n) n,a.tbls.trans b.tbls⟩
theorem Same.free {H H':Hp} (e:Same H H') {l:Addr} (h:H' l=yT):H l=yT:=by
 cases q:H l with
 | none=>rfl
 | some o =>
  cases o with
  | tbl ps=>obtain⟨m,e1,_⟩:=e.tbls l ps q;rw[e1] at h;cases h
  | _=>rw[e.get l _ q trivial] at h;cases h
theorem Same.there {H H':Hp} (s:Same H H') {b:Addr} {o:HO} (h:H b=some o):∃o',H' b=some o':=by
 cases q:H' b with
 | none=>rw[s.free q] at h;cases h
 | some o'=>exact⟨o',rfl⟩
theorem Same.tbl {H H':Hp} (s:Same H H') {b:Addr} {ps:Array aB} (h:H b=some (.tbl ps)):∃more,H' b=some (.tbl (ps++more)):=let ⟨m,e,_⟩:=s.tbls b ps h;⟨m,e⟩
theorem Keep.of {H H':Hp} (s:Same H H'):Keep H H':=⟨λb xs h=>s.get b _ h trivial,λb o u h=>s.get b _ h trivial,λb φ h=>s.get b _ h trivial,λb fs h=>s.get b _ h trivial,s.tbls⟩
theorem Keep.ofF {H H':Hp} (f:∀b o,H b=some o->H' b=some o):Keep H H':=.of (.fn f)
def SJ:List Str:=["rising","framed_rising","laid_triangles"]
def TabsIn (K:aF) (H:Hp):Prop:=∀x c P,x∈SJ->OF K x=some (c,P)->∃ps,H P=some (.tbl ps)/\LamOk H ps
theorem TabsIn.tabK {K:aF} {H H':Hp} (t:TabsIn K H) (k:LamK H H'):TabsIn K H':=λx c P m e=>by
 obtain⟨ps,h1,h2⟩:=t x c P m e
 obtain⟨more,h3,h4⟩:=k P ps h1
 exact⟨_,h3,h4 h2⟩
theorem Keep.chg1 {H:Hp} {p:Addr} {u u':HO} (h:H p=some u) (n:(∃xs,u = .lst xs)\/(∃kvs,u = .dK kvs)\/∃kvs,u = .dT kvs):Keep H (upd H p u'):=by
 have ne:∀b o,H b=some o->(∀xs,o≠.lst xs)->(∀kvs,o≠.dK kvs)->(∀kvs,o≠.dT kvs)->upd H p u' b=some o:=λb o q n1 n2 n3=>by
  rw[bM]
  ·exact q
  ·rintro rfl
   rw[h] at q;cases q
   rcases n with ⟨xs,rfl⟩ | ⟨kvs,rfl⟩ | ⟨kvs,rfl⟩
   ·exact n1 _ rfl
   ·exact n2 _ rfl
   ·exact n3 _ rfl
 exact⟨λb _ q=>ne b _ q (λ_ z=>by cases z) (λ_ z=>by cases z) (λ_ z=>by cases z),λb _ _ q=>ne b _ q (λ_ z=>by cases z) (λ_ z=>by cases z) (λ_ z=>by cases z),λb _ q=>ne b _ q (λ_ z=>by cases z) (λ_ z=>by cases z) (λ_ z=>by cases z),λb _ q=>ne b _ q (λ_ z=>by cases z) (λ_ z=>by cases z) (λ_ z=>by cases z),
  .of (λb _ q=>ne b _ q (λ_ z=>by cases z) (λ_ z=>by cases z) (λ_ z=>by cases z)) λb _ q=>ne b _ q (λ_ z=>by cases z) (λ_ z=>by cases z) (λ_ z=>by cases z)⟩
def vF (ks:List Int) (vs:List V):List (Key × V):=rL (λk v=>(fG k,v)) ks vs
def wO (ks:List (List Int)) (vs:List V):List (List Key × V):=rL (λk v=>(k.map fG,v)) ks vs
mutual
inductive Rep (K:aF) (H:Hp):D->V->Prop
 | non:Rep K H .non .non
 | bl (b:Bool):Rep K H (.bl b) (.bl b)
 | int (i:Int):Rep K H (.int i) (.int i)
 | str (x:Str):Rep K H (.str x) (.str x)
 | tup {a:Addr} {vs:List V} {ds:List D} (h:H a=some (.tup vs)) (r:Reps K H ds vs):Rep K H (.tup ds) (.ref a)
 | lst {a:Addr} {vs:List V} {ds:List D} (h:FzL K H a vs) (r:Reps K H ds vs):Rep K H (.lst ds) (.ref a)
 | dct {a:Addr} {vs:List V} {ds:List D} {ks:List Int} {o:Obj} (h:H a=some (.frz o (.dK (vF ks vs)))) (hl:ks.length=vs.length) (r:Reps K H ds vs):Rep K H (.dct ks ds) (.ref a)
 | dtt {a:Addr} {vs:List V} {ds:List D} {ks:List (List Int)} {o:Obj} (h:H a=some (.frz o (.dT (wO ks vs)))) (hl:ks.length=vs.length) (r:Reps K H ds vs):Rep K H (.dtt ks ds) (.ref a)
inductive Reps (K:aF) (H:Hp):List D->List V->Prop
 | nil:Reps K H [] []
 | cons {d:D} {v:V} {ds:List D} {vs:List V} (h:Rep K H d v) (t:Reps K H ds vs):Reps K H (d::ds) (v::vs)
end
section
variable {K:aF} {H H':Hp}
theorem FzL.keep {a:Addr} {vs:List V} (k:Keep H H') (h:FzL K H a vs):FzL K H' a vs:=by
 rcases h with ⟨o,h⟩ | h
 ·exact .inl ⟨o,k.frzs _ _ _ h⟩
 ·exact .inr h
mutual
theorem Rep.keep (k:Keep H H'):∀{d:D} {v:V},Rep K H d v->Rep K H' d v
 | _,_,.non=>.non
 | _,_,.bl b=>.bl b
 | _,_,.int i=>.int i
 | _,_,.str x=>.str x
 | _,_,.tup h r=>.tup (k.tups _ _ h) (Reps.keep k r)
 | _,_,.lst h r=>.lst (FzL.keep k h) (Reps.keep k r)
 | _,_,.dct h hl r=>.dct (k.frzs _ _ _ h) hl (Reps.keep k r)
 | _,_,.dtt h hl r=>.dtt (k.frzs _ _ _ h) hl (Reps.keep k r)
theorem Reps.keep (k:Keep H H'):∀{ds:List D} {vs:List V},Reps K H ds vs->Reps K H' ds vs
 | _,_,.nil=>.nil
 | _,_,.cons h t=>.cons (Rep.keep k h) (Reps.keep k t)
end
theorem Reps.length:∀{ds:List D} {vs:List V},Reps K H ds vs->ds.length=vs.length
 | _,_,.nil=>rfl
 | _,_,.cons _ t=>by simp[Reps.length t]
theorem Reps.get:∀{ds:List D} {vs:List V} {i:Nat} {d:D},Reps K H ds vs->ds[i]? = some d->∃v,vs[i]? = some v/\Rep K H d v
 | _,_,_,_,.nil,e=>by simp at e
 | _,_,0,_,.cons h _,e=>by simp at e;subst e;exact⟨_,rfl,h⟩
 | _,_,i+1,d,.cons _ t,e=>by
  obtain⟨v,h1,h2⟩:=Reps.get (i:=i) (d:=d) t (by simpa using e)
  exact⟨v,by simpa using h1,h2⟩
theorem Reps.append:∀{ds es:List D} {vs us:List V},Reps K H ds vs->Reps K H es us->Reps K H (ds++es) (vs++us)
 | _,_,_,_,.nil,s=>s
 | _,_,_,_,.cons h t,s=>.cons h (Reps.append t s)
theorem Reps.take:∀{ds:List D} {vs:List V} (n:Nat),Reps K H ds vs->Reps K H (ds.take n) (vs.take n)
 | _,_,0,_=>.nil
 | _,_,_+1,.nil=>.nil
 | _,_,n+1,.cons r t=>.cons r (Reps.take n t)
theorem Reps.drop:∀{ds:List D} {vs:List V} (n:Nat),Reps K H ds vs->Reps K H (ds.drop n) (vs.drop n)
 | _,_,0,r=>r
 | _,_,_+1,.nil=>.nil
 | _,_,n+1,.cons _ t=>Reps.drop n t
theorem Reps.dropLast:∀{ds:List D} {vs:List V},Reps K H ds vs->Reps K H ds.dropLast vs.dropLast
 | _,_,.nil=>.nil
 | _,_,.cons _ .nil=>.nil
 | _,_,.cons r (.cons r2 t)=>by
  simp only[OA]
  exact .cons r (Reps.dropLast (.cons r2 t))
theorem Reps.reverse:∀{ds:List D} {vs:List V},Reps K H ds vs->Reps K H ds.reverse vs.reverse
 | _,_,.nil=>.nil
 | _,_,.cons r t=>by
  simp only[tN]
  exact (Reps.reverse t).append (.cons r .nil)
theorem Rep.int_inv {i:Int} {v:V} (h:Rep K H (.int i) v):v = .int i:=by cases h;rfl
theorem Rep.bl_inv {b:Bool} {v:V} (h:Rep K H (.bl b) v):v = .bl b:=by cases h;rfl
theorem Reps.ints:∀{ns:List Int},Reps K H (ns.map D.int) (ns.map V.int)
 | []=>.nil
 | _::_=>.cons (.int _) Reps.ints
theorem Reps.ints_inv:∀{ns:List Int} {vs:List V},Reps K H (ns.map D.int) vs->vs=ns.map V.int
 | [],_,h=>by cases h;rfl
 | n::ns,_,h=>by
  cases h with
  | cons h t=>rw[h.int_inv,Reps.ints_inv t];rfl
end
def RepB (K:aF) (H:Hp) (d:D) (v:V):Prop :=
 Rep K H d v\/∃ds a vs,d = .lst ds/\v = .ref a/\H a=some (.lst vs)/\Reps K H ds vs
theorem RepB.same {K:aF} {H H':Hp} {d:D} {v:V} (s:Same H H') (h:RepB K H d v):RepB K H' d v:=by
 rcases h with h | ⟨ds,a,vs,e1,e2,e3,r⟩
 ·exact .inl (h.keep (.of s))
 ·exact .inr ⟨ds,a,vs,e1,e2,s.get _ _ e3 trivial,r.keep (.of s)⟩
theorem RepB.lst {K:aF} {H:Hp} {ds:List D} {v:V} (h:RepB K H (.lst ds) v):∃a vs,v = .ref a/\SqL K H a vs/\Reps K H ds vs:=by
 rcases h with h | ⟨ds',a,vs,e1,e2,e3,r⟩
 ·cases h with
  | lst h r=>exact⟨_,_,rfl,h.sq,r⟩
 ·cases e1;exact⟨a,vs,e2,SqL.of e3,r⟩
theorem RepB.tup {K:aF} {H:Hp} {ds:List D} {v:V} (h:RepB K H (.tup ds) v):∃a vs,v = .ref a/\H a=some (.tup vs)/\Reps K H ds vs:=by
 rcases h with h | ⟨ds',a,vs,e1,e2,e3,r⟩
 ·cases h with
  | tup h r=>exact⟨_,_,rfl,h,r⟩
 ·cases e1
inductive S where
 | d (x:D) | own (xs:List D) | dcl (kvs:List (Int × List D)) | box (t:Bool) (xss:List (List D)) | exc (C:Addr) (y:Str) (c:Int) | dt (ks:List (List Int)) (xs:List D) | raw (v:V)
def S.val:S->D
 | .d x=>x
 | .own xs=>.lst xs
 | .dcl _=>.non
 | .box _ _=>.non
 | .exc _ _ _=>.non
 | .dt _ _=>.non
 | .raw _=>.non
abbrev En:=List (Option S)
inductive Dcl (K:aF) (H₀ H:Hp):List (Int × List D)->List (Key × V)->List Addr->Prop
 | nil:Dcl K H₀ H [] [] []
 | cons {k:Int} {b:Addr} {vs:List V} {ds:List D} {kvs:List (Int × List D)} {kws:List (Key × V)} {as:List Addr} (h:H b=some (.lst vs)) (h0:H₀ b=none) (r:Reps K H ds vs) (n:b ∉ as) (t:Dcl K H₀ H kvs kws as) :
   Dcl K H₀ H ((k,ds)::kvs) ((fG k,.ref b)::kws) (b::as)
abbrev rH (C e dx:Addr):HO:=.ext λh=>∃oe vs,h.get? e=some oe/\oe.cls = .ref C/\oe.data = .fields vs/\oe.dict=some dx
def RelS (K:aF) (H₀ H:Hp):S->V->Prop
 | .exc C y c,v=>∃e dx,v = .ref e/\H e=some (rH C e dx)/\H dx=some (.xd [(y,.int c)])
 | .d x,v=>Rep K H x v
 | .raw u,v=>v=u
 | .dt ks xs,v=>∃a vs,v = .ref a/\H a=some (.dT (wO ks vs))/\H₀ a=none/\ks.length=vs.length/\Reps K H xs vs
 | .own xs,v=>∃a vs,v = .ref a/\H a=some (.lst vs)/\H₀ a=none/\Reps K H xs vs
 | .dcl kvs,v=>∃a kws as,v = .ref a/\H a=some (.dK kws)/\H₀ a=none/\Dcl K H₀ H kvs kws as
 | .box false xss,v=>∃a kws as,v = .ref a/\H a=some (.lst (as.map V.ref))/\H₀ a=none/\a ∉ as/\Dcl K H₀ H (xss.map λx=>(0,x)) kws as
 | .box true xss,v=>∃a kws as,v = .ref a/\H a=some (.tup (as.map V.ref))/\Dcl K H₀ H (xss.map λx=>(0,x)) kws as
def Ow (H:Hp):S->V->Addr->Prop
 | .exc _ _ _,_,_=>False
 | .raw _,_,_=>False
 | .d _,_,_=>False
 | .own _,v,a=>v = .ref a
 | .dt _ _,v,a=>v = .ref a
 | .dcl _,v,a=>∃p kws,v = .ref p/\H p=some (.dK kws)/\(a=p\/∃k,(k,V.ref a)∈kws)
 | .box false _,v,a=>∃p vs,v = .ref p/\H p=some (.lst vs)/\(a=p\/V.ref a∈vs)
 | .box true _,v,a=>∃p vs,v = .ref p/\H p=some (.tup vs)/\V.ref a∈vs
structure StOk (X:Cx) (ρ:En) (σ:St) (H:Hp):Prop where
 len:ρ.length=σ.length
 same:Same X.H₀ H
 rel:∀(i:Nat) (x:S),ρ[i]? = some (some x)->∃v,σ[i]? = some (some v)/\RelS X.K X.H₀ H x v
 sep:∀(i j:Nat) (x y:S) (v u:V) (a:Addr),ρ[i]? = some (some x)->ρ[j]? = some (some y)->σ[i]? = some (some v)->σ[j]? = some (some u)->Ow H x v a->Ow H y u a->i=j
 t0:TabsIn X.K X.H₀
section
variable {K:aF} {H₀ H H':Hp}
theorem Dcl.keep {kvs:List (Int × List D)} {kws:List (Key × V)} {as:List Addr} (k:Keep H H') (t:Dcl K H₀ H kvs kws as) (w:∀a∈as,∀o,H a=some o->H' a=some o):Dcl K H₀ H' kvs kws as:=by
 induction t with
 | nil=>exact .nil
 | cons h h0 r n t ih=>exact .cons (w _ (.head _) _ h) h0 (r.keep k) n (ih λa m=>w a (.tail _ m))
theorem Dcl.mem {kvs:List (Int × List D)} {kws:List (Key × V)} {as:List Addr} {a:Addr} (t:Dcl K H₀ H kvs kws as):a∈as↔∃k,(k,V.ref a)∈kws:=by
 induction t with
 | nil=>simp
 | cons h h0 r n t ih =>
  rw[aL,ih]
  constructor
  ·rintro (rfl | ⟨k,e⟩)
   ·exact⟨_,.head _⟩
   ·exact⟨k,.tail _ e⟩
  ·rintro⟨k,e⟩
   rcases aL.mp e with e | e
   ·cases e;exact .inl rfl
   ·exact .inr ⟨k,e⟩
theorem Dcl.at {kvs:List (Int × List D)} {kws:List (Key × V)} {as:List Addr} {a:Addr} (t:Dcl K H₀ H kvs kws as) (m:a∈as):H₀ a=none/\∃vs,H a=some (.lst vs):=by
 induction t with
 | nil=>cases m
 | cons h h0 r n t ih =>
  rcases aL.mp m with rfl | m
  ·exact⟨h0,_,h⟩
  ·exact ih m
theorem Dcl.same {kvs:List (Int × List D)} {kws:List (Key × V)} {as:List Addr} (t:Dcl K H₀ H kvs kws as) (s:Same H H'):Dcl K H₀ H' kvs kws as :=
 t.keep (.of s) λc m o h=>by
  obtain⟨_,vs,q⟩:=t.at m
  rw[h] at q;cases q
  exact s.get _ _ h trivial
theorem DQ:∀{ks:List Int} {vs:List V},ks.length=vs.length->(vF ks vs).map (·.2)=vs
 | [],[],_=>rfl
 | [],_::_,h=>by cases h
 | _::_,[],h=>by cases h
 | k::ks,v::vs,h=>by
  show v::(vF ks vs).map (·.2)=v::vs
  rw[DQ (by simpa using h)]
theorem Dcl.refs {kvs:List (Int × List D)} {kws:List (Key × V)} {as:List Addr} (t:Dcl K H₀ H kvs kws as):kws.map (·.2)=as.map V.ref:=by
 induction t with
 | nil=>rfl
 | cons h h0 r n t ih=>rw[aU,aU,ih]
theorem Ow.at {x:S} {v:V} {a:Addr} (r:RelS K H₀ H x v) (w:Ow H x v a):H₀ a=none/\((∃vs,H a=some (.lst vs))\/(∃kws,H a=some (.dK kws))\/∃kws,H a=some (.dT kws)):=by
 cases x with
 | d x=>exact w.elim
 | exc C y c=>exact w.elim
 | raw u=>exact w.elim
 | own xs =>
  obtain⟨b,vs,rfl,h,h0,_⟩:=r
  cases w;exact⟨h0,.inl ⟨vs,h⟩⟩
 | dt ks xs =>
  obtain⟨b,vs,rfl,h,h0,_⟩:=r
  cases w;exact⟨h0,.inr (.inr ⟨_,h⟩)⟩
 | dcl kvs =>
  obtain⟨b,kws,as,rfl,h,h0,t⟩:=r
  obtain⟨p,kws',e,h',m⟩:=w
  cases e
  rw[h] at h';cases h'
  rcases m with rfl | m
  ·exact⟨h0,.inr (.inl ⟨kws,h⟩)⟩
  ·obtain⟨g0,g1⟩:=t.at (t.mem.mpr m)
   exact⟨g0,.inl g1⟩
 | box t xss =>
  cases t with
  | false =>
   obtain⟨b,kws,as,rfl,h,h0,_,t⟩:=r
   obtain⟨p,vs,e,h',m⟩:=w
   cases e
   rw[h] at h';cases h'
   rcases m with rfl | m
   ·exact⟨h0,.inl ⟨_,h⟩⟩
   ·obtain⟨c,hc,e⟩:=cK.mp m
    cases e
    obtain⟨g0,g1⟩:=t.at hc
    exact⟨g0,.inl g1⟩
  | true =>
   obtain⟨b,kws,as,rfl,h,t⟩:=r
   obtain⟨p,vs,e,h',m⟩:=w
   cases e
   rw[h] at h';cases h'
   obtain⟨c,hc,e⟩:=cK.mp m
   cases e
   obtain⟨g0,g1⟩:=t.at hc
   exact⟨g0,.inl g1⟩
theorem RelS.move {x:S} {v:V} (k:Keep H H') (r:RelS K H₀ H x v) (w:∀a,Ow H x v a->∀o,H a=some o->H' a=some o):RelS K H₀ H' x v/\∀a,Ow H' x v a->Ow H x v a:=by
 cases x with
 | d x=>exact⟨Rep.keep k r,λa e=>e⟩
 | raw u=>exact⟨r,λa e=>e⟩
 | exc C y c =>
  obtain⟨e,dx,rfl,h1,h2⟩:=r
  exact⟨⟨e,dx,rfl,k.exts _ _ h1,k.xds _ _ h2⟩,λa e=>e⟩
 | own xs =>
  obtain⟨b,vs,rfl,h,h0,rr⟩:=r
  exact⟨⟨b,vs,rfl,w b rfl _ h,h0,rr.keep k⟩,λa e=>e⟩
 | dt ks xs =>
  obtain⟨b,vs,rfl,h,h0,hl,rr⟩:=r
  exact⟨⟨b,vs,rfl,w b rfl _ h,h0,hl,rr.keep k⟩,λa e=>e⟩
 | dcl kvs =>
  obtain⟨b,kws,as,rfl,h,h0,t⟩:=r
  have hb:=w b ⟨b,kws,rfl,h,.inl rfl⟩ _ h
  refine⟨⟨b,kws,as,rfl,hb,h0,t.keep k λa m=>w a ⟨b,kws,rfl,h,.inr (t.mem.mp m)⟩⟩,λa e=>?_⟩
  obtain⟨p,kws',e,h',m⟩:=e
  cases e
  rw[hb] at h';cases h'
  exact⟨b,kws,rfl,h,m⟩
 | box t xss =>
  cases t with
  | false =>
   obtain⟨b,kws,as,rfl,h,h0,nb,t⟩:=r
   have hb:=w b ⟨b,_,rfl,h,.inl rfl⟩ _ h
   refine⟨⟨b,kws,as,rfl,hb,h0,nb,t.keep k λa m=>w a ⟨b,_,rfl,h,.inr (fS m)⟩⟩,λa e=>?_⟩
   obtain⟨p,vs,e,h',m⟩:=e
   cases e
   rw[hb] at h';cases h'
   exact⟨b,_,rfl,h,m⟩
  | true =>
   obtain⟨b,kws,as,rfl,h,t⟩:=r
   have hb:=k.tups b _ h
   refine⟨⟨b,kws,as,rfl,hb,t.keep k λa m=>w a ⟨b,_,rfl,h,fS m⟩⟩,λa e=>?_⟩
   obtain⟨p,vs,e,h',m⟩:=e
   cases e
   rw[hb] at h';cases h'
   exact⟨b,_,rfl,h,m⟩
theorem Same.own {x:S} {v:V} {a:Addr} {o:HO} (s:Same H H') (r:RelS K H₀ H x v) (w:Ow H x v a) (h:H a=some o):H' a=some o:=by
 obtain⟨_,⟨_,q⟩ | ⟨_,q⟩ | ⟨_,q⟩⟩:=Ow.at r w <;> rw[h] at q <;> cases q <;> exact s.get _ _ h trivial
theorem RelS.same {x:S} {v:V} (s:Same H H') (h:RelS K H₀ H x v):RelS K H₀ H' x v:=(h.move (.of s) λa w o e=>s.own h w e).1
end
section
variable {X:Cx} {ρ:En} {σ:St} {H H':Hp}
theorem StOk.tabs (st:StOk X ρ σ H):TabsIn X.K H:=st.t0.tabK st.same.tbls
theorem StOk.ext (st:StOk X ρ σ H) (s:Same H H'):StOk X ρ σ H':=by
 refine⟨st.len,st.same.trans s,λi x e=>let ⟨v,h1,h2⟩:=st.rel i x e;⟨v,h1,h2.same s⟩,λi j x y v u a e1 e2 e3 e4 o1 o2=>?_,st.t0⟩
 obtain⟨v',h1,h2⟩:=st.rel i x e1
 obtain⟨u',g1,g2⟩:=st.rel j y e2
 rw[h1] at e3;cases e3
 rw[g1] at e4;cases e4
 exact st.sep i j x y _ _ a e1 e2 h1 g1 ((h2.move (.of s) λa w o e=>s.own h2 w e).2 a o1) ((g2.move (.of s) λa w o e=>s.own g2 w e).2 a o2)
theorem JX {α:Type} {xs:List (Option α)} {i j:Nat} {x y:α} (e:(xs.set i (some x))[j]? = some (some y)):(j=i/\y=x/\i<xs.length)\/(i≠j/\xs[j]? = some (some y)):=by
 by_cases hj:i=j
 ·subst hj
  by_cases h:i<xs.length
  ·rw[cY h] at e;cases e;exact .inl ⟨rfl,rfl,h⟩
  ·rw[uC (by omega),gZ (by omega)] at e;cases e
 ·rw[bG hj] at e;exact .inr ⟨hj,e⟩
theorem StOk.chg (st:StOk X ρ σ H) {i:Nat} {x':S} {v':V} {W:Addr->Prop} (kp:Keep H H') (h0:Same X.H₀ H') (h1:∀b o,H b=some o->NT o->¬W b->H' b=some o) (h2:RelS X.K X.H₀ H' x' v')
  (h3:∀a,Ow H' x' v' a->W a\/H a=none) (h4:∀(j:Nat) (y:S) (u:V) (a:Addr),j≠i->ρ[j]? = some (some y)->σ[j]? = some (some u)->Ow H y u a->¬W a):StOk X (ρ.set i (some x')) (σ.set i (some v')) H':=by
 have old:∀(j:Nat) (y:S),j≠i->ρ[j]? = some (some y)->∃u,σ[j]? = some (some u)/\RelS X.K X.H₀ H y u/\RelS X.K X.H₀ H' y u/\∀a,Ow H' y u a->Ow H y u a:=λj y hj e=>by
  obtain⟨u,g1,g2⟩:=st.rel j y e
  obtain⟨g3,g4⟩:=g2.move kp λa w o e'=>by
   have nw:=h4 j y u a hj e g1 w
   obtain⟨_,⟨_,q⟩ | ⟨_,q⟩ | ⟨_,q⟩⟩:=Ow.at g2 w <;> rw[e'] at q <;> cases q <;> exact h1 a _ e' trivial nw
  exact⟨u,g1,g2,g3,g4⟩
 refine⟨by simp[st.len],h0,λj y e=>?_,λj k y z v u a e1 e2 e3 e4 o1 o2=>?_,st.t0⟩
 ·rcases JX e with ⟨rfl,rfl,hl⟩ | ⟨hj,e⟩
  ·exact⟨v',by rw[cY (by rw[<-st.len];exact hl)],h2⟩
  ·obtain⟨u,g1,_,g3,_⟩:=old j y (Ne.symm hj) e
   exact⟨u,by rw[bG hj];exact g1,g3⟩
 ·have cross:∀(j:Nat) (y:S) (u:V),i≠j->ρ[j]? = some (some y)->σ[j]? = some (some u)->Ow H' y u a->Ow H' x' v' a->False:=λj y u hj e es o1 o2=>by
   obtain⟨u',g1,g2,g3,g4⟩:=old j y (Ne.symm hj) e
   rw[g1] at es;cases es
   rcases h3 a o2 with w | n
   ·exact h4 j y _ a (Ne.symm hj) e g1 (g4 a o1) w
   ·obtain⟨_,⟨_,q⟩ | ⟨_,q⟩ | ⟨_,q⟩⟩:=Ow.at g2 (g4 a o1) <;> rw[n] at q <;> cases q
  rcases JX e1 with ⟨rfl,rfl,hl⟩ | ⟨hj,e1'⟩
  ·rcases JX e2 with ⟨rfl,rfl,_⟩ | ⟨hk,e2'⟩
   ·rfl
   ·rw[cY (by rw[<-st.len];exact hl)] at e3;cases e3
    rw[bG hk] at e4
    exact (cross k z u hk e2' e4 o2 o1).elim
  ·rw[bG hj] at e3
   rcases JX e2 with ⟨rfl,rfl,hl⟩ | ⟨hk,e2'⟩
   ·rw[cY (by rw[<-st.len];exact hl)] at e4;cases e4
    exact (cross j y v hj e1' e3 o1 o2).elim
   ·rw[bG hk] at e4
    obtain⟨v',g1,g2,g3,g4⟩:=old j y (Ne.symm hj) e1'
    obtain⟨u',f1,f2,f3,f4⟩:=old k z (Ne.symm hk) e2'
    rw[g1] at e3;cases e3
    rw[f1] at e4;cases e4
    exact st.sep j k y z _ _ a e1' e2' g1 f1 (g4 a o1) (f4 a o2)
theorem StOk.put (st:StOk X ρ σ H) {i:Nat} {x':S} {v':V} (s:Same H H') (h2:RelS X.K X.H₀ H' x' v') (h3:∀a,Ow H' x' v' a->H a=none):StOk X (ρ.set i (some x')) (σ.set i (some v')) H' :=
 st.chg (W:=λ_=>False) (.of s) (st.same.trans s) (λb o h n _=>s.get b o h n) h2 (λa o=>.inr (h3 a o)) λ_ _ _ _ _ _ _ _ z=>z
theorem StOk.updW (st:StOk X ρ σ H) {i:Nat} {x x':S} {v v':V} (e:ρ[i]? = some (some x)) (es:σ[i]? = some (some v)) (h1:∀b o,H b=some o->¬Ow H x v b->H' b=some o) (h2:RelS X.K X.H₀ H' x' v')
  (h3:∀a,Ow H' x' v' a->Ow H x v a\/H a=none):StOk X (ρ.set i (some x')) (σ.set i (some v')) H'/\Keep H H':=by
 obtain⟨v0,g1,g2⟩:=st.rel i x e
 rw[g1] at es;cases es
 have no:∀b o,H b=some o->(∀vs,o≠.lst vs)->(∀kws,o≠.dK kws)->(∀kws,o≠.dT kws)->¬Ow H x v b:=λb o h n1 n2 n3 w=>by
  obtain⟨_,⟨_,q⟩ | ⟨_,q⟩ | ⟨_,q⟩⟩:=Ow.at g2 w <;> rw[h] at q <;> cases q
  ·exact n1 _ rfl
  ·exact n2 _ rfl
  ·exact n3 _ rfl
 have ne:∀b o,H b=some o->(∀vs,o≠.lst vs)->(∀kws,o≠.dK kws)->(∀kws,o≠.dT kws)->H' b=some o:=λb o h n1 n2 n3=>h1 b o h (no b o h n1 n2 n3)
 have kp:Keep H H':=⟨λb xs h=>ne b _ h (λ_ z=>by cases z) (λ_ z=>by cases z) (λ_ z=>by cases z),λb o u h=>ne b _ h (λ_ z=>by cases z) (λ_ z=>by cases z) (λ_ z=>by cases z),λb φ h=>ne b _ h (λ_ z=>by cases z) (λ_ z=>by cases z) (λ_ z=>by cases z),λb fs h=>ne b _ h (λ_ z=>by cases z) (λ_ z=>by cases z) (λ_ z=>by cases z),
  .of (λb φ h=>ne b _ h (λ_ z=>by cases z) (λ_ z=>by cases z) (λ_ z=>by cases z)) λb φ h=>ne b _ h (λ_ z=>by cases z) (λ_ z=>by cases z) (λ_ z=>by cases z)⟩
 refine⟨st.chg (W:=Ow H x v) kp ⟨λb o h n=>h1 b o (st.same.get b o h n) λw=>?_,st.same.tbls.trans kp.tbls⟩ (λb o h _ w=>h1 b o h w) h2 h3 λj y u a hj ej eu o1 o2=>hj (st.sep j i y x u v a ej e eu g1 o1 o2),kp⟩
 rw[(Ow.at g2 w).1] at h;cases h
theorem StOk.set_d (st:StOk X ρ σ H) {i:Nat} {d:D} {v:V} (r:Rep X.K H d v):StOk X (ρ.set i (some (.d d))) (σ.set i (some v)) H:=st.put (x':=.d d) (Same.refl H) r λ_ o=>o.elim
theorem jZ {α:Type} {xs:List α} {i:Nat} {x:α} (e:xs[i]? = some x):xs.set i x=xs:=by
 apply tL ;intro j
 by_cases hj:i=j
 ·subst hj;rw[cY (aX.mp e).1,e]
 ·rw[bG hj]
theorem StOk.set_own (st:StOk X ρ σ H) {i:Nat} {ds:List D} {p:Addr} {vs:List V} (hp:H p=none) (r:Reps X.K H ds vs) :
  StOk X (ρ.set i (some (.own ds))) (σ.set i (some (.ref p))) (upd H p (.lst vs)):=by
 have sm:Same H (upd H p (.lst vs)):=.fn λb o h=>by rw[bM (cB h hp)];exact h
 exact st.put sm ⟨p,vs,rfl,cR,st.same.free hp,r.keep (.of sm)⟩ λa o=>by cases o;exact hp
theorem StOk.upd_own (st:StOk X ρ σ H) {i:Nat} {xs ds:List D} {p:Addr} {us vs:List V} (e:ρ[i]? = some (some (.own xs))) (es:σ[i]? = some (some (.ref p))) (hp:H p=some (.lst us)) (h0:X.H₀ p=none)
  (r:Reps X.K H ds vs):StOk X (ρ.set i (some (.own ds))) σ (upd H p (.lst vs))/\Keep H (upd H p (.lst vs)):=by
 have kp:Keep H (upd H p (.lst vs)):=Keep.chg1 hp (.inl ⟨_,rfl⟩)
 have:=st.updW (x':=.own ds) (v':=.ref p) e es (H':=upd H p (.lst vs)) (λb o h w=>by rw[bM (by rintro rfl;exact w rfl)];exact h) ⟨p,vs,rfl,cR,h0,r.keep kp⟩ λa o=>.inl o
 rw[jZ es] at this
 exact this
end
section
variable {X:Cx} {pins:List (Addr × Obj)} {σ:St} {H:Hp} {s:aD}
theorem Inv.freezeG {a:Addr} {x:HO} {o:Obj} (I:Inv X pins σ H s) (h:H a=some x) (ho:s.heap.get? a=some o) (n1:∀ys,HO.tup ys≠x) (n2:∀o w,HO.frz o w≠x) (n3:∀ps,HO.tbl ps≠x) (n4:∀c,HO.own c≠x):Inv X pins σ (upd H a (.frz o x)) s:=by
 have ok:=I.hok a _ h
 have ntup:∀b u,H b=some u->u≠x->b≠a:=λb u q d z=>by subst z;rw[h] at q;cases q;exact d rfl
 have st:∀{b:Addr} {u:HO},ObjOk X.prog X.w H s.heap b u->ObjOk X.prog X.w (upd H a (.frz o x)) s.heap b u:=λ{b u} q =>
  q.stay (λc v _ w=>w) (λc w=>by rw[bM (ntup c _ w (n4 _))];exact w) λc ys w=>by rw[bM (ntup c _ w (n1 _))];exact w
 refine I.un (t':=s.toks) (h':=s.heap) ⟨λb o q _ _ _=>q,λb o q _ _ _=>⟨o.slots,q⟩,λb o q n _=>?_,λb o q _=>⟨o,q⟩,λb ys q=>?_,λb o u q=>?_,λb ps q=>⟨#[],?_⟩⟩ λb u q=>?_
 ·rw[bM (λz=>by subst z;rw[h] at n;cases n)];exact n
 ·rw[bM (ntup b _ q (n1 _))];exact q
 ·rw[bM (ntup b _ q (n2 _ _))];exact q
 ·rw[bM (ntup b _ q (n3 _)),q];simp
 ·by_cases hb:b=a
  ·subst hb
   rw[cR] at q;cases q
   exact⟨ho,st ok⟩
  ·rw[bM hb] at q
   exact st (I.hok b u q)
theorem Inv.freeze {a:Addr} {xs:List V} (I:Inv X pins σ H s) (h:H a=some (.lst xs)):∃o,Inv X pins σ (upd H a (.frz o (.lst xs))) s:=by
 obtain⟨z,its,n,r,e⟩:=I.hok a _ h
 exact⟨_,Inv.freezeG I h e (λ_ z=>by cases z) (λ_ _ z=>by cases z) (λ_ z=>by cases z) (λ_ z=>by cases z)⟩
theorem Inv.freezeD {a:Addr} {kvs:List (Key × V)} (I:Inv X pins σ H s) (h:H a=some (.dK kvs)):∃o,Inv X pins σ (upd H a (.frz o (.dK kvs))) s:=by
 obtain⟨_,_,vs,r,ob,es,ep,e,_⟩:=I.hok a _ h
 exact⟨ob,Inv.freezeG I h e (λ_ z=>by cases z) (λ_ _ z=>by cases z) (λ_ z=>by cases z) (λ_ z=>by cases z)⟩
theorem Inv.freezeT {a:Addr} {kvs:List (List Key × V)} (I:Inv X pins σ H s) (h:H a=some (.dT kvs)):∃o,Inv X pins σ (upd H a (.frz o (.dT kvs))) s:=by
 obtain⟨_,_,_,_,ob,_,_,e,_⟩:=I.hok a _ h
 exact⟨ob,Inv.freezeG I h e (λ_ z=>by cases z) (λ_ _ z=>by cases z) (λ_ z=>by cases z) (λ_ z=>by cases z)⟩
theorem Same.upd_new {a:Addr} {o:HO} {H H1:Hp} (s:Same H H1) (n:H a=none) (m:∀φ,H1 a≠some (.ext φ)):Same H (upd H1 a o):=by
 refine⟨λb u h nt=>by rw[bM (cB h n)];exact s.get b u h nt,λb ps h=>?_⟩
 obtain⟨more,e1,e2⟩:=s.tbls b ps h
 refine⟨more,by rw[bM (cB h n)];exact e1,λx=>(e2 x).mono λc φ q=>?_⟩
 rw[bM (by rintro rfl;exact m _ q)];exact q
theorem rM:∀(kvs:List (Int × List D)) {kws:List (Key × V)} {as:List Addr} {H:Hp},Inv X pins σ H s->Dcl X.K X.H₀ H kvs kws as ->
  ∃H' vs,Inv X pins σ H' s/\kws=vF (kvs.map (·.1)) vs/\kvs.length=vs.length/\Reps X.K H' (kvs.map λp=>.lst p.2) vs/\Keep H H'/\∀b o,H b=some o->b ∉ as->H' b=some o
 | [],_,_,H,I,t=>by cases t;exact⟨H,[],I,rfl,rfl,.nil,Keep.refl H,λb o h _=>h⟩
 | (k,ds)::kvs,_,_,H,I,t=>by
  cases t with
  | @cons _ b vs _ _ kws as h h0 r n t =>
   obtain⟨o,I1⟩:=Inv.freeze I h
   have kp:Keep H (upd H b (.frz o (.lst vs))):=Keep.chg1 h (.inl ⟨_,rfl⟩)
   obtain⟨H',us,I2,e1,e2,e3,k2,e4⟩:=rM kvs I1 (t.keep kp λa m o e=>by rw[bM (by rintro rfl;exact n m)];exact e)
   subst e1
   refine⟨H',.ref b::us,I2,rfl,by simp[e2],.cons (.lst (.inl ⟨o,k2.frzs _ _ _ cR⟩) (r.keep (kp.trans k2))) e3,kp.trans k2,λc u q m=>?_⟩
   rw[aL,not_or] at m
   exact e4 c u (by rw[bM m.1];exact q) m.2
def S.fz:S->S
 | .own ds=>.d (.lst ds)
 | .dcl kvs=>.d (.dct (kvs.map (·.1)) (kvs.map λp=>.lst p.2))
 | .box false xss=>.d (.lst (xss.map .lst))
 | .box true xss=>.d (.tup (xss.map .lst))
 | .d x=>.d x
 | .exc C y c=>.exc C y c
 | .raw u=>.raw u
 | .dt ks xs=>.d (.dtt ks xs)
theorem StOk.fz {ρ:En} {i:Nat} {x:S} (so:StOk X ρ σ H) (I:Inv X pins σ H s) (e:ρ[i]? = some (some x)):∃H',Inv X pins σ H' s/\StOk X (ρ.set i (some x.fz)) σ H'/\Keep H H':=by
 obtain⟨v,h1,h2⟩:=so.rel i _ e
 cases x with
 | d x=>exact⟨H,I,by rw[show S.fz (.d x) = .d x from rfl,jZ e];exact so,Keep.refl H⟩
 | exc C y c=>exact⟨H,I,by rw[show S.fz (.exc C y c) = .exc C y c from rfl,jZ e];exact so,Keep.refl H⟩
 | raw u=>exact⟨H,I,by rw[show S.fz (.raw u) = .raw u from rfl,jZ e];exact so,Keep.refl H⟩
 | own ds =>
  obtain⟨p,vs,ev,hp,h0,rr⟩:=id h2
  subst ev
  obtain⟨o,I2⟩:=Inv.freeze I hp
  have kp:Keep H (upd H p (.frz o (.lst vs))):=Keep.chg1 hp (.inl ⟨_,rfl⟩)
  obtain⟨so2,k2⟩:=so.updW (x':=.d (.lst ds)) (v':=.ref p) e h1 (H':=upd H p (.frz o (.lst vs))) (λb o h w=>by rw[bM (by rintro rfl;exact w rfl)];exact h) (.lst (.inl ⟨o,cR⟩) (rr.keep kp)) λa o=>o.elim
  rw[jZ h1] at so2
  exact⟨_,I2,so2,k2⟩
 | dt ks xs =>
  obtain⟨p,vs,ev,hp,h0,hl,rr⟩:=id h2
  subst ev
  obtain⟨o,I2⟩:=Inv.freezeT I hp
  have kp:Keep H (upd H p (.frz o (.dT (wO ks vs)))):=Keep.chg1 hp (.inr (.inr ⟨_,rfl⟩))
  obtain⟨so2,k2⟩:=so.updW (x':=.d (.dtt ks xs)) (v':=.ref p) e h1 (H':=upd H p (.frz o (.dT (wO ks vs)))) (λb o h w=>by rw[bM (by rintro rfl;exact w rfl)];exact h) (.dtt cR hl (rr.keep kp)) λa o=>o.elim
  rw[jZ h1] at so2
  exact⟨_,I2,so2,k2⟩
 | dcl kvs =>
  obtain⟨p,kws,as,ev,hp,h0,t⟩:=id h2
  subst ev
  obtain⟨H1,vs,I1,e1,e2,e3,k1,e4⟩:=rM kvs I t
  have np:p ∉ as:=λm=>by obtain⟨_,us,q⟩:=t.at m;rw[hp] at q;cases q
  have hp1:=e4 p _ hp np
  obtain⟨o,I2⟩:=Inv.freezeD I1 hp1
  have kp:Keep H1 (upd H1 p (.frz o (.dK kws))):=Keep.chg1 hp1 (.inr (.inl ⟨_,rfl⟩))
  obtain⟨so2,k2⟩:=so.updW (x':=.d (.dct (kvs.map (·.1)) (kvs.map λp=>.lst p.2))) (v':=.ref p) e h1 (H':=upd H1 p (.frz o (.dK kws)))
   (λb o h w=>by
    rw[bM (by rintro rfl;exact w ⟨_,kws,rfl,hp,.inl rfl⟩)]
    exact e4 b o h λm=>w ⟨p,kws,rfl,hp,.inr (t.mem.mp m)⟩)
   (.dct (by rw[cR,e1]) (by simp[e2]) (e3.keep kp)) λa o=>o.elim
  rw[jZ h1] at so2
  exact⟨_,I2,so2,k2⟩
 | box t xss =>
  have emap:(xss.map λx=>((0:Int),x)).map (λp=>D.lst p.2)=xss.map D.lst:=by rw[cZ];rfl
  cases t with
  | false =>
   obtain⟨p,kws,as,ev,hp,h0,np,t⟩:=id h2
   subst ev
   obtain⟨H1,vs,I1,e1,e2,e3,k1,e4⟩:=rM _ I t
   rw[emap] at e3
   have ea:as.map V.ref=vs:=by rw[<-t.refs,e1];exact DQ (by rw[aS];simpa using e2)
   have hp1:=e4 p _ hp np
   obtain⟨o,I2⟩:=Inv.freeze I1 hp1
   have kp:Keep H1 (upd H1 p (.frz o (.lst (as.map V.ref)))):=Keep.chg1 hp1 (.inl ⟨_,rfl⟩)
   obtain⟨so2,k2⟩:=so.updW (x':=.d (.lst (xss.map .lst))) (v':=.ref p) e h1 (H':=upd H1 p (.frz o (.lst (as.map V.ref))))
    (λb o h w=>by
     rw[bM (by rintro rfl;exact w ⟨_,_,rfl,hp,.inl rfl⟩)]
     exact e4 b o h λm=>w ⟨p,_,rfl,hp,.inr (fS m)⟩)
    (.lst (vs:=as.map V.ref) (.inl ⟨o,cR⟩) (by have z:=e3.keep kp;rw[<-ea] at z;exact z)) λa o=>o.elim
   rw[jZ h1] at so2
   exact⟨_,I2,so2,k2⟩
  | true =>
   obtain⟨p,kws,as,ev,hp,t⟩:=id h2
   subst ev
   obtain⟨H1,vs,I1,e1,e2,e3,k1,e4⟩:=rM _ I t
   rw[emap] at e3
   have ea:as.map V.ref=vs:=by rw[<-t.refs,e1];exact DQ (by rw[aS];simpa using e2)
   obtain⟨so2,k2⟩:=so.updW (x':=.d (.tup (xss.map .lst))) (v':=.ref p) e h1 (H':=H1)
    (λb o h w=>e4 b o h λm=>w ⟨p,_,rfl,hp,fS m⟩)
    (.tup (vs:=as.map V.ref) (k1.tups _ _ hp) (by have z:=e3;rw[<-ea] at z;exact z)) λa o=>o.elim
   rw[jZ h1] at so2
   exact⟨_,I1,so2,k2⟩
end
structure Sz (n:Nat):Prop where
 ok:n<=sizeLine
abbrev RE:=En->(D->Prop)->Prop
abbrev RT:=En->(Bool->Prop)->Prop
abbrev RA:=En->(List D->Prop)->Prop
structure DEnds where
 nx:En->Prop
 rt:D->Prop
 bk:En->Prop:=λ_=>False
 ct:En->Prop:=λ_=>False
abbrev RS:=DEnds->En->Prop
abbrev RG:=D->En->(En->Prop)->Prop
def Jg (X:Cx) (t:RE):TE:=λσ H Q=>∃ρ P,StOk X ρ σ H/\t ρ P/\∀d v H',P d->Same H H'->Rep X.K H' d v->Q v H'
def Jf (X:Cx) (t:RE):TE:=λσ H Q=>∃ρ P,StOk X ρ σ H/\t ρ P/\∀d v H',P d->Same H H'->RepB X.K H' d v->Q v H'
def Tj (X:Cx) (t:RA):TE:=λσ H Q=>∃ρ P,StOk X ρ σ H/\t ρ P/\∀ds p vs H1,P ds->Same H H1->H1 p=none->Reps X.K H1 ds vs->Q (.ref p) (upd H1 p (.lst vs))
def liftT (X:Cx) (t:RT):TT:=λσ H Q=>∃ρ P,StOk X ρ σ H/\t ρ P/\∀b H',P b->Same H H'->Q b H'
def Tg (X:Cx) (t:RA):TA:=λσ H Q=>∃ρ P,StOk X ρ σ H/\t ρ P/\∀ds vs H',P ds->Same H H'->Reps X.K H' ds vs->Q vs H'
def Oy (X:Cx) (t:RS):TS:=λDe σ H=>∃ρ E,StOk X ρ σ H/\t E ρ/\(∀ρ' σ' H',E.nx ρ'->Keep H H'->StOk X ρ' σ' H'->De.nx σ' H')/\(∀d v H',E.rt d->Keep H H'->Same X.H₀ H'->Rep X.K H' d v->De.rt v H') /\
 (∀ρ' σ' H',E.bk ρ'->Keep H H'->StOk X ρ' σ' H'->De.bk σ' H')/\∀ρ' σ' H',E.ct ρ'->Keep H H'->StOk X ρ' σ' H'->De.ct σ' H'
def Th (X:Cx) (g:RG):TG:=λv σ H Q=>∃d ρ P,Rep X.K H d v/\StOk X ρ σ H/\g d ρ P/\∀ρ' σ' H',P ρ'->Keep H H'->StOk X ρ' σ' H'->Q σ' H'
theorem gW {α β:Type} {A B C:α->β->Prop} {R:Prop} (h:∃ρ P,A ρ P/\B ρ P/\C ρ P) (k:∀ρ P,A ρ P->B ρ P->C ρ P->R):R:=let ⟨ρ,P,a,b,c⟩:=h;k ρ P a b c
theorem RZ {α β γ:Type} {A B C E:γ->α->β->Prop} {R:Prop} (h:∃d ρ P,A d ρ P/\B d ρ P/\C d ρ P/\E d ρ P) (k:∀d ρ P,A d ρ P->B d ρ P->C d ρ P->E d ρ P->R):R:=let ⟨d,ρ,P,a,b,c,e⟩:=h;k d ρ P a b c e
theorem kL {α β:Type} {A B C E F G:α->β->Prop} {R:Prop} (h:∃ρ P,A ρ P/\B ρ P/\C ρ P/\E ρ P/\F ρ P/\G ρ P) (k:∀ρ P,A ρ P->B ρ P->C ρ P->E ρ P->F ρ P->G ρ P->R):R:=let ⟨ρ,P,a,b,c,e,f,g⟩:=h;k ρ P a b c e f g
def DE (X:Cx) (e:Expr) (t:RE):Prop:=PE X e (Jg X t)
def DB (X:Cx) (e:Expr) (t:RE):Prop:=PE X e (Jf X t)
def DO (X:Cx) (e:Expr) (t:RA):Prop:=PE X e (Tj X t)
def DT (X:Cx) (e:Expr) (t:RT):Prop:=PT X e (liftT X t)
def DW (X:Cx) (e:Expr) (t:RT):Prop:=PW X e (liftT X t)
def DA (X:Cx) (es:List Expr) (t:RA):Prop:=PA X es (Tg X t)
def DS (X:Cx) (st:Stmt) (t:RS):Prop:=PS X st (Oy X t)
def DSs (X:Cx) (sts:List Stmt) (t:RS):Prop:=PSs X sts (Oy X t)
def DG (X:Cx) (tg:Expr) (g:RG):Prop:=PG X tg (Th X g)
theorem PE.mono {X:Cx} {e:Expr} {t t':TE} (h:PE X e t) (m:∀σ H Q,t' σ H Q->t σ H Q):PE X e t':=λpins s σ H Q I q=>h pins s σ H Q I (m σ H Q q)
theorem PT.mono {X:Cx} {e:Expr} {t t':TT} (h:PT X e t) (m:∀σ H Q,t' σ H Q->t σ H Q):PT X e t':=λpins s σ H Q I q=>h pins s σ H Q I (m σ H Q q)
theorem PW.mono {X:Cx} {e:Expr} {t t':TT} (h:PW X e t) (m:∀σ H Q,t' σ H Q->t σ H Q):PW X e t':=λwh pins s σ H Q I q=>h wh pins s σ H Q I (m σ H Q q)
theorem PA.mono {X:Cx} {e:List Expr} {t t':TA} (h:PA X e t) (m:∀σ H Q,t' σ H Q->t σ H Q):PA X e t':=λpos pins s σ H Q I q=>h pos pins s σ H Q I (m σ H Q q)
theorem PS.mono {X:Cx} {e:Stmt} {t t':TS} (h:PS X e t) (m:∀D σ H,t' D σ H->t D σ H):PS X e t':=λpins s σ H D I q=>h pins s σ H D I (m D σ H q)
theorem PSs.mono {X:Cx} {e:List Stmt} {t t':TS} (h:PSs X e t) (m:∀D σ H,t' D σ H->t D σ H):PSs X e t':=λpins s σ H D I q=>h pins s σ H D I (m D σ H q)
theorem PG.mono {X:Cx} {e:Expr} {t t':TG} (h:PG X e t) (m:∀v σ H Q,t' v σ H Q->t v σ H Q):PG X e t':=λpins s σ H v u Q I r q=>h pins s σ H v u Q I r (m v σ H Q q)
section
variable {X:Cx} {e a b c:Expr} {pos:Pos}
theorem DE.bor {t:RE} (h:DE X e t):DB X e t:=PE.mono h λσ H Q hh=>gW hh λρ P st q k=>⟨ρ,P,st,q,λd v H' p s r=>k d v H' p s (.inl r)⟩
theorem DO.val {t:RA} (h:DO X e t):DE X e (λρ Q=>t ρ λds=>Q (.lst ds)):=by
 intro pins s σ H Q I hh_0
 obtain⟨ρ,P,st,q,k⟩:=hh_0
 refine thn (h pins s σ H (λv H'=>∃ds p vs H1,v = .ref p/\H'=upd H1 p (.lst vs)/\P (.lst ds)/\Same H H1/\H1 p=none/\Reps X.K H1 ds vs) I ⟨ρ,_,st,q,λds p vs H1 hp s1 hn r=>⟨ds,p,vs,H1,rfl,rfl,hp,s1,hn,r⟩⟩) λu s1 ⟨v,H',I',rv,ds,p,vs,H1,ev,eH,hp,sm,hn,r⟩=>?_
 subst ev eH
 obtain⟨o,I2⟩:=Inv.freeze I' (a:=p) (xs:=vs) cR
 have sm2:Same H1 (upd (upd H1 p (.lst vs)) p (.frz o (.lst vs))):=Same.fn λb u e=>by rw[bM (cB e hn),bM (cB e hn)];exact e
 exact⟨.ref p,_,I2,rv,k (.lst ds) (.ref p) _ hp (sm.trans sm2) (.lst (.inl ⟨o,cR⟩) (r.keep (.of sm2)))⟩
theorem DO.bor {t:RA} (h:DO X e t):DB X e (λρ Q=>t ρ λds=>Q (.lst ds)):=h.val.bor
def bY (i:Nat):RE:=λρ Q=>match ρ[i]? with
 | some (some (.d d))=>Q d
 | _=>False
def aM (i:Nat):RE:=λρ Q=>match ρ[i]? with
 | some (some (.d d))=>Q d
 | some (some (.own xs))=>Q (.lst xs)
 | _=>False
theorem dv (i:Nat) {x:Str} (hN:X.N[i]? = some x:=by rfl) (hv:Vis X.env.scope x:=by walk_at "vis") (hd:(x == ("__debug__":Str))=false:=by decide)
  (hcd:(x == ("__classdict__":Str))=false:=by decide):DE X (.Name x pos) (bY i):=by
 refine PE.mono (pv i hN hv hd hcd) λσ H Q hh=>gW hh λρ P st q k=>?_
 unfold bY at q
 split at q
 ·rename_i d e
  obtain⟨v,h1,h2⟩:=st.rel i _ e
  exact⟨v,h1,k d v H q (Same.refl H) h2⟩
 ·exact q.elim
theorem dvb (i:Nat) {x:Str} (hN:X.N[i]? = some x:=by rfl) (hv:Vis X.env.scope x:=by walk_at "vis") (hd:(x == ("__debug__":Str))=false:=by decide)
  (hcd:(x == ("__classdict__":Str))=false:=by decide):DB X (.Name x pos) (aM i):=by
 refine PE.mono (pv i hN hv hd hcd) λσ H Q hh=>gW hh λρ P st q k=>?_
 unfold aM at q
 split at q
 ·rename_i d e
  obtain⟨v,h1,h2⟩:=st.rel i _ e
  exact⟨v,h1,k _ v H q (Same.refl H) (.inl h2)⟩
 ·rename_i xs e
  obtain⟨v,h1,h2⟩:=st.rel i _ e
  obtain⟨a,vs,e1,e2,_,r⟩:=h2
  exact⟨v,h1,k _ v H q (Same.refl H) (.inr ⟨xs,a,vs,rfl,e1,e2,r⟩)⟩
 ·exact q.elim
def rC (d:D):RE:=λ_ Q=>Q d
theorem kE {i:Int} {j:Nat}:DE X (.Constant (.int i) j pos) (rC (.int i)):=PE.mono ZK λσ H Q hh=>gW hh λρ P st q k=>k _ _ H q (Same.refl H) (.int i)
theorem FI {i:Bool} {j:Nat}:DE X (.Constant (.bool i) j pos) (rC (.bl i)):=PE.mono Tu λσ H Q hh=>gW hh λρ P st q k=>k _ _ H q (Same.refl H) (.bl i)
theorem LC {j:Nat}:DE X (.Constant .none j pos) (rC .non):=PE.mono Qx λσ H Q hh=>gW hh λρ P st q k=>k _ _ H q (Same.refl H) .non
abbrev R22:=D->D->(D->Prop)->Prop
def Ox (X:Cx) (r:R22):R2:=λx y H Q=>∃d e P,RepB X.K H d x/\RepB X.K H e y/\r d e P/\∀z v H',P z->Same H H'->Rep X.K H' z v->Q v H'
def OpD (X:Cx) (f:aB->aB->Sem aB) (r:R22):Prop:=OpR X f (Ox X r)
def r2 (r:R22) (ta tb:RE):RE:=λρ Q=>ta ρ λx=>tb ρ λy=>r x y Q
variable {ta tb tc:RE}
theorem Je {r:R22} {σ:St} {H:Hp} {Q:VK} (h:Jg X (r2 r ta tb) σ H Q):tOp (Ox X r) (Jf X ta) (Jf X tb) σ H Q:=by
 obtain⟨ρ,P,st,ht,hP⟩:=h
 exact⟨ρ,_,st,ht,λx v H1 h1 s1 r1=>⟨ρ,_,st.ext s1,h1,λy u H2 h2 s2 r2=>⟨x,y,P,r1.same s2,r2,h2,λz w H' hz s3 r3=>hP z w H' hz ((s1.trans s2).trans s3) r3⟩⟩⟩
theorem bN {op:Operator} {r:R22} (ho:OpD X (binaryOp op) r) (ha:DB X a ta) (hb:DB X b tb):DE X (.BinOp a op b pos) (r2 r ta tb):=PE.mono (Tv ho ha hb) λσ H Q h=>Je h
theorem GY {op:CmpOp} {r:R22} (ho:OpD X (compareOp op) r) (ha:DB X a ta) (hb:DB X b tb) (hm:behindInMarks op b=false:=by exact Jl _):DE X (.Compare a [op] [b] pos) (r2 r ta tb):=PE.mono (Nn ho ha hb hm) λσ H Q h=>Je h
def fU (t:RE):RT:=λρ Q=>t ρ λd=>match d with
 | .bl k=>Q k
 | _=>False
theorem kK {op:CmpOp} {r:R22} (ho:OpD X (compareOp op) r) (ha:DB X a ta) (hb:DB X b tb) (hm:behindInMarks op b=false:=by exact Jl _):DT X (.Compare a [op] [b] pos) (fU (r2 r ta tb)):=by
 refine PT.mono (Nu ho ha hb hm) λσ H Q hh=>gW hh λρ P st q k=>?_
 refine Je (Q:=λx H'=>∃k,x = .bl k/\Q k H') ⟨ρ,_,st,q,λd v H' hd s r=>?_⟩
 cases d with
 | bl b=>exact⟨b,r.bl_inv,k b H' hd s⟩
 | _=>exact hd.elim
theorem DL (h:DE X e ta) (he:∀whole,isTrue e X.env whole=(do let v <-whole;standAt e.pos;holding [v] (truthy v)):=by intro _;rfl):DT X e (fU ta):=by
 refine PT.mono (Rl h he) λσ H Q hh=>gW hh λρ P st q k=>?_
 refine⟨ρ,_,st,q,λd v H' hd s r=>?_⟩
 cases d with
 | bl b=>exact⟨b,r.bl_inv,k b H' hd s⟩
 | _=>exact hd.elim
def Ke (t u:RT):RT:=λρ Q=>t ρ λc=>if c=true then u ρ Q else Q false
def rOr (t u:RT):RT:=λρ Q=>t ρ λc=>if c=true then Q true else u ρ Q
def WV (t:RT):RT:=λρ Q=>t ρ λc=>Q (!c)
variable {tA tB:RT} {rest:List Expr}
theorem Lz (ha:DT X a tA):DW X (.BoolOp .And [a] pos) tA:=Nv ha
theorem YK (ha:DT X a tA):DW X (.BoolOp .Or [a] pos) tA:=Ro ha
theorem Pu (ha:DT X a tA) (hb:DW X (.BoolOp .And (b::rest) pos) tB):DW X (.BoolOp .And (a::b::rest) pos) (Ke tA tB) :=
 PW.mono (Rn ha hb) λσ H Q hh=>gW hh λρ P st q k=>⟨ρ,_,st,q,λc H1 hc s1=>by
  cases c with
  | true=>rw[if_pos rfl] at hc ⊢;exact⟨ρ,P,st.ext s1,hc,λd H2 hd s2=>k d H2 hd (s1.trans s2)⟩
  | false=>rw[if_neg bS] at hc ⊢;exact k false H1 hc s1⟩
theorem PR (ha:DT X a tA) (hb:DW X (.BoolOp .Or (b::rest) pos) tB):DW X (.BoolOp .Or (a::b::rest) pos) (rOr tA tB) :=
 PW.mono (Tz ha hb) λσ H Q hh=>gW hh λρ P st q k=>⟨ρ,_,st,q,λc H1 hc s1=>by
  cases c with
  | false=>rw[if_neg bS] at hc ⊢;exact⟨ρ,P,st.ext s1,hc,λd H2 hd s2=>k d H2 hd (s1.trans s2)⟩
  | true=>rw[if_pos rfl] at hc ⊢;exact k true H1 hc s1⟩
theorem DW.tst (h:DW X e tA):DT X e tA:=PW.pt h
theorem LJ (ha:DT X a tA):DT X (.UnaryOp .Not a pos) (WV tA):=PT.mono (Rk ha) λσ H Q hh=>gW hh λρ P st q k=>⟨ρ,_,st,q,λc H1 hc s1=>k _ H1 hc s1⟩
def IM (ta tb:RE):RE:=λρ Q=>ta ρ λd=>match d with
 | .bl k=>if k=true then tb ρ Q else Q (.bl false)
 | _=>False
def Rp (ta tb:RE):RE:=λρ Q=>ta ρ λd=>match d with
 | .bl k=>if k=true then Q (.bl true) else tb ρ Q
 | _=>False
def Ck (ta:RE):RE:=λρ Q=>ta ρ λd=>match d with
 | .bl k=>Q (.bl (!k))
 | _=>False
theorem RN {op} (h:DE X a ta):DE X (.BoolOp op [a] pos) ta:=Qz h
theorem RL (ha:DE X a ta) (hb:DE X (.BoolOp .And (b::rest) pos) tb):DE X (.BoolOp .And (a::b::rest) pos) (IM ta tb) :=
 PE.mono (Qv ha hb) λσ H Q hh=>gW hh λρ P st q k=>⟨ρ,_,st,q,λd v H1 hd s1 r=>by
  cases d with
  | bl c =>
   refine⟨c,r.bl_inv,?_⟩
   cases c with
   | true=>exact⟨ρ,P,st.ext s1,hd,λd v H2 hd s2=>k d v H2 hd (s1.trans s2)⟩
   | false=>exact k (.bl false) (.bl false) H1 hd s1 (.bl false)
  | _=>exact hd.elim⟩
theorem Sw (ha:DE X a ta) (hb:DE X (.BoolOp .Or (b::rest) pos) tb):DE X (.BoolOp .Or (a::b::rest) pos) (Rp ta tb) :=
 PE.mono (Tw ha hb) λσ H Q hh=>gW hh λρ P st q k=>⟨ρ,_,st,q,λd v H1 hd s1 r=>by
  cases d with
  | bl c =>
   refine⟨c,r.bl_inv,?_⟩
   cases c with
   | true=>exact k (.bl true) (.bl true) H1 hd s1 (.bl true)
   | false=>exact⟨ρ,P,st.ext s1,hd,λd v H2 hd s2=>k d v H2 hd (s1.trans s2)⟩
  | _=>exact hd.elim⟩
theorem Hg (ha:DE X a ta):DE X (.UnaryOp .Not a pos) (Ck ta) :=
 PE.mono (Qy ha) λσ H Q hh=>gW hh λρ P st q k=>⟨ρ,_,st,q,λd v H1 hd s1 r=>by
  cases d with
  | bl c=>exact⟨c,r.bl_inv,k (.bl !c) (.bl !c) H1 hd s1 (.bl _)⟩
  | _=>exact hd.elim⟩
def rIf (t:RT) (ta tb:RE):RE:=λρ Q=>t ρ λc=>if c=true then ta ρ Q else tb ρ Q
def Tl (X:Cx) (r:D->(D->Prop)->Prop):V->Hp->VK->Prop:=λx H Q=>∃d P,RepB X.K H d x/\r d P/\∀z v H',P z->Same H H'->Rep X.K H' z v->Q v H'
def UnD (X:Cx) (f:aB->Sem aB) (r:D->(D->Prop)->Prop):Prop:=UnR X f (Tl X r)
def r1 (r:D->(D->Prop)->Prop) (ta:RE):RE:=λρ Q=>ta ρ λx=>r x Q
theorem BE {op:UnaryOp} {r:D->(D->Prop)->Prop} (ho:UnD X (unaryOp op) r) (ha:DB X a ta):DE X (.UnaryOp op a pos) (r1 r ta) :=
 PE.mono (Tx ho ha) λσ H Q hh=>gW hh λρ P st q k=>⟨ρ,_,st,q,λd v H1 hd s1 rr=>⟨d,P,rr,hd,λz v H2 hz s2 r2=>k z v H2 hz (s1.trans s2) r2⟩⟩
def bI:RA:=λ_ Q=>Q []
def aG (t:RE) (u:RA):RA:=λρ Q=>t ρ λx=>u ρ λxs=>Q (x::xs)
variable {es:List Expr} {t:RA}
theorem bE:DA X [] bI:=PA.mono qF λσ H Q hh=>gW hh λρ P st q k=>k [] [] H q (Same.refl H) .nil
theorem aE (ha:DE X e ta) (hr:DA X es t) (hs:starEach (e::es) X.env=(false,eval e X.env)::starEach es X.env:=by rfl):DA X (e::es) (aG ta t) :=
 PA.mono (jN ha hr hs) λσ H Q hh=>gW hh λρ P st q k=>⟨ρ,_,st,q,λd v H1 hd s1 r1=>⟨ρ,_,st.ext s1,hd,λds vs H2 hds s2 r2=>k (d::ds) (v::vs) H2 hds (s1.trans s2) (.cons (r1.keep (.of s2)) r2)⟩⟩
def oK (t:RA):RE:=λρ Q=>t ρ λds=>Sz ds.length/\Q (.tup ds)
theorem gX {x1} (h:DA X es t):DE X (.Tuple es x1 pos) (oK t) :=
 PE.mono (Ju h) λσ H Q hh=>gW hh λρ P st q k=>⟨ρ,_,st,q,λds vs H1 hd s1 r=>⟨by rw[<-r.length];exact hd.1.ok,λp hp=>k (.tup ds) (.ref p) _ hd.2 (Same.upd_new s1 (s1.free hp) λ_ z=>by rw[hp] at z;cases z) (by
  have sm:Same H1 (upd H1 p (.tup vs)):=Same.fn λb u e=>by rw[bM (cB e hp)];exact e
  exact .tup cR (r.keep (.of sm)))⟩⟩
def tG (t:RA):RA:=λρ Q=>t ρ λds=>Sz ds.length/\Q ds
theorem pD (h:DA X es t):DO X (.List es pos) (tG t) :=
 PE.mono (MM h) λσ H Q hh=>gW hh λρ P st q k=>⟨ρ,_,st,q,λds vs H1 hd s1 r=>⟨by rw[<-r.length];exact hd.1.ok,λp hp=>k ds p vs H1 hd.2 s1 hp r⟩⟩
end
section
variable {X:Cx} {e a b c:Expr} {pos:Pos} {st:Stmt} {rest:List Stmt} {t u:RS} {te:RE} {tA:RT}
def eE (t u:RS):RS:=λE ρ=>t { E with nx:=u E } ρ
def nP:RS:=λE ρ=>E.nx ρ
theorem kX:DSs X [] nP:=PSs.mono Cf λDe σ H hh=>kL hh λρ E st q n r b c=>n ρ σ H q (Keep.refl H) st
theorem cC (h:DS X st t):DSs X [st] t:=JV h
theorem aY (h1:DS X st t) (h2:DSs X rest u):DSs X (st::rest) (eE t u) :=
 PSs.mono (MQ h1 h2) λDe σ H hh=>kL hh λρ E st q n r b c=>⟨ρ,_,st,q,λρ' σ' H' h k s=>⟨ρ',E,s,h,λρ2 σ2 H2 x k2=>n ρ2 σ2 H2 x (k.trans k2),λd v H2 x k2=>r d v H2 x (k.trans k2),λρ2 σ2 H2 x k2=>b ρ2 σ2 H2 x (k.trans k2),λρ2 σ2 H2 x k2=>c ρ2 σ2 H2 x (k.trans k2)⟩,r,b,c⟩
theorem Hr:DS X st (λ_ _=>False):=PS.mono Jy λDe σ H ⟨ρ,E,st,q,_⟩=>q
def fZ (te:RE):RS:=λE ρ=>te ρ E.rt
theorem eA (h:DE X e te):DS X (.Return (some e) pos) (fZ te) :=
 PS.mono (Rj h) λDe σ H hh=>kL hh λρ E st q n r b c=>⟨ρ,_,st,q,λd v H1 hd s1 rr=>r d v H1 hd (.of s1) (st.same.trans s1) rr⟩
def QO (te:RE):RS:=λE ρ=>te ρ λ_=>E.nx ρ
theorem Bd (h:DE X e te) (hs:swapsWith e none pos.line X.env=pure false:=by rfl):DS X (.Expr e pos) (QO te) :=
 PS.mono (wS h hs) λDe σ H hh=>kL hh λρ E st q n r b c=>⟨ρ,_,st,q,λd v H1 hd s1 rr=>n ρ σ H1 hd (.of s1) (st.ext s1)⟩
def tF (c:RT) (t u:RS):RS:=λE ρ=>c ρ λk=>if k=true then t E ρ else u E ρ
theorem sN {sa sb:List Stmt} (hc:DT X c tA) (ha:DSs X sa t) (hb:DSs X sb u):DS X (.If c sa sb pos) (tF tA t u) :=
 PS.mono (Pd hc ha hb) λDe σ H hh=>kL hh λρ E st q n r b c=>⟨ρ,_,st,q,λk H1 hk s1=>by
  cases k with
  | true=>rw[if_pos rfl] at hk ⊢;exact⟨ρ,E,st.ext s1,hk,λρ2 σ2 H2 x k2=>n ρ2 σ2 H2 x ((Keep.of s1).trans k2),λd v H2 x k2=>r d v H2 x ((Keep.of s1).trans k2),λρ2 σ2 H2 x k2=>b ρ2 σ2 H2 x ((Keep.of s1).trans k2),λρ2 σ2 H2 x k2=>c ρ2 σ2 H2 x ((Keep.of s1).trans k2)⟩
  | false=>rw[if_neg bS] at hk ⊢;exact⟨ρ,E,st.ext s1,hk,λρ2 σ2 H2 x k2=>n ρ2 σ2 H2 x ((Keep.of s1).trans k2),λd v H2 x k2=>r d v H2 x ((Keep.of s1).trans k2),λρ2 σ2 H2 x k2=>b ρ2 σ2 H2 x ((Keep.of s1).trans k2),λρ2 σ2 H2 x k2=>c ρ2 σ2 H2 x ((Keep.of s1).trans k2)⟩⟩
def dH (i:Nat):RG:=λd ρ Q=>Q (ρ.set i (some (.d d)))
theorem dS {i:Nat} {x:Str} (hN:X.N.Nodup) (hi:X.N[i]? = some x:=by rfl) (hx:Loc X.env.scope x:=by walk_at "vis") (hf:X.fn x=true\/X.env.scope.names.lookup x=some .local:=by walk_at "loc"):DG X (.Name x pos) (dH i) :=
 PG.mono (Nq hN hi hx hf) λv σ H Q hh=>RZ hh λd ρ P r st q k=>k _ _ H q (Keep.refl H) (st.set_d r)
abbrev RGs:=List D->En->(En->Prop)->Prop
def Qm (X:Cx) (g:RGs):TGs:=λvs σ H Q=>∃ds ρ P,Reps X.K H ds vs/\StOk X ρ σ H/\g ds ρ P/\∀ρ' σ' H',P ρ'->Keep H H'->StOk X ρ' σ' H'->Q σ' H'
def DGs (X:Cx) (ts:List Expr) (g:RGs):Prop:=PGs X ts (Qm X g)
theorem PGs.mono {X:Cx} {e:List Expr} {t t':TGs} (h:PGs X e t) (m:∀v σ H Q,t' v σ H Q->t v σ H Q):PGs X e t':=λpins s σ H v u Q I r q=>h pins s σ H v u Q I r (m v σ H Q q)
def pG:RGs:=λds ρ Q=>match ds with
 | []=>Q ρ
 | _=>False
def fP (g:RG) (u:RGs):RGs:=λds ρ Q=>match ds with
 | []=>False
 | d::r=>g d ρ λρ'=>u r ρ' Q
theorem mS:DGs X [] pG:=PGs.mono Nr λvs σ H Q hh=>RZ hh λds ρ P r st q k=>by
 cases r with
 | nil=>exact⟨rfl,k ρ σ H q (Keep.refl H) st⟩
 | cons _ _=>exact q.elim
theorem eV {es:List Expr} {g:RG} {u:RGs} (h1:DG X e g) (h2:DGs X es u) (hs:(assignEach (e::es) X.env).map (·.2)=assign e X.env::(assignEach es X.env).map (·.2):=by rfl):DGs X (e::es) (fP g u) :=
 PGs.mono (Jv h1 h2 hs) λvs σ H Q hh=>RZ hh λds ρ P r st q k=>by
  cases r with
  | nil=>exact q.elim
  | cons r rs =>
   refine⟨_,_,rfl,_,ρ,_,r,st,q,λρ' σ' H' hq k1 st1=>⟨_,ρ',P,rs.keep k1,st1,hq,λρ2 σ2 H2 p k2 s2=>k ρ2 σ2 H2 p (k1.trans k2) s2⟩⟩
def qN (n:Nat) (g:RGs):RG:=λd ρ Q=>match d with
 | .tup ds=>ds.length=n/\g ds ρ Q
 | _=>False
theorem qT {es:List Expr} {k:Nat} {g:RGs} {n:Nat} (hc:X.calm=true) (h:DGs X es g) (hn:(assignEach es X.env).length=n:=by rfl) (hst:(assignEach es X.env).findIdx? (·.1)=none:=by rfl):DG X (.Tuple es k pos) (qN n g) :=
 PG.mono (Rc hc h hn hst) λv σ H Q hh=>RZ hh λd ρ P r st q kk=>by
  cases d with
  | tup ds =>
   cases r with
   | tup h r=>exact⟨_,_,rfl,SqT.of h,by rw[<-r.length];exact q.1,ds,ρ,P,r,st,q.2,kk⟩
  | _=>exact q.elim
def ZU (te:RE) (g:RG):RS:=λE ρ=>te ρ λd=>g d ρ E.nx
theorem RW {tg:Expr} {g:RG} (he:DE X e te) (hg:DG X tg g) (hs:swapsWithSole [tg] e pos.line X.env=pure false:=by rfl) (hw:swappedStores [tg] e X.env=pure none:=by rfl)
  (h1:(assignEach [tg] X.env).map (·.2)=[assign tg X.env]:=by rfl):DS X (.Assign [tg] e pos) (ZU te g) :=
 PS.mono (Rf he hg hs hw h1) λDe σ H hh=>kL hh λρ E st q n r b c=>⟨ρ,_,st,q,λd v H1 hd s1 rr=>⟨d,ρ,_,rr,st.ext s1,hd,λρ2 σ2 H2 x k2 s2=>n ρ2 σ2 H2 x ((Keep.of s1).trans k2) s2⟩⟩
def fF (i:Nat) (te:RE):RS:=λE ρ=>te ρ λd=>E.nx (ρ.set i (some (.d d)))
theorem dF {i:Nat} {x:Str} {pos':Pos} (hN:X.N.Nodup) (he:DE X e te) (hi:X.N[i]? = some x:=by rfl) (hx:Loc X.env.scope x:=by walk_at "vis") (hs:swapsWith e (some (.Name x pos')) pos.line X.env=pure false:=by rfl)
  (hf:X.fn x=true\/X.env.scope.names.lookup x=some .local:=by walk_at "loc"):DS X (.Assign [.Name x pos'] e pos) (fF i te) :=
 PS.mono (MP hN hi hx he hs hf) λDe σ H hh=>kL hh λρ E st q n r b c=>⟨ρ,_,st,q,λd v H1 hd s1 rr=>n _ _ H1 hd (.of s1) ((st.ext s1).set_d rr)⟩
def IN (i:Nat) (t:RA):RS:=λE ρ=>t ρ λds=>E.nx (ρ.set i (some (.own ds)))
theorem RX {i:Nat} {x:Str} {pos':Pos} {t:RA} (hN:X.N.Nodup) (he:DO X e t) (hi:X.N[i]? = some x:=by rfl) (hx:Loc X.env.scope x:=by walk_at "vis") (hs:swapsWith e (some (.Name x pos')) pos.line X.env=pure false:=by rfl)
  (hf:X.fn x=true\/X.env.scope.names.lookup x=some .local:=by walk_at "loc"):DS X (.Assign [.Name x pos'] e pos) (IN i t) :=
 PS.mono (MP hN hi hx he hs hf) λDe σ H hh=>kL hh λρ E st q n r b c=>⟨ρ,_,st,q,λds p vs H1 hd s1 hp rr=>n _ _ _ hd ((Keep.of s1).trans (.of (.fn λb o h=>by rw[bM (cB h hp)];exact h))) ((st.ext s1).set_own hp rr)⟩
def Rq (i j:Nat) (t:RA):RS:=λE ρ=>t ρ λds=>match ds with
 | [x,y]=>E.nx ((ρ.set i (some (.d x))).set j (some (.d y)))
 | _=>False
theorem Pr {i j:Nat} {x y:Str} {t:RA} {px py pt:Pos} {kt k2 pt2} (hc:X.calm=true) (hN:X.N.Nodup) (ha:DA X [a,b] t) (hi:X.N[i]? = some x:=by rfl) (hj:X.N[j]? = some y:=by rfl) (hij:i≠j:=by decide)
  (hx:X.env.scope.names.lookup x=some .local:=by rfl) (hy:X.env.scope.names.lookup y=some .local:=by rfl)
  (hw:swappedStores [.Tuple [.Name x px,.Name y py] kt pt] (.Tuple [a,b] k2 pt2) X.env=pure (some [x,y]):=by rfl)
  (hs:swapsWithSole [.Tuple [.Name x px,.Name y py] kt pt] (.Tuple [a,b] k2 pt2) pos.line X.env=pure false:=by rfl) :
  DS X (.Assign [.Tuple [.Name x px,.Name y py] kt pt] (.Tuple [a,b] k2 pt2) pos) (Rq i j t) :=
 PS.mono (Ri hc hN hi hj hij hx hy ha hw hs) λDe σ H hh=>kL hh λρ E st q n r b c=>⟨ρ,_,st,q,λds vs H1 hd s1 rr=>by
  cases rr with
  | nil=>exact hd.elim
  | cons r1 t1 =>
   cases t1 with
   | nil=>exact hd.elim
   | cons r2 t2 =>
    cases t2 with
    | nil=>exact⟨_,_,rfl,n _ _ H1 hd (.of s1) (((st.ext s1).set_d r1).set_d r2)⟩
    | cons _ _=>exact hd.elim⟩
def JB (i:Nat) (ρ:En):En:=match ρ[i]? with
 | some (some x)=>ρ.set i (some x.fz)
 | _=>ρ
theorem Be (i:Nat) (h:DS X st t):DS X st (λE ρ=>t E (JB i ρ)):=by
 intro pins s σ H De I ⟨ρ,E,so,q,n,r,b,c⟩
 have q:t E (JB i ρ):=q
 unfold JB at q
 split at q
 ·rename_i x e
  obtain⟨H2,I2,so2,kp⟩:=so.fz I e
  exact h pins s σ _ De I2 ⟨_,E,so2,q,λρ2 σ2 H2 x k2=>n ρ2 σ2 H2 x (kp.trans k2),λd v H2 x k2=>r d v H2 x (kp.trans k2),λρ2 σ2 H2 x k2=>b ρ2 σ2 H2 x (kp.trans k2),λρ2 σ2 H2 x k2=>c ρ2 σ2 H2 x (kp.trans k2)⟩
 ·exact h pins s σ H De I ⟨ρ,E,so,q,n,r,b,c⟩
def pJ (c:RT) (t:RS):Nat->RS
 | 0,_,_=>False
 | n+1,E,ρ=>c ρ λk=>if k=true then t { E with nx:=pJ c t n E,ct:=pJ c t n E,bk:=E.nx } ρ else E.nx ρ
def DU (c:RT) (t:RS):RS:=λE ρ=>∃n,pJ c t n E ρ
theorem LI {body:List Stmt} (hp:PassesOwn (model X.prog X.w) X.A X.env X.xe) (hc:DT X c tA) (hb:DSs X body t):DS X (.While c body [] pos) (DU tA t) :=
 PS.mono (Jz hp hc hb) λDe σ H hh=>kL hh λρ E st mq n r b c=>by
  obtain⟨m,q⟩:=mq
  refine⟨λm σ' H'=>∃ρ',StOk X ρ' σ' H'/\Keep H H'/\pJ tA t m E ρ',⟨m,ρ,st,Keep.refl H,q⟩,?_⟩
  rintro m σ' H' ⟨ρ',st',kp,hw⟩
  cases m with
  | zero=>exact hw.elim
  | succ m =>
   refine⟨ρ',_,st',hw,λk H1 hk s1=>?_⟩
   have kp1:=kp.trans (.of s1)
   cases k with
   | true =>
    dsimp only at hk ⊢
    rw[if_pos rfl] at hk ⊢
    refine⟨λσ2 H2=>∃ρ2,StOk X ρ2 σ2 H2/\Keep H H2/\pJ tA t m E ρ2,λσ2 H2 ⟨ρ2,a1,a2,a3⟩=>⟨m,mP m,ρ2,a1,a2,a3⟩,?_⟩
    exact⟨ρ',_,st'.ext s1,hk,λρ2 σ2 H2 x k2 s2=>⟨ρ2,s2,kp1.trans k2,x⟩,λd v H2 x k2=>r d v H2 x (kp1.trans k2),λρ2 σ2 H2 x k2=>n ρ2 σ2 H2 x (kp1.trans k2),λρ2 σ2 H2 x k2 s2=>⟨ρ2,s2,kp1.trans k2,x⟩⟩
   | false =>
    dsimp only at hk ⊢
    rw[if_neg bS] at hk ⊢
    exact n ρ' σ' H1 hk kp1 (st'.ext s1)
def Ge (X:Cx) (J:It) (xs:List D) (H0:Hp):Prop:=∀i H,Keep H0 H ->
 (∀d,xs[i]? = some d->J.go i H/\∀x H',J.yld i H x H'->Same H H'/\Rep X.K H' d x)/\(xs.length<=i->J.stop i H)
def Ti (X:Cx) (t:RA):TI:=λσ H R=>∃ρ P,StOk X ρ σ H/\t ρ P/\∀xs J H',P xs->Same H H'->Ge X J xs H'->R J H'
def DI (X:Cx) (tg iter:Expr) (t:RA):Prop:=PI X tg iter (Ti X t)
theorem PI.mono {X:Cx} {tg e:Expr} {t t':TI} (h:PI X tg e t) (m:∀σ H Q,t' σ H Q->t σ H Q):PI X tg e t':=λpins s σ H Q I q=>h pins s σ H Q I (m σ H Q q)
def UY (g:RG) (t:RS):List D->RS
 | [],E,ρ=>E.nx ρ
 | x::xs,E,ρ=>g x ρ λρ1=>t { E with nx:=UY g t xs E,ct:=UY g t xs E,bk:=E.nx } ρ1
def rQ (ti:RA) (g:RG) (t:RS):RS:=λE ρ=>ti ρ λxs=>UY g t xs E ρ
theorem pE {tg iter:Expr} {body:List Stmt} {ti:RA} {g:RG} (hp:PassesOwn (model X.prog X.w) X.A X.env X.xe) (hc:X.calm=true) (hi:DI X tg iter ti) (hg:DG X tg g) (hb:DSs X body t)
  (hs:∀x,foldedSetIterable iter X.env x=pure x:=by intro _;rfl):DS X (.For tg iter body [] pos) (rQ ti g t) :=
 PS.mono (Rh hp hc hi hg hb hs) λDe σ H hh=>kL hh λρ E st q n r b c=>by
  refine⟨ρ,_,st,q,λxs J H1 hx s1 ok=>?_⟩
  refine⟨λi m σ' H'=>m=xs.length-i/\i<=xs.length/\∃ρ',StOk X ρ' σ' H'/\Keep H1 H'/\UY g t (xs.drop i) E ρ',⟨xs.length,by simp,dY _,ρ,st.ext s1,Keep.refl H1,by simpa using hx⟩,?_⟩
  rintro i m σ' H' ⟨rfl,hi,ρ',st',kp,hf⟩
  obtain⟨o1,o2⟩:=ok i H' kp
  have kp1:Keep H H':=(Keep.of s1).trans kp
  by_cases hlt:i<xs.length
  ·have e:xs.drop i=xs[i]::xs.drop (i+1):=fQ hlt
   rw[e] at hf
   obtain⟨go,yl⟩:=o1 xs[i] (aC hlt)
   refine .inr ⟨go,λσ2 H2=>∃ρ2,StOk X ρ2 σ2 H2/\Keep H1 H2/\UY g t (xs.drop (i+1)) E ρ2,λσ2 H2 hh=>⟨xs.length-(i+1),by omega,rfl,hlt,hh⟩,λx H2 y=>?_⟩
   obtain⟨s2,rx⟩:=yl x H2 y
   refine⟨xs[i],ρ',_,rx,st'.ext s2,hf,λρ3 σ3 H3 h3 k3 s3=>?_⟩
   have k13:Keep H1 H3:=(kp.trans (.of s2)).trans k3
   have k03:Keep H H3:=(kp1.trans (.of s2)).trans k3
   exact⟨ρ3,_,s3,h3,λρ4 σ4 H4 x4 k4 s4=>⟨ρ4,s4,k13.trans k4,x4⟩,λd v H4 x4 k4=>r d v H4 x4 (k03.trans k4),λρ4 σ4 H4 x4 k4=>n ρ4 σ4 H4 x4 (k03.trans k4),λρ4 σ4 H4 x4 k4 s4=>⟨ρ4,s4,k13.trans k4,x4⟩⟩
  ·have e:i=xs.length:=by omega
   subst e
   rw[GL] at hf
   exact .inl ⟨o2 (aZ _),n ρ' σ' H' hf kp1 st'⟩
end
section
variable {X:Cx} {tg e:Expr} {te:RE} {pos p:Pos}
def riL (te:RE):RA:=λρ Q=>te ρ λd=>match d with
 | .lst ds=>Q ds
 | _=>False
theorem lS (h:DE X e te):DI X tg e (riL te):=by
 refine PI.mono (Nt h) λσ H R hh=>gW hh λρ P st q k=>⟨ρ,_,st,q,λd v H1 hd s1 r=>?_⟩
 cases d with
 | lst ds =>
  cases r with
  | @lst a vs _ hz r =>
   refine⟨a,rfl,⟨vs,hz.sq⟩,k ds _ H1 hd s1 λi H2 kp=>⟨λd e=>?_,λhl=>⟨vs,(hz.keep kp).sq,by rw[<-r.length];exact hl⟩⟩⟩
   obtain⟨v,h1,h2⟩:=(r.keep kp).get e
   refine⟨⟨vs,v,(hz.keep kp).sq,h1⟩,λx H' y=>?_⟩
   obtain⟨e1,e2⟩:=y
   subst e1
   have e3:=e2 vs (hz.keep kp).sq
   rw[h1] at e3;cases e3
   exact⟨Same.refl _,h2⟩
 | _=>exact hd.elim
def riT (te:RE):RA:=λρ Q=>te ρ λd=>match d with
 | .tup ds=>Q ds
 | _=>False
theorem Hi (h:DE X e te):DI X tg e (riT te):=by
 refine PI.mono (Re h) λσ H R hh=>gW hh λρ P st q k=>⟨ρ,_,st,q,λd v H1 hd s1 r=>?_⟩
 cases d with
 | tup ds =>
  cases r with
  | @tup a vs _ hz r =>
   refine⟨a,rfl,⟨vs,SqT.of hz⟩,k ds _ H1 hd s1 λi H2 kp=>⟨λd e=>?_,λhl=>⟨vs,SqT.of (kp.tups _ _ hz),by rw[<-r.length];exact hl⟩⟩⟩
   obtain⟨v,h1,h2⟩:=(r.keep kp).get e
   refine⟨⟨vs,v,SqT.of (kp.tups _ _ hz),h1⟩,λx H' y=>?_⟩
   obtain⟨e1,e2⟩:=y
   subst e1
   have e3:=e2 vs (SqT.of (kp.tups _ _ hz))
   rw[h1] at e3;cases e3
   exact⟨Same.refl _,h2⟩
 | _=>exact hd.elim
def qW (lo:Int) (n:Nat):List D:=(cV n).map λk:Nat=>D.int (lo+(k:Int))
theorem Ip {H0:Hp} (lo:Int) (n:Nat):Ge X (Itr lo n) (qW lo n) H0:=λi H kp=>by
 refine⟨λd e=>?_,λhl=>by show n<=i;simpa [qW] using hl⟩
 unfold qW at e
 rw[aT] at e
 by_cases hi:i<n
 ·rw[AO hi] at e
  cases e
  exact⟨hi,λx H' y=>by obtain⟨rfl,rfl⟩:=y;exact⟨Same.refl _,.int _⟩⟩
 ·rw[gZ (by simpa using hi)] at e;cases e
structure RngOk (j:Int):Prop where
 lo:-(2 ^ 62)<=j
 hi:j<2 ^ 62
def XD (t:RA):RA:=λρ Q=>t ρ λds=>match ds with
 | [.int j]=>RngOk j/\Q (qW 0 j.toNat)
 | _=>False
def Rw (t:RA):RA:=λρ Q=>t ρ λds=>match ds with
 | [.int i,.int j]=>(RngOk i/\RngOk j)/\Q (qW i (j-i).toNat)
 | _=>False
theorem AF {a:Expr} {t:RA} (hm:X.mg "range" = none) (ha:DA X [a] t) (hg:Gl X "range":=by rfl) (hs:starEach [a] X.env=[(false,eval a X.env)]:=by rfl):DI X tg (.Call (.Name "range" p) [a] [] pos) (XD t):=by
 refine PI.mono (Fe hg hm ha hs) λσ H R hh=>gW hh λρ P st q k=>⟨ρ,_,st,q,λds vs H1 hd s1 r=>?_⟩
 split at hd
 ·rename_i j
  rw[Reps.ints_inv (ns:=[j]) r]
  exact⟨j,rfl,hd.1.lo,hd.1.hi,k _ _ H1 hd.2 s1 (Ip 0 _)⟩
 ·exact hd.elim
theorem Ds {a b:Expr} {t:RA} (hm:X.mg "range" = none) (ha:DA X [a,b] t) (hg:Gl X "range":=by rfl) (hs:starEach [a,b] X.env=[(false,eval a X.env),(false,eval b X.env)]:=by rfl) (hs2:starEach [b] X.env=[(false,eval b X.env)]:=by rfl):DI X tg (.Call (.Name "range" p) [a,b] [] pos) (Rw t):=by
 refine PI.mono (Ff hg hm ha hs hs2) λσ H R hh=>gW hh λρ P st q k=>⟨ρ,_,st,q,λds vs H1 hd s1 r=>?_⟩
 split at hd
 ·rename_i i j
  rw[Reps.ints_inv (ns:=[i,j]) r]
  exact⟨i,j,rfl,⟨hd.1.1.lo,hd.1.1.hi,hd.1.2.lo,hd.1.2.hi⟩,k _ _ H1 hd.2 s1 (Ip i _)⟩
 ·exact hd.elim
end
abbrev FD:=List D->(D->Prop)->Prop
def spD (K:aF) (F:FD):Sp:=λvs H Q _=>TabsIn K H/\∃ds P,Reps K H ds vs/\F ds P/\∀d v H',P d->Same H H'->Rep K H' d v->Q v H'
def cQ (F:FD) (t:RA):RE:=λρ Q=>t ρ λds=>F ds Q
section
variable {X:Cx} {k:Nat} {f:Addr} {fd:iC} {ps:List Str} {F:FD} {x:Str} {p pos:Pos} {e:Expr} {es:List Expr} {t:RA}
theorem Ll (G:FnOk X.prog X.w X.K X.mg X.base CX0 k f fd ps (spD X.K F)) (hr:Room k X.A) (hm:X.mg x=some (.ref f)) (hk:fJ X.K (.ref f)=true) (hb:Binds X.K fd ps []) (ha:DA X (e::es) t) (hg:Gl X x:=by rfl)
  (hdb:(x == ("__debug__":Str))=false:=by decide) (he:starEach (e::es) X.env=(false,eval e X.env)::starEach es X.env:=by rfl) (hpl:(backTo pos (starEach es X.env)).any (·.1)=false:=by rfl) :
  DE X (.Call (.Name x p) (e::es) [] pos) (cQ F t) :=
 PE.mono (Nm (E:=E0) G hr hg hm hk hb .nil Tt ha hdb he hpl) λσ H Q hh=>gW hh λρ P st q kk=>⟨ρ,_,st,q,λds vs H1 hd s1 r=>by
  show spD X.K F (vs++[]) H1 Q E0
  rw[dL]
  exact⟨(st.ext s1).tabs,ds,P,r,hd,λd v H2 hp s2 r2=>kk d v H2 hp (s1.trans s2) r2⟩⟩
end
def dO (N:List Str) (ds:List D):En:=ds.map (λd=>some (.d d))++dG (N.length-ds.length) none
section
variable {P:bA} {w:cA} {K:aF} {mg:Str->Option aB} {base:Heap}
theorem XL {X:Cx} {N:List Str} {ds:List D} {vs:List V} (tb:TabsIn X.K X.H₀) (r:Reps X.K X.H₀ ds vs):StOk X (dO N ds) (start N vs) X.H₀:=by
 have hl:=r.length
 have own:∀(i:Nat) (x:S),(dO N ds)[i]? = some (some x)->∃d,x = .d d:=λi x e=>by
  unfold dO at e
  by_cases hi:i<ds.length
  ·rw[dA (by simpa using hi),aT,aC hi] at e
   cases e;exact⟨_,rfl⟩
  ·rw[dP (by simpa using hi),gH] at e
   split at e <;> cases e
 refine⟨by simp[dO,start,hl],Same.refl _,λi x e=>?_,λi j x y v u a e1 _ _ _ o _=>by
  obtain⟨d,rfl⟩:=own i x e1
  exact o.elim,tb⟩
 unfold dO at e
 by_cases hi:i<ds.length
 ·rw[dA (by simpa using hi),aT,aC hi] at e
  cases e
  obtain⟨v,h1,h2⟩:=r.get (aC hi)
  refine⟨v,?_,h2⟩
  unfold start
  rw[dA (by simpa [<-hl] using hi),aT,h1];rfl
 ·rw[dP (by simpa using hi),gH] at e
  split at e <;> cases e
theorem Ot {x qual:Str} {st:Stmt} {f:Addr} {fd:iC} {N ps:List Str} {k:Nat} {F:FD} {t:RS} (Fu:Fun K x qual st f fd) (Sc:FnScope N ps (dR st))
  (hbody:∀(cdv:aB) (A:cE) (outer:List Env) (s:aD) (H:Hp) (E:XK),Room k (A.deeper (envOfC qual (dR st) s.heap.objs.size f cdv)) ->
   DSs (yA CX0 P w K mg base N qual (dR st) f cdv A outer s H E).nox (lR st) t)
  (len:∀ds Q,F ds Q->ds.length=ps.length) (pure:∀ds Q,F ds Q->t { nx:=λ_=>Q .non,rt:=Q } (dO N ds)):FnOk P w K mg base CX0 (k+1) f fd ps (spD K F):=by
 refine Fu.ok Sc (λvs H Q E ⟨_,ds,P,r,h,_⟩=>by rw[<-r.length];exact len ds P h) λcdv A outer s H vs Q E hr ⟨tb,ds,P',r,h,kk⟩=>⟨_,hbody cdv A outer s H E hr,?_⟩
 exact⟨dO N ds,_,XL (X:=(yA CX0 P w K mg base N qual (dR st) f cdv A outer s H E).nox) tb r,pure ds P' h,λρ' σ' H' hq k s'=>kk .non .non H' hq s'.same .non,λd v H' hq k sm rv=>kk d v H' hq sm rv,λ_ _ _ z=>z.elim,λ_ _ _ z=>z.elim⟩
end
def BL (n:Nat) (i:Int):Prop:=i.natAbs<2 ^ n
theorem BL.bits {n:Nat} {i:Int} (h:BL n i):AK i<=n:=LR.mpr h
theorem BL.of {n:Nat} {i:Int} (h:AK i<=n):BL n i:=LR.mp h
theorem BL.mono {m n:Nat} {i:Int} (h:BL m i) (l:m<=n):BL n i:=BL.of (dQ h.bits l)
theorem BL.add {m n:Nat} {i j:Int} (a:BL m i) (b:BL n j):BL (max m n+1) (i+j):=BL.of (intBits_add_le a.bits b.bits)
theorem BL.sub {m n:Nat} {i j:Int} (a:BL m i) (b:BL n j):BL (max m n+1) (i-j):=BL.of (intBits_sub_le a.bits b.bits)
theorem BL.mul {m n:Nat} {i j:Int} (a:BL m i) (b:BL n j):BL (m+n) (i*j):=BL.of (intBits_mul_le a.bits b.bits)
theorem BL.neg {m:Nat} {i:Int} (a:BL m i):BL m (-i):=BL.of (intBits_neg_le a.bits)
theorem BL.fdiv {m:Nat} {i j:Int} (a:BL m i):BL m (i.fdiv j):=BL.of (intBits_fdiv_le a.bits)
theorem BL.le {m:Nat} {i j:Int} (a:BL m j) (h:i.natAbs<=j.natAbs):BL m i:=CY h a
theorem BL.of_lt {m:Nat} {i:Int} (h1:-(2 ^ m:Nat)<i) (h2:i<(2 ^ m:Nat)):BL m i:=by unfold BL;omega
theorem BL.intMulOk {m n:Nat} {i j:Int} (a:BL m i) (b:BL n j) (h:m+n<=134217728):IntMulOk i j:=IntMulOk.of_le a.bits b.bits h
theorem BL.noPy {i j:Int} (h:BL 9000 j):kZ i j=false:=by
 refine PyProof.noPylong_of_log2 ?_
 by_cases h0:j.natAbs=0
 ·rw[h0];decide +kernel
 ·exact (Nat.log2_lt h0).mpr h
section
variable {X:Cx} {e a b c:Expr} {pos:Pos}
theorem RepB.int_inv {K:aF} {H:Hp} {i:Int} {v:V} (h:RepB K H (.int i) v):v = .int i:=by
 rcases h with h | ⟨ds,a,vs,e1,_⟩
 ·exact h.int_inv
 ·cases e1
theorem RepB.bl_inv {K:aF} {H:Hp} {i:Bool} {v:V} (h:RepB K H (.bl i) v):v = .bl i:=by
 rcases h with h | ⟨ds,a,vs,e1,_⟩
 ·exact h.bl_inv
 ·cases e1
theorem RepB.non_inv {K:aF} {H:Hp} {v:V} (h:RepB K H .non v):v = .non:=by
 rcases h with h | ⟨ds,a,vs,e1,_⟩
 ·cases h;rfl
 ·cases e1
theorem RepB.is_non {K:aF} {H:Hp} {d:D} {v:V} (h:RepB K H d v):decide (v = .non)=(match d with | .non=>true | _=>false):=by
 rcases h with h | ⟨ds,a,vs,e1,e2,_⟩
 ·cases h <;> simp
 ·subst e1 e2;simp
structure MulOk (i j:Int):Prop where
 ok:IntMulOk i j
structure DivOk (i j:Int):Prop where
 nz:j≠0
 np:kZ i j=false
structure ModOk (j:Int):Prop where
 nz:j≠0
structure PowOk (i j:Int):Prop where
 ok:0<=j/\j<=1000000/\i.natAbs<2 ^ 64
theorem BL.mulOk {m n:Nat} {i j:Int} (a:BL m i) (b:BL n j) (h:m+n<=134217728:=by decide):MulOk i j:=⟨a.intMulOk b h⟩
theorem BL.divOk {i j:Int} (h:BL 9000 j) (nz:j≠0):DivOk i j:=⟨nz,h.noPy⟩
def nM:R22:=λx y Q=>match x,y with
 | .int i,.int j=>Q (.int (i+j))
 | _,_=>False
def tE:R22:=λx y Q=>match x,y with
 | .int i,.int j=>Q (.int (i-j))
 | _,_=>False
def iJ:R22:=λx y Q=>match x,y with
 | .int i,.int j=>MulOk i j/\Q (.int (i*j))
 | _,_=>False
def iF:R22:=λx y Q=>match x,y with
 | .int i,.int j=>DivOk i j/\Q (.int (i.fdiv j))
 | _,_=>False
def lK:R22:=λx y Q=>match x,y with
 | .int i,.int j=>ModOk j/\Q (.int (i.fmod j))
 | _,_=>False
def Dq:R22:=λx y Q=>match x,y with
 | .int i,.int j=>PowOk i j/\Q (.int (i ^ j.toNat))
 | _,_=>False
theorem Fc {f:aB->aB->Sem aB} {C:Int->Int->Prop} {g:Int->Int->Int} {r:R22} (h:OpR X f (rI C λi j=>.int (g i j)))
  (hr:∀x y Q,r x y Q->∃i j,x = .int i/\y = .int j/\C i j/\Q (.int (g i j))):OpD X f r:=by
 intro pins s σ H x y v u Q I rx ry hh_0
 obtain⟨d,e,P,r1,r2,q,k⟩:=hh_0
 obtain⟨i,j,rfl,rfl,hc,q⟩:=hr _ _ _ q
 exact h pins s σ H x y v u Q I rx ry ⟨i,j,r1.int_inv,r2.int_inv,hc,k _ _ H q (Same.refl H) (.int _)⟩
theorem iS:OpD X (binaryOp .Add) nM:=Fc (C:=λ_ _=>True) (g:=λi j=>i+j) (opI λ_ _ _ _ _ _ _ _ q=>add_int q) λx y Q q=>by
 unfold nM at q;split at q
 ·exact⟨_,_,rfl,rfl,trivial,q⟩
 ·exact q.elim
theorem mJ:OpD X (binaryOp .Sub) tE:=Fc (C:=λ_ _=>True) (g:=λi j=>i-j) (opI λ_ _ _ _ _ _ _ _ q=>sub_int q) λx y Q q=>by
 unfold tE at q;split at q
 ·exact⟨_,_,rfl,rfl,trivial,q⟩
 ·exact q.elim
theorem eO:OpD X (binaryOp .Mult) iJ:=Fc (C:=λi j=>IntMulOk i j) (g:=λi j=>i*j) (opI λ_ _ _ _ _ _ _ hc q=>mul_int q hc) λx y Q q=>by
 unfold iJ at q;split at q
 ·exact⟨_,_,rfl,rfl,q.1.ok,q.2⟩
 ·exact q.elim
theorem fO:OpD X (binaryOp .FloorDiv) iF:=Fc (C:=λi j=>j≠0/\kZ i j=false) (g:=λi j=>i.fdiv j) (opI λ_ _ _ _ _ _ _ hc q=>floordiv_int hc.1 q (.inl hc.2)) λx y Q q=>by
 unfold iF at q;split at q
 ·exact⟨_,_,rfl,rfl,⟨q.1.nz,q.1.np⟩,q.2⟩
 ·exact q.elim
theorem jC:OpD X (binaryOp .Mod) lK:=Fc (C:=λ_ j=>j≠0) (g:=λi j=>i.fmod j) (opI λ_ _ _ _ _ _ _ hc q=>mod_int' hc q) λx y Q q=>by
 unfold lK at q;split at q
 ·exact⟨_,_,rfl,rfl,q.1.nz,q.2⟩
 ·exact q.elim
theorem Jn:OpD X (binaryOp .Pow) Dq:=Fc (C:=λi j=>0<=j/\j<=1000000/\i.natAbs<2 ^ 64) (g:=λi j=>i ^ j.toNat) (opI λ_ _ _ _ _ _ _ hc q=>pow_int_small hc.1 hc.2.1 hc.2.2 q) λx y Q q=>by
 unfold Dq at q;split at q
 ·exact⟨_,_,rfl,rfl,q.1.ok,q.2⟩
 ·exact q.elim
def zB:D->(D->Prop)->Prop:=λx Q=>match x with
 | .int i=>Q (.int (-i))
 | _=>False
theorem uL:UnD X (unaryOp .USub) zB:=by
 intro pins s σ H x v Q I rx hh_0
 obtain⟨d,P,r,q,k⟩:=hh_0
 unfold zB at q;split at q
 ·rename_i i
  exact Sk pins s σ H x v Q I rx ⟨i,r.int_inv,k _ _ H q (Same.refl H) (.int _)⟩
 ·exact q.elim
def vC (p:Int->Int->Bool):R22:=λx y Q=>match x,y with
 | .int i,.int j=>Q (.bl (p i j))
 | _,_=>False
theorem Ni {f:aB->aB->Sem aB} {p:Int->Int->Bool} (h:OpR X f (rI0 λi j=>.bl (p i j))):OpD X f (vC p):=by
 intro pins s σ H x y v u Q I rx ry hh_0
 obtain⟨d,e,P,r1,r2,q,k⟩:=hh_0
 unfold vC at q;split at q
 ·rename_i i j
  exact h pins s σ H x y v u Q I rx ry ⟨i,j,r1.int_inv,r2.int_inv,k _ _ H q (Same.refl H) (.bl _)⟩
 ·exact q.elim
theorem Bt:OpD X (compareOp .Lt) (vC λi j=>decide (i<j)):=Ni Ts
theorem To:OpD X (compareOp .LtE) (vC λi j=>decide (i<=j)):=Ni Tr
theorem Oz:OpD X (compareOp .Gt) (vC λi j=>decide (j<i)):=Ni Tq
theorem Tn:OpD X (compareOp .GtE) (vC λi j=>decide (j<=i)):=Ni Tp
def AR (neg:Bool):R22:=λx y Q=>match x,y with
 | .int i,.int j=>Q (.bl (if neg then !decide (i=j) else decide (i=j)))
 | .bl i,.bl j=>Q (.bl (if neg then !decide (i=j) else decide (i=j)))
 | _,_=>False
theorem SO:OpD X (compareOp .Eq) (AR false):=by
 intro pins s σ H x y v u Q I rx ry hh_0
 obtain⟨d,e,P,r1,r2,q,k⟩:=hh_0
 unfold AR at q;split at q
 ·rename_i i j
  rw[r1.int_inv] at rx;rw[r2.int_inv] at ry
  exact Pb pins s σ H _ _ v u Q I rx ry ⟨rfl,by
   have e:decide (V.int i=V.int j)=decide (i=j):=by simp
   rw[e];exact k _ _ H q (Same.refl H) (.bl _)⟩
 ·rename_i i j
  rw[r1.bl_inv] at rx;rw[r2.bl_inv] at ry
  exact Pb pins s σ H _ _ v u Q I rx ry ⟨rfl,by
   have e:decide (V.bl i=V.bl j)=decide (i=j):=by simp
   rw[e];exact k _ _ H q (Same.refl H) (.bl _)⟩
 ·exact q.elim
theorem SQ:OpD X (compareOp .NotEq) (AR true):=by
 intro pins s σ H x y v u Q I rx ry hh_0
 obtain⟨d,e,P,r1,r2,q,k⟩:=hh_0
 unfold AR at q;split at q
 ·rename_i i j
  rw[r1.int_inv] at rx;rw[r2.int_inv] at ry
  exact Pc pins s σ H _ _ v u Q I rx ry ⟨rfl,by
   have e:decide (V.int i=V.int j)=decide (i=j):=by simp
   rw[e];exact k _ _ H q (Same.refl H) (.bl _)⟩
 ·rename_i i j
  rw[r1.bl_inv] at rx;rw[r2.bl_inv] at ry
  exact Pc pins s σ H _ _ v u Q I rx ry ⟨rfl,by
   have e:decide (V.bl i=V.bl j)=decide (i=j):=by simp
   rw[e];exact k _ _ H q (Same.refl H) (.bl _)⟩
 ·exact q.elim
def VE:D->Bool
 | .non=>true
 | _=>false
def Gr (neg:Bool):R22:=λx y Q=>match y with
 | .non=>Q (.bl (if neg then !VE x else VE x))
 | _=>False
theorem Ij {K:aF} {H:Hp} {d:D} {v:V} (h:RepB K H d v):decide (v = .non)=VE d:=by
 rw[h.is_non];cases d <;> rfl
theorem Nf:OpD X (compareOp .IsNot) (Gr true):=by
 intro pins s σ H x y v u Q I rx ry hh_0
 obtain⟨d,e,P,r1,r2,q,k⟩:=hh_0
 unfold Gr at q;split at q
 ·exact Nl pins s σ H x y v u Q I rx ry ⟨r2.non_inv,by rw[Ij r1];exact k _ _ H q (Same.refl H) (.bl _)⟩
 ·exact q.elim
def dIx:R22:=λx y Q=>match x,y with
 | .lst ds,.int i=>match atI ds i with
  | some d=>Q d
  | none=>False
 | .tup ds,.int i=>match atI ds i with
  | some d=>Q d
  | none=>False
 | _,_=>False
theorem TM {K:aF} {H:Hp} {ds:List D} {vs:List V} {i:Int} {d:D} (r:Reps K H ds vs) (h:atI ds i=some d):∃v,atI vs i=some v/\Rep K H d v:=by
 unfold atI at h ⊢
 rw[<-r.length]
 cases e:ixN ds.length i with
 | none=>rw[e] at h;cases h
 | some j =>
  rw[e] at h
  exact r.get h
theorem cN {ta tb:RE} (ha:DB X a ta) (hb:DB X b tb) (hs:JN b:=by intro _ _;rfl):DE X (.Subscript a b pos) (r2 dIx ta tb):=by
 refine PE.mono (Jr (SG.or Qf) ha hb hs) λσ H Q h=>?_
 obtain⟨ρ,P,st,ht,hP⟩:=h
 refine⟨ρ,_,st,ht,λx v H1 h1 s1 r1=>⟨ρ,_,st.ext s1,h1,λy u H2 h2 s2 r2=>?_⟩⟩
 have r1':=r1.same s2
 unfold dIx at h2;split at h2
 ·rename_i ds i
  split at h2
  ·rename_i d e
   obtain⟨p,vs,rfl,hq,rr⟩:=r1'.lst
   obtain⟨w',e',rw'⟩:=TM rr e
   exact .inl ⟨p,vs,i,w',rfl,r2.int_inv,hq,e',hP d w' H2 h2 (s1.trans s2) rw'⟩
  ·exact h2.elim
 ·rename_i ds i
  split at h2
  ·rename_i d e
   obtain⟨p,vs,rfl,hq,rr⟩:=r1'.tup
   obtain⟨w',e',rw'⟩:=TM rr e
   exact .inr ⟨p,vs,i,w',rfl,r2.int_inv,SqT.of hq,e',hP d w' H2 h2 (s1.trans s2) rw'⟩
  ·exact h2.elim
 ·exact h2.elim
abbrev RO:=En->(Option Int->Prop)->Prop
def Tk (X:Cx) (t:RO):TO:=λσ H Q=>∃ρ P,StOk X ρ σ H/\t ρ P/\∀o H',P o->Same H H'->Q o H'
def DP (X:Cx) (e:Option Expr) (t:RO):Prop:=PO X e (Tk X t)
def FY:RO:=λ_ Q=>Q none
def WW (t:RE):RO:=λρ Q=>t ρ λd=>match d with
 | .int i=>Q (some i)
 | _=>False
theorem RU:DP X none FY:=λpins s σ H Q I hh=>gW hh λρ P st q k=>Cc pins s σ H Q I (k none H q (Same.refl H))
theorem RV {t:RE} (h:DE X e t):DP X (some e) (WW t):=λpins s σ H Q I hh=>gW hh λρ P st q k=>SV h pins s σ H Q I ⟨ρ,_,st,q,λd v H1 hd s1 r=>by
 cases d with
 | int i=>exact⟨i,r.int_inv,k (some i) H1 hd s1⟩
 | _=>exact hd.elim⟩
def cutD (xs:List D) (lo hi:Option Int):List D:=(xs.drop (HT.sIx xs.length 0 lo)).take (HT.sIx xs.length xs.length hi-HT.sIx xs.length 0 lo)
def Uc (te:RE) (tl th:RO):RA:=λρ Q=>te ρ λx=>tl ρ λl=>th ρ λu=>match x with
 | .lst ds=>Q (cutD ds l u)
 | _=>False
def Ql (X:Cx) (r:List D->(D->Prop)->Prop):List V->Hp->VK->Prop:=λxs H Q=>∃ds P,Reps X.K H ds xs/\r ds P/\∀z v H',P z->Same H H'->Rep X.K H' z v->Q v H'
def Ga (X:Cx) (f:aB) (r:List D->(D->Prop)->Prop):Prop:=wX X f (Ql X r)
def rCB (r:List D->(D->Prop)->Prop) (t:RA):RE:=λρ Q=>t ρ λds=>r ds Q
variable {x:Str} {p:Pos} {es:List Expr} {t:RA} {id T:String} {r:List D->(D->Prop)->Prop}
theorem zC (hc:Ga X (.builtin id) r) (hm:X.mg x=none) (hv:bootBuiltins x=some (.builtin id)) (ha:DA X (e::es) t) (hg:Gl X x:=by rfl) (hn:x≠"__name__":=by decide) (hdb:(x == ("__debug__":Str))=false:=by decide)
  (he:starEach (e::es) X.env=(false,eval e X.env)::starEach es X.env:=by rfl) (hpl:(backTo pos (starEach es X.env)).any (·.1)=false:=by rfl):DE X (.Call (.Name x p) (e::es) [] pos) (rCB r t) :=
 PE.mono (vI hc hg hm hv ha hn hdb he hpl) λσ H Q hh=>gW hh λρ P st q k=>⟨ρ,_,st,q,λds vs H1 hd s1 rr=>⟨ds,P,rr,hd,λz v H2 hz s2 r2=>k z v H2 hz (s1.trans s2) r2⟩⟩
def YG:List D->(D->Prop)->Prop:=λds Q=>match ds with
 | [.int i]=>Q (.int (if i<0 then -i else i))
 | _=>False
theorem RJ:Ga X (.builtin "abs") YG:=by
 intro pins s σ H xs us Q I rv hh_0
 obtain⟨ds,P,r,q,k⟩:=hh_0
 unfold YG at q;split at q
 ·rename_i i
  cases r with
  | cons r1 r2 =>
   cases r2
   rw[r1.int_inv] at rv
   exact Gk pins s σ H _ us Q I rv ⟨i,rfl,k _ _ H q (Same.refl H) (.int _)⟩
 ·exact q.elim
def Vg:List D->(D->Prop)->Prop:=λds Q=>match ds with
 | [.bl b]=>Q (.int (if b then 1 else 0))
 | [.int i]=>Q (.int i)
 | _=>False
def Su:List D->(D->Prop)->Prop:=λds Q=>match ds with
 | [.int i,.int j]=>Q (.int (if j > i then j else i))
 | _=>False
def Av:List D->(D->Prop)->Prop:=λds Q=>match ds with
 | [.int i,.int j]=>Q (.int (if j<i then j else i))
 | _=>False
theorem Lf (hc:X.calm=true:=by rfl):Ga X (.builtin "min") Av:=by
 intro pins s σ H xs us Q I rv hh_0
 obtain⟨ds,P,r,q,k⟩:=hh_0
 unfold Av at q;split at q
 ·rename_i i j
  ·rw[Reps.ints_inv (ns:=[i,j]) r] at rv
   exact Dg hc pins s σ H _ us Q I rv ⟨i,j,rfl,k _ _ H q (Same.refl H) (.int _)⟩
 ·exact q.elim
def qS:D->(D->Prop)->Prop:=λd Q=>match d with
 | .lst ds=>Q (.int ds.length)
 | .tup ds=>Q (.int ds.length)
 | _=>False
theorem nE {t:TE} (h:PE X e t) (hs:starEach [e] X.env=[(false,eval e X.env)]:=by rfl) (hn:starEach [] X.env=[]:=by rfl):PA X [e] (λσ H Q=>t σ H λv H'=>Q [v] H') :=
 PA.mono (jN h qF (by rw[hs,hn])) λσ H Q q=>q
theorem oB {te:RE} (hm:X.mg "len" = none) (h:DB X e te) (hg:Gl X "len":=by rfl) (hs:starEach [e] X.env=[(false,eval e X.env)]:=by rfl) (hn:starEach [] X.env=[]:=by rfl):DE X (.Call (.Name "len" p) [e] [] pos) (r1 qS te):=by
 refine PE.mono (vI RF hg hm PySem.boot_len (nE h hs hn) (by decide) (by decide) (by rw[hs,hn]) (by rw[hn];rfl)) λσ H Q hh=>gW hh λρ P st q k=>⟨ρ,_,st,q,λd v H1 hd s1 r=>?_⟩
 unfold qS at hd;split at hd
 ·obtain⟨p,vs,rfl,hq,rr⟩:=r.lst
  exact⟨p,vs,rfl,.inl hq,by rw[<-rr.length];exact k _ _ H1 hd s1 (.int _)⟩
 ·obtain⟨p,vs,rfl,hq,rr⟩:=r.tup
  exact⟨p,vs,rfl,.inr (SqT.of hq),by rw[<-rr.length];exact k _ _ H1 hd s1 (.int _)⟩
 ·exact hd.elim
end
section
variable {X:Cx} {pins:List (Addr × Obj)} {σ:St} {H:Hp} {s:aD} {h':Heap}
theorem _root_.L2.Inv.turnedL {t':Nat} {ch:List Addr} (I:Inv X pins σ H s) (k:∀b o,b ∉ ch->s.heap.get? b=some o->h'.get? b=some o) (f:∀b∈ch,GG X pins H b):Inv X pins σ H { s with heap:=h',toks:=t' }:=by
 have nit:∀b u,H b=some u->b ∉ ch:=λb u e z=>by rw[(f b z).1] at e;cases e
 refine I.step (g':=s.gens) (d':=s.drawn) (ch:=ch) (λb hb=>⟨(f b hb).2.2.2.1,(f b hb).2.1,(f b hb).2.2.2.2.1,(f b hb).2.2.2.2.2⟩) (λb o _ _ hc e _=>k b o hc e) (λb o _ _ hc e _=>⟨o.slots,k b o hc e⟩) (λ_ _ _ _ n=>n)
  (λb o hc e=>⟨o,k b o hc e⟩) (λ_ _ e=>e) (λ_ _ _ e=>e) (λb ps e=>⟨#[],by rw[e];simp⟩) (λm hm=>?_) (λb u e=>?_) I.bare
 ·obtain⟨o,es,ep,ho,r⟩:=hm
  exact⟨o,es,ep,k _ o (λz=>(f _ z).2.1 rfl) ho,r⟩
 ·refine (I.hok b u e).stay (λc v hc q=>k c v ?_ q) (λ_ q=>q) λ_ _ q=>q
  rcases hc with z | z
  ·rw[z];exact nit b u e
  ·exact nit c _ z
theorem _root_.L2.Inv.turnedT {t':Nat} {ch:List Addr} {T:Addr} {xs:List V} {its:List aB} (I:Inv X pins σ H s) (k:∀b o,b ∉ ch->s.heap.get? b=some o->h'.get? b=some o) (f:∀b∈ch,GG X pins H b)
  (hT:s.heap.objs.size<=T) (ht:h'.IsTuple T its.toArray) (rv:Vals xs its) (hz:xs.length<=sizeLine):Inv X pins σ (upd H T (.tup xs)) { s with heap:=h',toks:=t' }:=by
 have nit:∀b u,H b=some u->b ∉ ch:=λb u e z=>by rw[(f b z).1] at e;cases e
 have hn:H T=none:=I.hok.fresh hT
 have ne:∀{b:Addr} {o:Obj},s.heap.get? b=some o->b≠T:=λe=>aR (aV (aO e) hT)
 refine I.step (g':=s.gens) (d':=s.drawn) (ch:=ch) (λb hb=>⟨(f b hb).2.2.2.1,(f b hb).2.1,(f b hb).2.2.2.2.1,(f b hb).2.2.2.2.2⟩) (λb o _ _ hc e _=>k b o hc e) (λb o _ _ hc e _=>⟨o.slots,k b o hc e⟩) (λb o _ e n=>by rw[bM (ne e)];exact n)
  (λb o hc e=>⟨o,k b o hc e⟩) (λb ys e=>by rw[bM (cB e hn)];exact e) (λb o u e=>by rw[bM (cB e hn)];exact e) (λb ps e=>⟨#[],by rw[bM (cB e hn),e];simp⟩) (λm hm=>?_) (λb u e=>?_) I.bare
 ·obtain⟨o,es,ep,ho,r⟩:=hm
  exact⟨o,es,ep,k _ o (λz=>(f _ z).2.1 rfl) ho,r⟩
 ·by_cases hb:b=T
  ·subst hb
   rw[cR] at e;cases e
   exact⟨hz,its,rv,ht⟩
  ·rw[bM hb] at e
   refine (I.hok b u e).stay (λc v hc q=>k c v ?_ q) (λc q=>by rw[bM (cB q hn)];exact q) λc ys q=>by rw[bM (cB q hn)];exact q
   rcases hc with z | z
   ·rw[z];exact nit b u e
   ·exact nit c _ z
end
def Sy (ds:List D):List D:=ds.zipIdx.map λp=>D.tup [.int (p.2:Int),p.1]
section
variable {X:Cx} {e:Expr} {te:RE} {pos p:Pos} {elts:List Expr} {k:Nat} {tp:Pos}
def Wf (te:RE):RA:=λρ Q=>te ρ λd=>match d with
 | .lst ds=>Q (Sy ds)
 | _=>False
end
def YQ (T:String):D->Option Bool
 | .non=>some (T == "NoneType")
 | .bl _=>some (T == "bool" || T == "int")
 | .int _=>some (T == "int")
 | .str _=>some (T == "str")
 | .tup _=>some (T == "tuple")
 | .lst _=>some (T == "list")
 | .dct _ _=>none
 | .dtt _ _=>none
def RK (T:String):D->(D->Prop)->Prop:=λd Q=>match YQ T d with
 | some b=>Q (.bl b)
 | none=>False
structure TyTab (K:aF) (T:String):Prop where
 non:fK K (.type "NoneType") (.type T)=some (T == "NoneType")
 bl:fK K (.type "bool") (.type T)=some (T == "bool" || T == "int")
 int:fK K (.type "int") (.type T)=some (T == "int")
 str:fK K (.type "str") (.type T)=some (T == "str")
 tup:fK K (.type "tuple") (.type T)=some (T == "tuple")
 lst:fK K (.type "list") (.type T)=some (T == "list")
section
variable {X:Cx} {e:Expr} {te:RE} {pos p p2:Pos} {T:String} {x:Str}
theorem LB (tab:TyTab X.K T) (hm:X.mg "isinstance" = none) (hT:X.mg x=none) (hb:bootBuiltins x=some (.type T)) (h:DE X e te) (hg:Gl X "isinstance":=by rfl) (hgT:Gl X x:=by rfl) (hn:x≠"__name__":=by decide) (hd:(x == ("__debug__":Str))=false:=by decide)
  (hs:starEach [e,.Name x p2] X.env=(false,eval e X.env)::starEach [.Name x p2] X.env:=by rfl) (hs2:starEach [.Name x p2] X.env=(false,eval (.Name x p2) X.env)::starEach [] X.env:=by rfl) (hpl:(backTo pos (starEach [.Name x p2] X.env)).any (·.1)=false:=by rfl) :
  DE X (.Call (.Name "isinstance" p) [e,.Name x p2] [] pos) (r1 (RK T) te):=by
 have hc:wX X (.builtin "isinstance") (λxs H Q=>∃d v P,xs=[v,.ty T]/\Rep X.K H d v/\RK T d P/\∀b,P (.bl b)->Q (.bl b) H):=by
  intro pins s σ H xs us Q I r hh_0
  obtain⟨d,v,P,ex,rd,q,k⟩:=hh_0
  subst ex
  obtain⟨u,w',rfl,r1,r2⟩:=vals2 r
  cases r2
  unfold RK at q
  split at q
  ·rename_i b eb
   have fin:∀{t:aB},TyOf X.K H v t->fK X.K t (.type T)=some b->wpAny (model X.prog X.w) X.A (call (.builtin "isinstance") [u,.type T]) (EP X pins σ Q) X.xe s:=λty e=>Eb I r1 ty e λtk=>⟨.bl b,H,I.tok tk,rfl,k b q⟩
   cases rd with
   | non=>cases eb;exact fin .non tab.non
   | bl _=>cases eb;exact fin (.bl _) tab.bl
   | int _=>cases eb;exact fin (.int _) tab.int
   | str _=>cases eb;exact fin (.str _) tab.str
   | tup h _=>cases eb;exact fin (.tup h) tab.tup
   | @lst a vs _ h _ =>
    cases eb
    rcases h with ⟨o,h⟩ | ⟨o,its,n,hk,hc,_⟩
    ·exact fin (.frz h) tab.lst
    ·cases (show u=cU a from r1)
     exact eY tO I.kIn ⟨o,I.kIn a o hk,hc⟩ tab.lst (λz=>nomatch z) λtk=>⟨.bl _,H,I.tok tk,rfl,k _ q⟩
   | dct _ _ _=>cases eb
   | dtt _ _ _=>cases eb
  ·exact q.elim
 refine PE.mono (vI hc hg hm lB (jN h (jN (By (v:=.ty T) hgT hT hb rfl hn hd) qF hs2) hs) (by decide) (by decide) hs hpl) λσ H Q hh=>gW hh λρ P st q k=>?_
 refine⟨ρ,_,st,q,λd v H1 hd s1 r=>⟨d,v,P,rfl,r,hd,λb hb=>k _ _ H1 hb s1 (.bl b)⟩⟩
end
theorem AC:bootBuiltins "abs" = some (.builtin "abs"):=by decide +kernel
theorem Db:bootBuiltins "min" = some (.builtin "min"):=by decide +kernel
theorem Da:bootBuiltins "int" = some (.type "int"):=by decide +kernel
theorem YE:bootBuiltins "bool" = some (.type "bool"):=by decide +kernel
theorem TQ:bootBuiltins "tuple" = some (.type "tuple"):=by decide +kernel
theorem KS:bootBuiltins "list" = some (.type "list"):=by decide +kernel
theorem Og (K:aF):TyTab K "int":=⟨by rfl,by rfl,by rfl,by rfl,by rfl,by rfl⟩
theorem Kv (K:aF):TyTab K "bool":=⟨by rfl,by rfl,by rfl,by rfl,by rfl,by rfl⟩
theorem XM (K:aF):TyTab K "list":=⟨by rfl,by rfl,by rfl,by rfl,by rfl,by rfl⟩
theorem Fw (K:aF):TyTab K "tuple":=⟨by rfl,by rfl,by rfl,by rfl,by rfl,by rfl⟩
theorem bind1 {P:List aB->Prop} (h:∀a,P [a]):∀us:List aB,us.length=1->P us
 | [a],_=>h a
theorem bind2 {P:List aB->Prop} (h:∀a b,P [a,b]) (us:List aB) (hl:us.length=2):P us:=by
 cases us with
 | nil=>cases hl
 | cons a us=>exact bind1 (P:=λus=>P (a::us)) (h a) us (EU hl)
theorem bind3 {P:List aB->Prop} (h:∀a b c,P [a,b,c]) (us:List aB) (hl:us.length=3):P us:=by
 cases us with
 | nil=>cases hl
 | cons a us=>exact bind2 (P:=λus=>P (a::us)) (h a) us (EU hl)
theorem bind4 {P:List aB->Prop} (h:∀a b c d,P [a,b,c,d]) (us:List aB) (hl:us.length=4):P us:=by
 cases us with
 | nil=>cases hl
 | cons a us=>exact bind3 (P:=λus=>P (a::us)) (h a) us (EU hl)
structure FnAt (P:bA) (w:cA) (K:aF) (mg:Str->Option aB) (base:Heap) (x:Str) (ps:List Str) (k:Nat) (F:FD):Prop where
 ex:∃f fd,FnOk P w K mg base CX0 k f fd ps (spD K F)/\Binds K fd ps []/\fJ K (.ref f)=true/\mg x=some (.ref f)
structure DefAt (K:aF) (mg:Str->Option aB) (x:Str) (st:Stmt) (ps:List Str):Prop where
 ex:∃f fd,Fun K x x st f fd/\mg x=some (.ref f)/\∀us:List aB,us.length=ps.length->bindArgs fd ⟨us,[]⟩=pure (ps.zip us)
section
variable {P:bA} {w:cA} {K:aF} {mg:Str->Option aB} {base:Heap}
theorem DefAt.ok {x:Str} {st:Stmt} {N ps:List Str} {k:Nat} {F:FD} {t:RS} (Z:DefAt K mg x st ps) (Sc:FnScope N ps (dR st))
  (hbody:∀{f:Addr} (cdv:aB) (A:cE) (outer:List Env) (s:aD) (H:Hp) (E:XK),Room k (A.deeper (envOfC x (dR st) s.heap.objs.size f cdv)) ->
   DSs (yA CX0 P w K mg base N x (dR st) f cdv A outer s H E).nox (lR st) t)
  (len:∀ds Q,F ds Q->ds.length=ps.length) (pure:∀ds Q,F ds Q->t { nx:=λ_=>Q .non,rt:=Q } (dO N ds)):FnAt P w K mg base x ps (k+1) F:=by
 obtain⟨f,fd,a,b,c⟩:=Z.ex
 exact⟨f,fd,Ot a Sc (λcdv A outer s H E hr=>hbody cdv A outer s H E hr) len pure,.all c,a.kp,b⟩
theorem DefAt.okL {x:Str} {st:Stmt} {ps:List Str} {k:Nat} {F:FD} (Z:DefAt K mg x st ps) (h:∀(base:Heap) (f:Addr) (fd:iC),Fun K x x st f fd->FnOk P w K mg base CX0 k f fd ps (spD K F)) :
  ∃f fd,mg x=some (.ref f)/\(∀us:List aB,us.length=ps.length->bindArgs fd ⟨us,[]⟩=pure (ps.zip us))/\∀base,FnOk P w K mg base CX0 k f fd ps (spD K F):=by
 obtain⟨f,fd,a,b,c⟩:=Z.ex
 exact⟨f,fd,b,c,λbase=>h base f fd a⟩
end
section
variable {X:Cx} {k:Nat} {ps:List Str} {F:FD} {x:Str} {p pos:Pos} {e:Expr} {es:List Expr} {t:RA}
theorem UD (C:FnAt X.prog X.w X.K X.mg X.base x ps k F) (hr:Room k X.A) (ha:DA X (e::es) t) (hg:Gl X x:=by rfl)
  (hdb:(x == ("__debug__":Str))=false:=by decide) (he:starEach (e::es) X.env=(false,eval e X.env)::starEach es X.env:=by rfl) (hpl:(backTo pos (starEach es X.env)).any (·.1)=false:=by rfl) :
  DE X (.Call (.Name x p) (e::es) [] pos) (cQ F t):=by
 obtain⟨f,fd,G,hb,hk,hm⟩:=C.ex
 exact Ll G hr hm hk hb ha hg hdb he hpl
end
def Cz (n:Nat):FD:=λds Q=>∃ns:List Int,ds=[.lst (ns.map .int)]/\ns.length<=n/\Q (.bl true)
theorem Sd {K:aF} {H:Hp} {a:Addr} {vs:List V} (hO:Lb H) (h:SqL K H a vs):FzL K H a vs:=by
 rcases h with (h | ⟨o,h⟩) | h
 ·rcases hO a with z | ⟨o,xs,z⟩
  ·rw[z] at h;cases h
  ·rw[z] at h;cases h
 ·exact .inl ⟨o,h⟩
 ·exact .inr h
def NoLam (K:aF):Prop:=∀x∈SJ,fN K mainGlobals x=some none
theorem NoLam.tabs {K:aF} (n:NoLam K) (H:Hp):TabsIn K H:=λx c P m e=>by
 unfold OF at e
 rw[n x m] at e
 cases e
theorem noLam {K:aF} (a:fN K mainGlobals "rising" = some none) (b:fN K mainGlobals "framed_rising" = some none) (c:fN K mainGlobals "laid_triangles" = some none):NoLam K:=λx m=>by
 simp only[SJ,aL,eB,or_false] at m
 rcases m with rfl | rfl | rfl
 ·exact a
 ·exact b
 ·exact c
theorem walk_law {l:IW} {q:bA} {loose:List Str} {XP:(Str->Option aB)->Heap->Prop} {YP:cA->Heap->Prop} {d:DefRec} {K:Params->aF} {x:Str} {k:Nat}
  (hn:l.most=some 63) (hdf:d.params.defaults=[]) (hr:Room k callerA)
  (hY:∀(w:cA) (h:Heap),YP w h->(K w.params).In h) (hd:d.name = "law") (hL:∀w:cA,NoLam (K w.params))
  (F:∀(w:cA) (mg:Str->Option aB) (h:Heap),(K w.params).In h->h.Ns mainGlobals mg ->
   ∃f fd,mg "law" = some (.ref f)/\(∀us:List aB,us.length=[x].length->bindArgs fd ⟨us,[]⟩=pure ([x].zip us))/\∀base,FnOk l.prog w (K w.params) mg base CX0 k f fd [x] (spD (K w.params) (Cz 63))) :
  OE q loose XP YP l.row.toRowW d [] (λf vs=>KJ f vs):=by
 refine L2.walk_of (n:=63) (k:=k) (x:=x) (CX:=λ_=>CX0) (sp:=λw=>spD (K w.params) (Cz 63)) hn (by decide) hdf hr hY ?_ ?_ λ_ _ _ _ _ z=>z
 ·intro w mg fa h KX G hmg
  rw[hd] at hmg
  obtain⟨f,fd,hm,hb,hF⟩:=F w mg h KX G
  rw[hmg] at hm;cases hm
  exact⟨fd,λs u=>.of_eq (hb [u] rfl),λbase _ _=>hF base⟩
 ·intro w H a ns hl hO hS
  exact⟨(hL w).tabs H,[.lst (ns.map .int)],λd=>d = .bl true,.cons (.lst (Sd hO hS) .ints) .nil,⟨ns,rfl,hl,rfl⟩,λd v H' e _ r=>by subst e;exact r.bl_inv⟩
def eqL (f:D->D->Option Bool):List D->List D->Option Bool
 | [],[]=>some true
 | [],_::_=>some false
 | _::_,[]=>some false
 | x::xs,y::ys=>match f x y,eqL f xs ys with
  | some a,some b=>some (a && b)
  | _,_=>none
def eqF:Nat->D->D->Option Bool
 | 0,_,_=>none
 | n+1,d,e=>match d,e with
  | .int a,.int b=>some (decide (a=b))
  | .bl a,.bl b=>some (decide (a=b))
  | .non,.non=>some true
  | .non,.tup _=>some false
  | .tup _,.non=>some false
  | .tup xs,.tup ys=>eqL (eqF n) xs ys
  | .lst xs,.lst ys=>eqL (eqF n) xs ys
  | _,_=>none
theorem JS {f:D->D->Option Bool}:∀{xs ys:List D} {b:Bool},eqL f xs ys=some b->∀(j:Nat) (x y:D),xs[j]? = some x->ys[j]? = some y->∃c,f x y=some c
 | [],_,_,_,j,x,y,e,_=>by simp at e
 | _::_,[],_,_,j,x,y,_,e=>by simp at e
 | a::xs,c::ys,b,h,j,x,y,e1,e2=>by
  unfold eqL at h
  split at h
  ·rename_i p q hp hq
   cases j with
   | zero=>simp at e1 e2;subst e1 e2;exact⟨p,hp⟩
   | succ j=>exact JS hq j x y (by simpa using e1) (by simpa using e2)
  ·cases h
theorem FL {f:D->D->Option Bool}:∀{xs ys:List D} {b:Bool},eqL f xs ys=some b ->
  ((cV (min xs.length ys.length)).all (λj=>match xs[j]?,ys[j]? with | some x,some y=>(f x y).getD false | _,_=>false) && xs.length == ys.length)=b
 | [],[],b,h=>by cases h;rfl
 | [],_::_,b,h=>by cases h;rfl
 | _::_,[],b,h=>by cases h;rfl
 | x::xs,y::ys,b,h=>by
  unfold eqL at h
  split at h
  ·rename_i p q hp hq
   cases h
   have ih:=FL hq
   rw[<-ih]
   simp only[bJ,Nat.succ_min_succ,List.range_succ_eq_map,List.all_cons,aH,hp,kJ,List.all_map]
   rw[JZ]
   congr 1
   congr 1
   rw[nT];simp
  ·cases h
section
variable {X:Cx} {pins:List (Addr × Obj)} {σ:St} {H:Hp} {s:aD}
theorem LK {f:D->D->Option Bool} (hf:∀{d e:D} {v:V} {b:Bool},f d e=some b->Rep X.K H d v->Rep X.K H e v->b=true):∀{xs ys:List D} {vs:List V} {b:Bool},eqL f xs ys=some b->Reps X.K H xs vs->Reps X.K H ys vs->b=true:=by
 intro xs
 induction xs with
 | nil=>intro ys vs b h q1 q2;cases q1;cases q2;cases h;rfl
 | cons x xs ih =>
  intro ys vs b h q1 q2
  cases q1 with
  | cons r t =>
   cases q2 with
   | cons r' t' =>
    unfold eqL at h
    split at h
    ·rename_i p q hp hq
     cases h
     rw[hf hp r r',ih hq t t'];rfl
    ·cases h
theorem FK (I:Inv X pins σ H s):∀(n:Nat) {d e:D} {v:V} {b:Bool},eqF n d e=some b->Rep X.K H d v->Rep X.K H e v->b=true
 | 0,_,_,_,_,h,_,_=>by cases h
 | n+1,d,e,v,b,h,r1,r2=>by
  unfold eqF at h
  split at h
  ·rw[r1.int_inv] at r2;cases r2;cases h;simp
  ·rw[r1.bl_inv] at r2;cases r2;cases h;simp
  ·cases h;rfl
  ·cases r1;cases r2
  ·cases r2;cases r1
  ·rename_i xs ys
   cases r1 with
   | @tup a vs _ h1 q1 =>
    cases r2 with
    | @tup _ ws _ h2 q2 =>
     rw[h1] at h2;cases h2
     exact LK (λ{d e v b}=>FK I n) h q1 q2
  ·rename_i xs ys
   cases r1 with
   | @lst a vs _ h1 q1 =>
    cases r2 with
    | @lst _ ws _ h2 q2 =>
     rw[I.list_inj h2.sq h1.sq] at q2
     exact LK (λ{d e v b}=>FK I n) h q1 q2
  ·cases h
theorem LL (I:Inv X pins σ H s) {n:Nat} {xs ys:List D} {a c:Addr} {vs ws:List V} {b:Bool} {A:cE} (h:eqL (eqF n) xs ys=some b) (h1:SqL X.K H a vs) (q1:Reps X.K H xs vs) (h2:SqL X.K H c ws) (q2:Reps X.K H ys ws) (hu:A.units<cLine)
  (at':∀{d e:D} {v u:V} {x y:aB} {b:Bool},eqF n d e=some b->Rep X.K H d v->Rep X.K H e u->RelV v x->RelV u y->wI A.in1 s x y b):sK A s (.ref a) (.ref c) b/\wI A s (.ref a) (.ref c) b:=by
 obtain⟨its,rv,ht,_⟩:=I.list h1
 obtain⟨its2,rv2,ht2,_⟩:=I.list h2
 have l1:xs.length=its.length:=q1.length.trans rv.length
 have l2:ys.length=its2.length:=q2.length.trans rv2.length
 have rc:sK A s (.ref a) (.ref c) b:=by
  by_cases hl:xs.length=ys.length
  ·have:=SeqAt.RcAt.lists (A:=A) (s:=s) (e:=λj=>match xs[j]?,ys[j]? with | some x,some y=>(eqF n x y).getD false | _,_=>false) ht.isList ht2.isList (by simp;omega) hu (λj g1 g2=>?_)
   ·have al:=FL h
    simp only[aN,<-l1] at this
    rw[<-hl,Nat.min_self,beq_self_eq_true,lD] at al
    rw[al] at this
    exact this
   ·simp only[aN] at g1 g2
    have e1:xs[j]? = some (xs[j]'(by omega)):=aC _
    have e2:ys[j]? = some (ys[j]'(by omega)):=aC _
    obtain⟨k,hk⟩:=JS h j _ _ e1 e2
    rw[e1,e2]
    simp only[hk,kJ]
    obtain⟨v1,f1,f2⟩:=q1.get e1
    obtain⟨v2,f3,f4⟩:=q2.get e2
    obtain⟨u1,g3,g4⟩:=rv.get f1
    obtain⟨u2,g5,g6⟩:=rv2.get f3
    have a1:its.toArray[j]=u1:=by
     have:=aC g1
     rw[this] at g3
     simpa using dE g3
    have a2:its2.toArray[j]=u2:=by
     have:=aC g2
     rw[this] at g5
     simpa using dE g5
    rw[a1,a2]
    exact at' hk f2 f4 g4 g6
  ·have al:=FL h
   have:(xs.length == ys.length)=false:=by simpa using hl
   rw[this,KB] at al
   rw[<-al]
   exact SeqAt.RcAt.lists_lengths ht.isList ht2.isList (by simp;omega) hu
 refine⟨rc,?_⟩
 by_cases hac:a=c
 ·subst hac
  rw[I.list_inj h2 h1] at q2
  rw[LK (λ{d e v b}=>FK I n) h q1 q2]
  exact xF _
 ·exact DF hac rc
theorem sO (I:Inv X pins σ H s):∀(n:Nat) {d e:D} {v u:V} {x y:aB} {b:Bool} {A:cE},eqF n d e=some b->Rep X.K H d v->Rep X.K H e u->RelV v x->RelV u y->A.units+n<cLine ->
  sK A s x y b/\wI A s x y b
 | 0,_,_,_,_,_,_,_,_,h,_,_,_,_,_=>by cases h
 | n+1,d,e,v,u,x,y,b,A,h,r1,r2,rx,ry,hu=>by
  have same:=λ(hvu:v=u)=>FK I (n+1) h r1 (hvu ▸ r2)
  unfold eqF at h
  split at h
  ·rename_i i j
   rw[r1.int_inv] at rx;rw[r2.int_inv] at ry
   obtain⟨t,rfl⟩:=rx
   obtain⟨t',rfl⟩:=ry
   cases h
   have e:decide (i=j)=(i == j):=by rw[lH]
   rw[e]
   exact⟨SeqAt.RcAt.int_int _ _ _ _,DD _ _ _ _⟩
  ·rename_i i j
   rw[r1.bl_inv] at rx;rw[r2.bl_inv] at ry
   cases rx;cases ry
   cases h
   have e:decide (i=j)=(i == j):=by rw[lH]
   rw[e]
   exact⟨SeqAt.RcAt.bool_bool _ _,SeqAt.EqAt.bool_bool _ _⟩
  ·cases r1;cases r2;cases rx;cases ry;cases h
   exact⟨SeqAt.RcAt.none_none,xF _⟩
  ·cases r1
   cases r2 with
   | tup h2 q2 =>
    cases rx;cases ry;cases h
    obtain⟨its,rv,ht,_⟩:=I.tuple (SqT.of h2)
    exact⟨SeqAt.RcAt.none_tuple ht (by omega),SeqAt.EqAt.none_tuple ht (by omega)⟩
  ·cases r2
   cases r1 with
   | tup h2 q2 =>
    cases rx;cases ry;cases h
    obtain⟨its,rv,ht,_⟩:=I.tuple (SqT.of h2)
    exact⟨SeqAt.RcAt.tuple_none ht (by omega),SeqAt.EqAt.tuple_none ht (by omega)⟩
  ·rename_i xs ys
   cases r1 with
   | @tup a vs _ h1 q1 =>
    cases r2 with
    | @tup c ws _ h2 q2 =>
     cases rx;cases ry
     obtain⟨its,rv,ht,_⟩:=I.tuple (SqT.of h1)
     obtain⟨its2,rv2,ht2,_⟩:=I.tuple (SqT.of h2)
     have l1:xs.length=its.length:=q1.length.trans rv.length
     have l2:ys.length=its2.length:=q2.length.trans rv2.length
     have rc:sK A s (.ref a) (.ref c) b:=by
      have:=SeqAt.RcAt.tuples (A:=A) (s:=s) (e:=λj=>match xs[j]?,ys[j]? with | some x,some y=>(eqF n x y).getD false | _,_=>false) ht ht2 (by omega) (λj g1 g2=>?_)
      ·simp only[aN,<-l1,<-l2] at this
       rw[FL h] at this
       exact this
      ·simp only[aN] at g1 g2
       have e1:xs[j]? = some (xs[j]'(by omega)):=aC _
       have e2:ys[j]? = some (ys[j]'(by omega)):=aC _
       obtain⟨k,hk⟩:=JS h j _ _ e1 e2
       rw[e1,e2]
       simp only[hk,kJ]
       obtain⟨v1,f1,f2⟩:=q1.get e1
       obtain⟨v2,f3,f4⟩:=q2.get e2
       obtain⟨u1,g3,g4⟩:=rv.get f1
       obtain⟨u2,g5,g6⟩:=rv2.get f3
       have a1:its.toArray[j]=u1:=by
        have:=aC g1
        rw[this] at g3
        simpa using dE g3
       have a2:its2.toArray[j]=u2:=by
        have:=aC g2
        rw[this] at g5
        simpa using dE g5
       rw[a1,a2]
       exact (sO I n hk f2 f4 g4 g6 (by show A.units+1+n<cLine;omega)).2
     refine⟨rc,?_⟩
     by_cases hac:a=c
     ·subst hac
      rw[same rfl]
      exact xF _
     ·exact DF hac rc
  ·rename_i xs ys
   cases r1 with
   | @lst a vs _ h1 q1 =>
    cases r2 with
    | @lst c ws _ h2 q2 =>
     cases rx;cases ry
     exact LL I h h1.sq q1 h2.sq q2 (by omega) λ{d e v u x y b} hk f2 f4 g4 g6=>(sO I n hk f2 f4 g4 g6 (by show A.units+1+n<cLine;omega)).2
  ·cases h
end
def dEq:R22:=λx y Q=>match eqF 6 x y with
 | some b=>Q (.bl b)
 | none=>False
section
variable {X:Cx}
theorem Pw {X:Cx} {pins:List (Addr × Obj)} {σ:St} {H:Hp} {s:aD} (I:Inv X pins σ H s) {d e:D} {v u:V} {x y:aB} {b:Bool} {A:cE} (h:eqF 6 d e=some b) (r1:RepB X.K H d v) (r2:RepB X.K H e u) (rx:RelV v x) (ry:RelV u y) (hu:A.units+6<cLine):sK A s x y b:=by
 by_cases hl:∃xs ys,d = .lst xs/\e = .lst ys
 ·obtain⟨xs,ys,rfl,rfl⟩:=hl
  obtain⟨a,vs,rfl,h1,q1⟩:=r1.lst
  obtain⟨c,ws,rfl,h2,q2⟩:=r2.lst
  cases rx;cases ry
  exact (LL I (n:=5) h h1 q1 h2 q2 (by omega) λ{d e v u x y b} hk f2 f4 g4 g6=>(sO I 5 hk f2 f4 g4 g6 (by show A.units+1+5<cLine;omega)).2).1
 ·have p1:Rep X.K H d v:=by
   rcases r1 with r | ⟨ds,a,vs,e1,_⟩
   ·exact r
   ·subst e1;cases e <;> first | (cases h;done) | exact absurd ⟨_,_,rfl,rfl⟩ hl
  have p2:Rep X.K H e u:=by
   rcases r2 with r | ⟨ds,a,vs,e1,_⟩
   ·exact r
   ·subst e1;cases d <;> first | (cases h;done) | exact absurd ⟨_,_,rfl,rfl⟩ hl
  exact (sO I 6 h p1 p2 rx ry hu).1
theorem Tm {k:Nat} (hr:Room k X.A):OpD X (compareOp .Eq) dEq:=by
 intro pins s σ H x y v u Q I rx ry hh_0
 obtain⟨d,e,P,r1,r2,q,kk⟩:=hh_0
 unfold dEq at q
 split at q
 ·rename_i b hb
  have hu:=hr.units
  exact Pw I (A:=X.A) hb r1 r2 rx ry (by omega) _ _ _ _ ⟨.bl b,H,I,rfl,kk _ _ H q (Same.refl H) (.bl b)⟩
 ·exact q.elim
end
theorem yZ (env:Env):∀(names:List (Str × NameKind)) (acc:List (Str × Addr)),(∀y∈names,y.2 = .free->∃c,env.cells.lookup y.1=some c) ->
  ∃cl:List (Str × Addr),(do
   let mut cs:=acc
   for (name,kind) in names do
    if kind == .free then cs:=(name,<-cellOf env name)::cs
   return cs:Sem (List (Str × Addr)))=pure cl/\(∀p∈cl,p∈acc\/env.cells.lookup p.1=some p.2)/\(∀p∈acc,p∈cl)/\∀y∈names,y.2 = .free->∃c,(y.1,c)∈cl
 | [],acc,_=>⟨acc,by simp,λp h=>.inl h,λp h=>h,λy h=>by simp at h⟩
 | (n,k)::r,acc,h=>by
  by_cases hk:k = .free
  ·subst hk
   obtain⟨c,hc⟩:=h _ cI rfl
   obtain⟨cl,e,h1,h2,h3⟩:=yZ env r ((n,c)::acc) λy hy=>h y (bD _ hy)
   refine⟨cl,?_,λp hp=>?_,λp hp=>h2 p (bD _ hp),λy hy hf=>?_⟩
   ·rw[<-e]
    have hcell:cellOf env n=pure c:=by unfold cellOf;rw[hc]
    simp only[IU,hcell,beq_self_eq_true,if_true,pure_bind]
   ·rcases h1 p hp with q | q
    ·rcases aL.mp q with rfl | q
     ·exact .inr hc
     ·exact .inl q
    ·exact .inr q
   ·rcases aL.mp hy with rfl | hy
    ·exact⟨c,h2 _ cI⟩
    ·exact h3 y hy hf
  ·obtain⟨cl,e,h1,h2,h3⟩:=yZ env r acc λy hy=>h y (bD _ hy)
   refine⟨cl,?_,h1,h2,λy hy hf=>?_⟩
   ·rw[<-e]
    have hb:(k == fX)=false:=by simpa using hk
    simp only[IU,hb,aP,if_false,pure_bind]
   ·rcases aL.mp hy with rfl | hy
    ·exact absurd hf hk
    ·exact h3 y hy hf
theorem BJ {α:Type}:∀{l:List (Str × α)} {x:Str} {c:α},(x,c)∈l->∃c',l.lookup x=some c'
 | [],_,_,h=>by simp at h
 | (y,d)::r,x,c,h=>by
  rw[pZ]
  cases e:x == y with
  | true=>exact⟨d,rfl⟩
  | false =>
   rcases aL.mp h with q | q
   ·cases q;rw[beq_self_eq_true] at e;cases e
   ·exact BJ q
theorem KU {scope:Scope} {env:Env} (h:∀y∈scope.names,y.2 = .free->∃c,env.cells.lookup y.1=some c) :
  ∃cl,closureFor scope env=pure cl/\(∀x c,cl.lookup x=some c->env.cells.lookup x=some c)/\∀y∈scope.names,y.2 = .free->∃c,cl.lookup y.1=some c:=by
 obtain⟨cl,e,h1,_,h3⟩:=yZ env scope.names [] h
 refine⟨cl,e,λx c hx=>?_,λy hy hf=>?_⟩
 ·rcases h1 _ (iU hx) with q | q
  ·simp at q
  ·exact q
 ·obtain⟨c,hc⟩:=h3 y hy hf
  exact BJ hc
def mH (X:Cx) (scope:Scope) (N:List Str) (cl:List (Str × Addr)) (C:Addr) (s:aD) (H:Hp) (fp:List Addr):Cx where
 prog:=X.prog
 w:=X.w
 K:=X.K
 mg:=X.mg
 base:=X.base
 A:=X.A
 N:=N
 s₀:=s
 H₀:=H
 env:=compEnvC scope cl C X.env
 outer:=X.stack
 stack:=X.stack
 ex:=fp
 fn:=λ_=>false
 calm:=X.calm
 pn:=[]
 xe:=λ_ _=>False
structure CScope (X:Cx) (scope:Scope):Prop where
 kind:scope.kind = .function
 nocell:∀y∈scope.names,y.2≠.cell
 locs:∀y∈scope.names,y.2 = .local->scope.names.lookup y.1=some .local
 frees:∀y∈scope.names,y.2 = .free->X.env.kindOf y.1=some .cell\/X.env.kindOf y.1=some .free
theorem pF {env:Env}:∀{names:List (Str × NameKind)} {x:Str} {k:NameKind},(names.map λ(n,k)=>if (k == fX && env.scope.kind == .function && env.kindOf n == some .cell) then (n,qJ) else (n,k)).lookup x=some k ->
  (k = .cell\/k = .free)->(∀y∈names,y.2≠.cell)->(x,.free)∈names
 | [],_,_,h,_,_=>by simp at h
 | (n,j)::r,x,k,h,hk,hn=>by
  have h:yM x ((if (j == fX && env.scope.kind == .function && env.kindOf n == some .cell)=true then (n,qJ) else (n,j))::r.map λ(n,k)=>if (k == fX && env.scope.kind == .function && env.kindOf n == some .cell) then (n,qJ) else (n,k))=some k:=h
  have hn':∀y∈r,y.2≠.cell:=λy hy=>hn y (bD _ hy)
  cases hx:x == n with
  | true =>
   have e:x=n:=eq_of_beq hx
   subst e
   by_cases hc:(j == fX && env.scope.kind == .function && env.kindOf x == some .cell)=true
   ·have hj:j = .free:=by
     rw[jE,jE] at hc
     exact eq_of_beq hc.1.1
    subst hj
    exact cI
   ·rw[if_neg hc,pZ,beq_self_eq_true] at h
    cases h
    rcases hk with rfl | rfl
    ·exact absurd rfl (hn _ cI)
    ·exact cI
  | false =>
   by_cases hc:(j == fX && env.scope.kind == .function && env.kindOf n == some .cell)=true
   ·rw[if_pos hc,pZ,hx] at h
    exact bD _ (pF h hk hn')
   ·rw[if_neg hc,pZ,hx] at h
    exact bD _ (pF h hk hn')
section
variable {X:Cx} {pins:List (Addr × Obj)} {σ:St} {H:Hp} {s:aD} {scope:Scope} {N:List Str} {cl:List (Str × Addr)} {C:Addr} {fp:List Addr}
theorem Lh (I:Inv X pins σ H s) (Sc:CScope X scope) (hcl:∀x c,cl.lookup x=some c->X.env.cells.lookup x=some c) (hall:∀y∈scope.names,y.2 = .free->∃c,cl.lookup y.1=some c)
  (hC:s.heap.objs.size<=C) (hf:∀b∈fp,GG X pins H b) (hlt:∀b∈fp,b<s.heap.objs.size):(mH X scope N cl C s H fp).Ok:=by
 refine⟨I.ok.mod,Sc.kind,I.ok.glob,I.ok.blt,hC,λx y c h1 h2=>I.ok.inj x y c (hcl x c h1) (hcl y c h2),λx hx=>?_,λx c hx=>absurd (show false=true from hx) bS,I.ok.hd,I.ok.frames,.inl rfl,λb hb=>?_,I.bs,dQ I.ok.bsz I.sz,λb o e hb=>?_,λb hb hfs=>?_,I.stack,I.stkFree⟩
 ·have hx:(scope.names.map λ(n,k)=>if (k == fX && X.env.scope.kind == .function && X.env.kindOf n == some .cell) then (n,qJ) else (n,k)).lookup x=some .cell\/(scope.names.map λ(n,k)=>if (k == fX && X.env.scope.kind == .function && X.env.kindOf n == some .cell) then (n,qJ) else (n,k)).lookup x=some .free:=hx
  have:(x,fX)∈scope.names:=by
   rcases hx with hx | hx
   ·exact pF hx (.inl rfl) Sc.nocell
   ·exact pF hx (.inr rfl) Sc.nocell
  exact hall _ this rfl
 ·obtain⟨f0,f1,f2,f3,f4,f5⟩:=hf b hb
  exact⟨aR (aV (hlt b hb) hC),λx c e=>f4 x c (hcl x c e)⟩
 ·obtain⟨f0,f1,f2,f3,f4,f5⟩:=hf b hb
  rcases f3 with z | z
  ·exact I.ok.noex b o e z
  ·have h1:=(aO e)
   have h2:=I.ok.bsz
   exact absurd (aV h1 (dQ h2 z)) (fM _)
 ·obtain⟨f0,f1,f2,f3,f4,f5⟩:=hf b hb
  rcases aL.mp (I.stkSub b hfs) with e | e
  ·exact f1 e
  ·exact f2 e
def RI (σ:St) (k:Nat) (ix:List Nat):St:=dG k none++ix.map λi=>(σ[i]?).join
theorem Gm (I:Inv X pins σ H s) (Sc:CScope X scope) (hcl:∀x c,cl.lookup x=some c->X.env.cells.lookup x=some c) (hall:∀y∈scope.names,y.2 = .free->∃c,cl.lookup y.1=some c)
  {s4:aD} {m:Str->Option aB} {k:Nat} {ix:List Nat} {ys:List Str} (hC:s.heap.objs.size<=C) (hf:∀b∈fp,GG X pins H b) (hlt:∀b∈fp,b<s.heap.objs.size)
  (hk4:∀b o,s.heap.get? b=some o->s4.heap.get? b=some o) (hos:s4.os=s.os) (hb:AllBare s4.gens) (hns:s4.heap.Ns C m)
  (hN:N.length=k+ys.length) (hdrop:N.drop k=ys) (hix:ix.length=ys.length) (hiy:∀(j:Nat) (y:Str) (i:Nat),ys[j]? = some y->ix[j]? = some i->X.N[i]? = some y/\(y,fX)∈scope.names)
  (hkind:∀y∈ys,(relabel scope X.env).names.lookup y=some .cell\/(relabel scope X.env).names.lookup y=some .free) :
  Inv (mH X scope N cl C s H fp) [] (RI σ k ix) H s4:=by
 have hfr:H C=none:=I.hok.fresh hC
 refine⟨Lh I Sc hcl hall hC hf hlt,hos,hb,Un.kept hk4,⟨m,hns,λi x v e1 e2 e3=>?_⟩,λx c e=>?_,hfr,λx c e=>I.freeC x c (hcl x c e),λp hp=>absurd (show p∈([]:List (Addr × Obj)) from hp) (by simp),I.hok.kept hk4,?_⟩
 ·unfold RI at e2
  by_cases hik:i<k
  ·rw[dA (by simpa using hik),gH,if_pos hik] at e2
   cases e2
  ·rw[dP (by simpa using hik),jM,aT] at e2
   cases eo:ix[i-k]? with
   | none=>rw[eo] at e2;cases e2
   | some o =>
    rw[eo] at e2
    have e2:some ((σ[o]?).join)=some (some v):=e2
    have e2':σ[o]? = some (some v):=by
     cases q:σ[o]? with
     | none=>rw[q] at e2;cases e2
     | some z=>rw[q] at e2;cases e2;rfl
    have ey:ys[i-k]? = some x:=by
     rw[<-hdrop,sG]
     rw[show k+(i-k)=i by omega]
     exact e1
    obtain⟨h1,h2⟩:=hiy _ _ _ ey eo
    have hv:Vis X.env.scope x:=by
     rcases Sc.frees _ h2 rfl with q | q
     ·exact .inr (.inl q)
     ·exact .inr (.inr q)
    obtain⟨m0,hn0,hl0⟩:=I.loc
    obtain⟨u,ru,lu⟩:=hl0 o x v h1 e2' hv
    refine⟨u,ru,.inr ⟨hkind x (bF ey),?_⟩⟩
    obtain⟨c,hc⟩:=hall _ h2 rfl
    refine⟨c,hc,?_⟩
    rcases lu with ⟨q,_⟩ | ⟨_,c',hc',hcell⟩
    ·rcases Sc.frees _ h2 rfl with z | z
     ·rw[z] at q;cases q
     ·rw[z] at q;cases q
    ·have:=hcl x c hc
     rw[this] at hc';cases hc'
     obtain⟨oc,ho,hd⟩:=hcell
     exact⟨oc,hk4 _ _ ho,hd⟩
 ·obtain⟨v,oc,ho,hd⟩:=I.cell x c (hcl x c e)
  exact⟨v,oc,hk4 _ _ ho,hd⟩
 ·unfold RI
  show _=N.length
  rw[bV,jM,aS,hix,hN]
end
abbrev Ov (ifs:List Expr) (env:Env):Sem Bool:=forIn ifs true λc r=>if r=true then do let ok <-isTrue c env (eval c env);pure (IS ok) else pure (IS r)
theorem Dk {prog:bA} {w:cA} {A:cE} {R:Result->aD->Prop} {s:aD} {elt target iter:Expr} {ifs:List Expr} {scope:Scope} {pos:Pos} {it acc:aB} {env:Env} (I:Nat->aD->Prop)
  (turn:∀n s,I n s->∀E:aB->aD->Prop,wpAny (model prog w) A (pyNext it) (λr s₁=>match r with
   | none=>R (.ok .next) s₁
   | some v=>wpAny (model prog w) A (letOwnedTupleGo target it v) (λ_ s₁=>wpAny (model prog w) A (assign target env v) (λ_ s₂=>wpAny (model prog w) A (Ov ifs env) (λok s₂=>if ok=true then wpAny (model prog w) A (eval elt env) (λx s₃ =>
     wpAny (model prog w) A (call (.builtin "list.append") [acc,x]) (λ_ s₄=>∃m,m<n/\I m s₄) E s₃) E s₂ else ∃m,m<n/\I m s₂) E s₂) E s₁) E s₁) E s)
  (n:Nat) (h:I n s):codeAny (model prog w) A (.compLoop (.ListComp elt [⟨target,iter,ifs,0⟩] scope pos) 0 it acc env) R s:=by
 refine codeAny_loop rfl I (λn s hI=>?_) n h
 show wpAny _ _ ((compTurn (.ListComp elt [⟨target,iter,ifs,0⟩] scope pos) 0 it acc env).onRaise (λx=>do noteFrame x env;theTreesLotGoes x)) _ _ s
 refine wpAny_noted ?_
 rw[compTurn_list]
 refine aA (nQ (aA (dI (turn n s hI _) (λr s₁ h₁=>?_) λ_ _ h'=>h')))
 cases r with
 | none=>exact aK h₁
 | some v =>
  refine aA (dI h₁ (λ_ s₁' h₁'=>aA (dI h₁' (λ_ s₂ h₂=>aA (dI h₂ (λok s₃ h₃=>?_) λ_ _ h'=>h')) λ_ _ h'=>h')) λ_ _ h'=>h')
  cases ok with
  | false=>exact aK ⟨rfl,h₃⟩
  | true=>exact aA (aA (dI h₃ (λx s₄ h₄=>aA (dI h₄ (λ_ s₅ h₅=>aK (aK ⟨rfl,h₅⟩)) λ_ _ h'=>h')) λ_ _ h'=>h'))
def Gb (X:Cx) (ifs:List Expr) (t:RT):Prop:=∀(pins:List (Addr × Obj)) (s:aD) (σ:St) (H:Hp) (Q:Bool->Hp->Prop),Inv X pins σ H s->liftT X t σ H Q->wpAny (model X.prog X.w) X.A (Ov ifs X.env) (TP X pins σ Q) X.xe s
def Kj:RT:=λ_ Q=>Q true
theorem UH {X:Cx}:Gb X [] Kj:=λpins s σ H Q I ⟨ρ,P,st,q,k⟩=>wpAny_tests_nil ⟨H,I,k true H q (Same.refl H)⟩
theorem Hk {X:Cx} {c:Expr} {t:RT} (h:DT X c t):Gb X [c] t:=λpins s σ H Q I q=>wpAny_tests_one (h pins s σ H Q I q)
def FF (g:RG) (te:RE):List D->En->List D->(List D->Prop)->Prop
 | [],_,acc,Q=>Q acc
 | x::xs,ρ,acc,Q=>g x ρ λρ'=>te ρ' λd=>FF g te xs ρ' (acc++[d]) Q
def jH (g:RG) (tt:RT) (te:RE):List D->En->List D->(List D->Prop)->Prop
 | [],_,acc,Q=>Q acc
 | x::xs,ρ,acc,Q=>g x ρ λρ'=>tt ρ' λb=>if b=true then te ρ' λd=>jH g tt te xs ρ' (acc++[d]) Q else jH g tt te xs ρ' acc Q
theorem PL {g:RG} {te:RE}:∀{xs:List D} {ρ:En} {acc:List D} {Q:List D->Prop},jH g Kj te xs ρ acc Q=FF g te xs ρ acc Q
 | [],_,_,_=>rfl
 | x::xs,ρ,acc,Q=>by
  show (g x ρ λρ'=>if true=true then te ρ' λd=>jH g Kj te xs ρ' (acc++[d]) Q else jH g Kj te xs ρ' acc Q)=g x ρ λρ'=>te ρ' λd=>FF g te xs ρ' (acc++[d]) Q
  congr 1
  funext ρ'
  rw[if_pos rfl]
  congr 1
  funext d
  exact PL
def Di (ρ:En) (i:Nat):Option S:=match ρ[i]? with
 | some (some (.d d))=>some (.d d)
 | _=>none
def GW (ρ:En) (k:Nat) (ix:List Nat):En:=dG k none++ix.map (Di ρ)
theorem Pm {X X':Cx} {ρ:En} {σ:St} {H:Hp} {k:Nat} {ix:List Nat} (so:StOk X ρ σ H) (hK:X'.K=X.K) (hH:X'.H₀=H):StOk X' (GW ρ k ix) (RI σ k ix) H:=by
 have own:∀(i:Nat) (x:S),(GW ρ k ix)[i]? = some (some x)->∃d,x = .d d:=λi x e=>by
  unfold GW at e
  by_cases hik:i<k
  ·rw[dA (by simpa using hik),gH,if_pos hik] at e;cases e
  ·rw[dP (by simpa using hik),aT] at e
   cases eo:ix[i-(dG k (none:Option S)).length]? with
   | none=>rw[eo] at e;cases e
   | some o =>
    rw[eo] at e
    have e:some (Di ρ o)=some (some x):=e
    have e:=dE e
    unfold Di at e
    split at e <;> cases e
    exact⟨_,rfl⟩
 refine⟨by simp[GW,RI],by rw[hH];exact Same.refl H,λi x e=>?_,λi j x y v u a e1 _ _ _ o _=>by
  obtain⟨d,rfl⟩:=own i x e1
  exact o.elim,by rw[hK,hH];exact so.tabs⟩
 unfold GW at e
 by_cases hik:i<k
 ·rw[dA (by simpa using hik),gH,if_pos hik] at e;cases e
 ·rw[dP (by simpa using hik),aT,jM] at e
  cases eo:ix[i-k]? with
  | none=>rw[eo] at e;cases e
  | some o =>
   rw[eo] at e
   have e:some (Di ρ o)=some (some x):=e
   have e:=dE e
   unfold Di at e
   split at e
   ·rename_i d ed
    cases e
    obtain⟨v,h1,h2⟩:=so.rel o _ ed
    refine⟨v,?_,by rw[hK];exact h2⟩
    unfold RI
    rw[dP (by simpa using hik),aT,jM,eo,jQ,h1];rfl
   ·cases e
section
variable {X:Cx} {pins:List (Addr × Obj)} {σ:St} {H:Hp} {s2:aD} {scope:Scope} {N:List Str} {cl:List (Str × Addr)} {fp:List Addr} {it:Addr} {tn:Nat->Heap->Prop} {J:It} {xs:List D} {ρ:En}
 {elt target iter:Expr} {ifs:List Expr} {pos:Pos} {g:RG} {tt:RT} {te:RE} {k:Nat} {ix:List Nat} {ys:List Str} {P:List D->Prop}
theorem _root_.L2.Inv.track {s s':aD} {H H':Hp} {a:Addr} {vs:List V} {its:List aB} {n:Nat} (I:Inv X pins σ H s) (I':Inv X pins σ H' s') (ha:s.heap.objs.size<=a) (hn:H' a=none)
  (e:s'.heap.get? a=some { cls:=.type "list",data:=.seq its.toArray n }) (rv:Vals vs its) (hz:vs.length<=sizeLine):Inv X pins σ (upd H' a (.lst vs)) s':=by
 have hL:X.env.locals≠a:=aR (aV I.lt ha)
 have hcell:∀x c,X.env.cells.lookup x=some c->c≠a:=λx c q z=>by
  obtain⟨v,hv⟩:=I.cell x c q
  exact absurd (aV hv.lt (by rw[z];exact ha)) (fM _)
 have hs0:∀{b:Addr} {o:Obj},X.s₀.heap.get? b=some o->b≠a:=λ{b o} q=>aR (aV (aO q) (dQ I.sz ha))
 refine⟨I'.ok,I'.os,I'.bare,⟨I'.base.keep,I'.base.slot,λb o q n hx=>?_,I'.base.there,λb ys q=>?_,λb o u q=>?_,λb ps q=>?_⟩,I'.loc,I'.cell,?_,λx c q=>?_,λp hp=>?_,λb u q=>?_,I'.len⟩
 ·rw[bM (hs0 q)];exact I'.base.free b o q n hx
 ·rw[bM (cB (I'.base.tups b ys q) hn)];exact I'.base.tups b ys q
 ·rw[bM (cB (I'.base.frzs b o u q) hn)];exact I'.base.frzs b o u q
 ·obtain⟨m,q2⟩:=I'.base.tbls b ps q
  exact⟨m,by rw[bM (cB q2 hn)];exact q2⟩
 ·rw[bM hL];exact I'.free
 ·rw[bM (hcell x c q)];exact I'.freeC x c q
 ·obtain⟨q1,q2,q3,q4,q5⟩:=I'.pin p hp
  have hp1:p.1≠a:=aR (aV (aO (I.pin p hp).1) ha)
  exact⟨q1,by rw[bM hp1];exact q2,q3,q4,q5⟩
 ·by_cases hb:b=a
  ·subst hb
   rw[cR] at q;cases q
   exact⟨hz,its,n,rv,e⟩
  ·rw[bM hb] at q
   exact (I'.hok b u q).stay (λc v _ w=>w) (λc w=>by rw[bM (cB w hn)];exact w) λc ys w=>by rw[bM (cB w hn)];exact w
theorem PN (hc:X.calm=true) (Sc:CScope X scope) (hcl:∀x c,cl.lookup x=some c->X.env.cells.lookup x=some c) (hall:∀y∈scope.names,y.2 = .free->∃c,cl.lookup y.1=some c)
  (hN:N.length=k+ys.length) (hdrop:N.drop k=ys) (hix:ix.length=ys.length) (hiy:∀(j:Nat) (y:Str) (i:Nat),ys[j]? = some y->ix[j]? = some i->X.N[i]? = some y/\(y,fX)∈scope.names)
  (hkind:∀y∈ys,(relabel scope X.env).names.lookup y=some .cell\/(relabel scope X.env).names.lookup y=some .free)
  (hg:∀C s H fp,DG (mH X scope N cl C s H fp) target g) (hif:∀C s H fp,Gb (mH X scope N cl C s H fp) ifs tt) (he:∀C s H fp,DE (mH X scope N cl C s H fp) elt te)
  (I2:Inv X pins σ H s2) (so:StOk X ρ σ H) (T:Turn X.prog X.w X.K target J fp it tn) (st:tn 0 s2.heap) (hf:∀b∈fp,GG X pins H b) (ok:Ge X J xs H) (hz:xs.length<=sizeLine)
  (hP:jH g tt te xs (GW ρ k ix) [] P) {RR:aB->Addr->Result->aD->Prop} {E:aB->aD->Prop}
  (post:∀(ds:List D) (vs:List V) (its:List aB) (n:Nat) (C:Addr) (s':aD) (H':Hp),P ds->Same H H'->H' s2.heap.objs.size=none->Reps X.K H' ds vs->Vals vs its->vs.length<=sizeLine ->
   s'.heap.get? s2.heap.objs.size=some { cls:=.type "list",data:=.seq its.toArray n }->Inv X pins σ H' s'->(∃m,s'.heap.Ns C m)->s2.heap.objs.size<C->H' C=none->RR (.ref s2.heap.objs.size) C (.ok .next) s') :
  wpAny (model X.prog X.w) X.A (newList []) (λacc s₃=>wpAny (model X.prog X.w) X.A (newFunctionEnv scope X.env.globals cl [] X.env.qual none .none (some X.env)) (λcenv s₄ =>
   codeAny (model X.prog X.w) X.A (.compStart (.ListComp elt [⟨target,iter,ifs,0⟩] scope pos) 0 (.ref it) acc { cenv with scope:=relabel scope X.env }) (RR acc cenv.locals) s₄) E s₃) E s2:=by
 refine eQ (wpAny_newFunctionEnv Sc.nocell (by intro y hy;simp at hy) (λh₁ hns₁ hsb₁=>?_) Sc.kind)
 dsimp only at hns₁ hsb₁ ⊢
 generalize hH2:s2.heap.push { cls:=.type "list",dict:=none,data:=.seq ([]:List aB).toArray } = HP2 at hns₁ hsb₁ ⊢
 have hCs:HP2.objs.size=s2.heap.objs.size+1:=by rw[<-hH2,kF]
 have hltC:s2.heap.objs.size<HP2.objs.size:=by rw[hCs];exact mP _
 have hlt:∀b∈fp,b<s2.heap.objs.size:=λb hb=>by
  obtain⟨o,ho,_⟩:=T.obj 0 _ st b hb
  exact aO ho
 have old:∀b o,s2.heap.get? b=some o->h₁.get? b=some o:=λb o e =>
  hsb₁.extBut b o (aR (mQ (aO e) hltC)) (aJ _ (hH2 ▸ aJ _ e))
 have hacc:h₁.get? s2.heap.objs.size=some { cls:=.type "list",data:=.seq ([]:List aB).toArray 0 } :=
  hsb₁.extBut _ _ (aR hltC) (aJ _ (hH2 ▸ bX _ rfl))
 have hfr:H s2.heap.objs.size=none:=I2.hok.fresh (aZ _)
 let X':=mH X scope N cl HP2.objs.size s2 H fp
 have J0:Inv X' [] (RI σ k ix) H { s2 with heap:=h₁,toks:=s2.toks+([]:List (Str × aB)).length } :=
  Gm I2 Sc hcl hall (jA hltC) hf hlt old rfl I2.bare hns₁ hN hdrop hix hiy hkind
 have S0:StOk X' (GW ρ k ix) (RI σ k ix) H:=Pm so rfl rfl
 have hD0fs:s2.heap.objs.size ∉ X'.fs:=λhb=>by
  have hb:s2.heap.objs.size∈frs X.stack:=hb
  rcases aL.mp (I2.stkSub _ hb) with e | e
  ·exact absurd (show X.env.locals<X.env.locals from Nat.lt_of_lt_of_eq I2.lt e) (fM _)
  ·exact I2.nofs (aZ _) e
 have fpok:∀{H':Hp} {o:Obj},(∀b∈fp,H' b=none)->∀b∈fp,GG X' [(s2.heap.objs.size,o)] H' b:=λ{H' o} hn b hb=>by
  obtain⟨f0,f1,f2,f3,f4,f5⟩:=hf b hb
  refine⟨hn b hb,aR (mQ (hlt b hb) hltC),λhfs=>?_,.inl hb,λx c e=>f4 x c (hcl x c e),λp hp=>?_⟩
  ·rcases aL.mp (I2.stkSub b hfs) with e | e
   ·exact f1 e
   ·exact f2 e
  ·have:p=(s2.heap.objs.size,o):=by simpa [X',mH] using hp
   subst this
   exact jB (hlt b hb)
 have pinD:∀{σ':St} {H':Hp} {s':aD} {its:List aB} {n:Nat},Inv X' [] σ' H' s'->H' s2.heap.objs.size=none->s'.heap.get? s2.heap.objs.size=some { cls:=.type "list",data:=.seq its.toArray n }->Inv X' [(s2.heap.objs.size,{ cls:=.type "list",data:=.seq its.toArray n })] σ' H' s':=λI' hn e =>
  I'.pins_of λp hp=>by
   have:=cG.mp hp
   subst this
   exact⟨e,hn,aR hltC,hD0fs,λv z=>by cases z⟩
 have loop:∀s₃:aD,s₃ = { s2 with heap:=h₁,toks:=s2.toks+([]:List (Str × aB)).length } ->
   codeAny (model X.prog X.w) X.A (.compLoop (.ListComp elt [⟨target,iter,ifs,0⟩] scope pos) 0 (.ref it) (.ref s2.heap.objs.size) (compEnvC scope cl HP2.objs.size X.env)) (RR (.ref s2.heap.objs.size) HP2.objs.size) s₃:=by
  rintro s₃ rfl
  refine Dk (λm s'=>∃(i:Nat) (ρ':En) (σ':St) (H':Hp) (ds:List D) (vs:List V) (its:List aB) (n:Nat),m=xs.length-i/\i<=xs.length/\Inv X' [] σ' H' s'/\StOk X' ρ' σ' H'/\tn i s'.heap/\(∀b∈fp,H' b=none) /\
   H' s2.heap.objs.size=none/\s'.heap.get? s2.heap.objs.size=some { cls:=.type "list",data:=.seq its.toArray n }/\Reps X.K H' ds vs/\Vals vs its/\vs.length<=i/\jH g tt te (xs.drop i) ρ' ds P) ?_ xs.length
   ⟨0,GW ρ k ix,RI σ k ix,H,[],[],[],0,rfl,dY _,J0,S0,T.keep _ _ _ st (λb hb o e=>old b o e),λb hb=>(hf b hb).1,hfr,hacc,.nil,.nil,aZ _,by simpa using hP⟩
  rintro m s' ⟨i,ρ',σ',H',ds,vs,its,n,rfl,hi,I',S',st',fr',hn',e',rr,rv,hl,hD⟩ E'
  obtain⟨o1,o2⟩:=ok i H' (.of S'.same)
  have I1:=pinD I' hn' e'
  by_cases hlt':i<xs.length
  ·have e:xs.drop i=xs[i]::xs.drop (i+1):=fQ hlt'
   rw[e] at hD
   obtain⟨go,yl⟩:=o1 xs[i] (aC hlt')
   refine thn (T.item X' rfl rfl rfl hc i _ s' σ' H' E' I1 (fpok fr') st' go) λr s4 ⟨u,hr,h4⟩=>?_
   subst hr
   refine thn h4 λ_ s5 ⟨x,H5,I5,r5,y5,st5,fr5⟩=>?_
   obtain⟨s45,rx5⟩:=yl x H5 y5
   have I5':=I5.pinned (fpok fr5) (T.obj _ _ st5)
   refine dI (hg _ _ _ _ _ s5 σ' H5 x u (λσ6 H6=>∃ρ6,tt ρ6 (λb=>if b=true then te ρ6 (λd=>jH g tt te (xs.drop (i+1)) ρ6 (ds++[d]) P) else jH g tt te (xs.drop (i+1)) ρ6 ds P)/\Keep H5 H6/\StOk X' ρ6 σ6 H6) I5' r5 ⟨xs[i],ρ',_,rx5,S'.ext s45,hD,λρ6 σ6 H6 q6 k6 s6=>⟨ρ6,q6,k6,s6⟩⟩) (λ_ s6' ⟨σ6,H6',I6',ρ6,q6',k6',S6'⟩=>?_) λ_ _ z=>z.elim
   refine dI (hif _ _ _ _ _ s6' σ6 H6' (λb H6=>(if b=true then te ρ6 (λd=>jH g tt te (xs.drop (i+1)) ρ6 (ds++[d]) P) else jH g tt te (xs.drop (i+1)) ρ6 ds P)/\Same H6' H6) I6' ⟨ρ6,_,S6',q6',λb H6 hb s6=>⟨hb,s6⟩⟩) (λokb s6 ⟨H6,I6,q6,s66⟩=>?_) λ_ _ z=>z.elim
   have k6:Keep H5 H6:=k6'.trans (.of s66)
   have S6:StOk X' ρ6 σ6 H6:=S6'.ext s66
   cases okb with
   | false =>
    have q6:jH g tt te (xs.drop (i+1)) ρ6 ds P:=q6
    show ∃m,m<xs.length-i/\_
    obtain⟨e7,n7,_,_,_⟩:=I6.pin (s2.heap.objs.size,_) (bK _ (eP _ cI))
    refine⟨xs.length-(i+1),by omega,i+1,ρ6,σ6,H6,ds,vs,its,n,rfl,hlt',I6.pins_of λp hp=>absurd hp (by simp),S6,?_,λb hb=>?_,n7,e7,rr.keep ((Keep.of s45).trans k6),rv,oX hl,q6⟩
    ·exact T.keep _ _ _ st5 λb hb o q=>(I6.pin (b,o) (bK _ (bK _ (qE hb q)))).1
    ·obtain⟨o,q,_⟩:=T.obj _ _ st5 b hb
     exact (I6.pin (b,o) (bK _ (bK _ (qE hb q)))).2.1
   | true =>
   have q6:te ρ6 (λd=>jH g tt te (xs.drop (i+1)) ρ6 (ds++[d]) P):=q6
   show wpAny _ _ (eval elt _) _ _ s6
   refine dI (he _ _ _ _ _ s6 σ6 H6 (λv H7=>∃d,jH g tt te (xs.drop (i+1)) ρ6 (ds++[d]) P/\Same H6 H7/\Rep X.K H7 d v) I6 ⟨ρ6,_,S6,q6,λd v H7 q7 s7 r7=>⟨d,q7,s7,r7⟩⟩) (λu7 s7 ⟨v7,H7,I7,rv7,d,q7,s67,r7⟩=>?_) λ_ _ z=>z.elim
   obtain⟨e7,n7,_,_,_⟩:=I7.pin (s2.heap.objs.size,_) (bK _ (eP _ cI))
   have hsz:its.toArray.size+1<=sizeLine:=by
    rw[aN,<-rv.length]
    omega
   refine wM F.slot_list_append ⟨_,e7,rfl⟩ F.entry_list_append (F.args_list_append_2 _ _) (EY s2.heap.objs.size its.toArray n u7 (by omega)) ⟨e7,?_⟩
   have e8:=GS e7 (λa=>a.push u7)
   have I8:Inv X' [] σ6 H7 s7:=I7.pins_of λp hp=>absurd hp (by simp)
   have upd8:∀b o,b≠s2.heap.objs.size->s7.heap.get? b=some o->(s7.heap.update s2.heap.objs.size (cW λa=>a.push u7)).get? b=some o:=λb o hb q=>(bO s7.heap _ (Ne.symm hb)).trans q
   have I9:Inv X' [] σ6 H7 { s7 with heap:=s7.heap.update s2.heap.objs.size (cW λa=>a.push u7) } :=
    I8.turned (t':=s7.toks) upd8 n7 (aR hltC) (.inr (aZ _)) (λx c q z=>by
     obtain⟨v,hv⟩:=I2.cell x c (hcl x c q)
     exact absurd hv.lt (by rw[z];exact fM _)) (λp hp=>absurd (show p∈([]:List (Addr × Obj)) from hp) (by simp))
   have k57:Keep H5 H7:=k6.trans (.of s67)
   have k':Keep H' H7:=(Keep.of s45).trans k57
   refine⟨xs.length-(i+1),by omega,i+1,ρ6,σ6,H7,ds++[d],vs++[v7],its++[u7],_,rfl,hlt',I9,S6.ext s67,?_,λb hb=>?_,n7,by simpa using e8,(rr.keep k').append (.cons r7 .nil),rv.append (.cons rv7 .nil),by rw[bV];exact uZ hl,q7⟩
   ·refine T.keep _ _ _ st5 λb hb o q=>?_
    have q7':=(I7.pin (b,o) (bK _ (bK _ (qE hb q)))).1
    exact upd8 b o (aR (hlt b hb)) q7'
   ·obtain⟨o,q,_⟩:=T.obj _ _ st5 b hb
    exact (I7.pin (b,o) (bK _ (bK _ (qE hb q)))).2.1
  ·have hie:i=xs.length:=by omega
   subst hie
   rw[GL] at hD
   refine thn (T.done X' rfl rfl rfl hc _ _ s' σ' H' E' I1 (fpok fr') st' (o2 (aZ _))) λr s4 ⟨hr,I4⟩=>?_
   subst hr
   obtain⟨e4,n4,_,_,_⟩:=I4.pin (s2.heap.objs.size,_) (bK _ cI)
   obtain⟨m4,hn4,_⟩:=I4.loc
   have I5:Inv X pins σ H' s4:=I2.call' (ch:=fp) I4.os I4.base I4.hok I4.bare λb hb=>by
    obtain⟨f0,f1,f2,f3,f4,f5⟩:=hf b hb
    exact⟨f3,f1,f4,f5⟩
   exact post ds vs its n HP2.objs.size s4 H' hD S'.same n4 rr rv (dQ hl hz) e4 I5 ⟨m4,hn4⟩ hltC I4.free
 exact codeAny_compStart_list (loop _ rfl) (T.self X.A 0 _ _ _ (T.keep _ _ _ st λb hb o e=>old b o e) (loop _ rfl))
end
def PK (X:Cx) (scope:Scope) (N:List Str) (k:Nat) (ix:List Nat):Bool :=
 scope.kind == .function && scope.names.all (λy=>y.2 != .cell) && scope.names.all (λy=>y.2 != .local || scope.names.lookup y.1 == some .local) &&
 scope.names.all (λy=>y.2 != .free || X.env.kindOf y.1 == some .cell || X.env.kindOf y.1 == some .free) &&
 N.length == k+ix.length && ((N.drop k).zip ix).all (λp=>X.N[p.2]? == some p.1 && scope.names.contains (p.1,.free)) &&
 (N.drop k).all (λy=>(relabel scope X.env).names.lookup y == some .cell || (relabel scope X.env).names.lookup y == some .free)
structure CompF (X:Cx) (scope:Scope) (N:List Str) (k:Nat) (ix:List Nat):Prop where
 sc:CScope X scope
 hN:N.length=k+(N.drop k).length
 hix:ix.length=(N.drop k).length
 hiy:∀(j:Nat) (y:Str) (i:Nat),(N.drop k)[j]? = some y->ix[j]? = some i->X.N[i]? = some y/\(y,fX)∈scope.names
 hkind:∀y∈N.drop k,(relabel scope X.env).names.lookup y=some .cell\/(relabel scope X.env).names.lookup y=some .free
theorem TW {X:Cx} {scope:Scope} {N:List Str} {k:Nat} {ix:List Nat} (h:PK X scope N k ix=true):CompF X scope N k ix:=by
 unfold PK at h
 simp only[jE,GK,bne_iff_ne,ne_eq,Bool.or_eq_true,beq_iff_eq] at h
 obtain⟨⟨⟨⟨⟨⟨h1,h2⟩,h3⟩,h4⟩,h5⟩,h6⟩,h7⟩:=h
 have hl:(N.drop k).length=ix.length:=by rw[hV];omega
 refine⟨⟨h1,h2,λy hy e=>?_,λy hy e=>?_⟩,by omega,hl.symm,λj y i e1 e2=>?_,h7⟩
 ·rcases h3 y hy with q | q
  ·exact absurd e q
  ·exact q
 ·rcases h4 y hy with (q | q) | q
  ·exact absurd e q
  ·exact .inl q
  ·exact .inr q
 ·have hm:(y,i)∈(N.drop k).zip ix:=by
   refine bF (i:=j) ?_
   rw[sY]
   exact⟨e1,e2⟩
  obtain⟨q1,q2⟩:=h6 _ hm
  exact⟨q1,xR.mp q2⟩
def rE (ti:RA) (k:Nat) (ix:List Nat) (g:RG) (te:RE):RA:=λρ Q=>ti ρ λxs=>Sz xs.length/\FF g te xs (GW ρ k ix) [] Q
def HV (ti:RA) (k:Nat) (ix:List Nat) (g:RG) (tt:RT) (te:RE):RA:=λρ Q=>ti ρ λxs=>Sz xs.length/\jH g tt te xs (GW ρ k ix) [] Q
theorem QN {ti:RA} {k:Nat} {ix:List Nat} {g:RG} {te:RE}:HV ti k ix g Kj te=rE ti k ix g te:=by
 funext ρ Q
 unfold HV rE
 congr 1
 funext xs
 rw[PL]
section
variable {X:Cx} {scope:Scope} {elt target iter:Expr} {ifs:List Expr} {pos:Pos} {g:RG} {tt:RT} {te:RE} {ti:RA}
theorem IH {pins:List (Addr × Obj)} {σ:St} {H H':Hp} {s s':aD} {C:Addr} {h':Heap} {t':Nat} (I2:Inv X pins σ H s) {σ':St} (I':Inv X pins σ' H' s') (hC:s.heap.objs.size<=C) (hn:H' C=none) (hs:kP C s'.heap h') :
  Inv X pins σ' H' { s' with heap:=h',toks:=t' } :=
 I'.turned (λb o hb e=>(hs.2 b hb).trans e) hn (jB (aV I2.lt hC)) (.inr (dQ I2.sz hC)) (λx c e z=>by
  obtain⟨v,hv⟩:=I2.cell x c e
  exact absurd (aV hv.lt (by rw[z];exact hC)) (fM _)) λp hp z=>absurd (aV (aO (I2.pin p hp).1) (by rw[z];exact hC)) (fM _)
theorem UK (N:List Str) (k:Nat) (ix:List Nat) (hi:DI X target iter ti) (hg:∀cl C s H fp,DG (mH X scope N cl C s H fp) target g) (hif:∀cl C s H fp,Gb (mH X scope N cl C s H fp) ifs tt) (he:∀cl C s H fp,DE (mH X scope N cl C s H fp) elt te)
  (hc:X.calm=true:=by rfl) (hB:PK X scope N k ix=true:=by rfl) (hs:∀x,foldedSetIterable iter X.env x=pure x:=by intro _;rfl):DO X (.ListComp elt [⟨target,iter,ifs,0⟩] scope pos) (HV ti k ix g tt te):=by
 intro pins s σ H Q I hh_0
 obtain⟨ρ,P,so,q,kk⟩:=hh_0
 have F:=TW hB
 obtain⟨cl,hclos,hcl,hall⟩:=KU (scope:=scope) (env:=X.env) λy hy hf=>I.ok.has _ (F.sc.frees y hy hf)
 rw[eval_ListComp]
 refine uM (use:=none) rfl hs hclos F.sc.kind F.sc.locs (thn (hi pins s σ H (λJ H'=>∃xs,Same H H'/\Ge X J xs H'/\xs.length<=sizeLine/\jH g tt te xs (GW ρ k ix) [] P) I ⟨ρ,_,so,q,λxs J H' hx s1 ok=>⟨xs,s1,ok,hx.1.ok,hx.2⟩⟩) λv s1 h1=>thn h1 λitv s2 h2=>?_)
 obtain⟨it,fp,tn,J,H',rfl,I2,T,st,hf,xs,s01,ok,hz,hD⟩:=h2
 refine PN (RR:=λacc C=>compPost (model X.prog X.w) X.A X.xe none (EP X pins σ Q) acc C) hc F.sc hcl hall F.hN rfl F.hix F.hiy F.hkind (hg cl) (hif cl) (he cl) I2 (so.ext s01) T st hf ok hz hD ?_
 intro ds vs its n C s' H2 hP s12 hn rr rv hl e I' ⟨m,hns⟩ hltC hnC
 refine⟨m,hns,λh' hs'=>?_⟩
 have I3:Inv X pins σ H2 { s' with heap:=h' }:=IH (t':=s'.toks) I2 I' (jA hltC) hnC hs'
 have e3:h'.get? s2.heap.objs.size=some { cls:=.type "list",data:=.seq its.toArray n }:=(hs'.2 _ (aR hltC)).trans e
 exact⟨.ref s2.heap.objs.size,_,I2.track I3 (aZ _) hn e3 rv hl,rfl,kk ds _ vs H2 hP (s01.trans s12) hn rr⟩
theorem Ht {i:Nat} {y:Str} {pos' spos:Pos} (N:List Str) (k:Nat) (ix:List Nat) (hN:X.N.Nodup) (hi:DI X target iter ti) (hg:∀cl C s H fp,DG (mH X scope N cl C s H fp) target g) (hif:∀cl C s H fp,Gb (mH X scope N cl C s H fp) ifs tt) (he:∀cl C s H fp,DE (mH X scope N cl C s H fp) elt te)
  (hy:X.N[i]? = some y:=by rfl) (hx:X.env.scope.names.lookup y=some .local:=by rfl) (hc:X.calm=true:=by rfl) (hB:PK X scope N k ix=true:=by rfl) (hs:∀x,foldedSetIterable iter X.env x=pure x:=by intro _;rfl)
  (hsw:swapsWith (.ListComp elt [⟨target,iter,ifs,0⟩] scope pos) (some (.Name y pos')) spos.line X.env=pure true:=by rfl) :
  DS X (.Assign [.Name y pos'] (.ListComp elt [⟨target,iter,ifs,0⟩] scope pos) spos) (IN i (HV ti k ix g tt te)):=by
 intro pins s σ H De I hh_0
 obtain⟨ρ,E,so,q,nn,rt,bk,ct⟩:=hh_0
 have F:=TW hB
 obtain⟨cl,hclos,hcl,hall⟩:=KU (scope:=scope) (env:=X.env) λy hy hf=>I.ok.has _ (F.sc.frees y hy hf)
 rw[exec_Assign_Name_used _ _ _ _ hsw]
 refine aA (nQ (aA ?_))
 show wpAny _ X.A (do let _ <-comprehension (.ListComp elt [⟨target,iter,ifs,0⟩] scope pos) scope X.env _ (newList []) false (eval iter X.env) (some (assign (.Name y pos') X.env))) _ _ s
 refine aA (dI (uM (use:=some (assign (.Name y pos') X.env)) (Q:=λ_ s'=>SP X pins De .next s') rfl hs hclos F.sc.kind F.sc.locs
  (thn (hi pins s σ H (λJ H'=>∃xs,Same H H'/\Ge X J xs H'/\xs.length<=sizeLine/\jH g tt te xs (GW ρ k ix) [] (λds=>E.nx (ρ.set i (some (.own ds))))) I ⟨ρ,_,so,q,λxs J H' hx s1 ok=>⟨xs,s1,ok,hx.1.ok,hx.2⟩⟩) λv s1 h1=>thn h1 λitv s2 h2=>?_)) (λ_ s' hq=>aK (aK hq)) λ_ _ e=>e)
 obtain⟨it,fp,tn,J,H',rfl,I2,T,st,hf,xs,s01,ok,hz,hD⟩:=h2
 refine PN (RR:=λacc C=>compPost (model X.prog X.w) X.A X.xe (some (assign (.Name y pos') X.env)) (λ_ s'=>SP X pins De .next s') acc C) hc F.sc hcl hall F.hN rfl F.hix F.hiy F.hkind (hg cl) (hif cl) (he cl) I2 (so.ext s01) T st hf ok hz hD ?_
 intro ds vs its n C s' H2 hP s12 hn rr rv hl e I' ⟨m,hns⟩ hltC hnC
 have I3:=I2.track I' (aZ _) hn e rv hl
 have hneC:s2.heap.objs.size≠C:=aR hltC
 have so3:StOk X (ρ.set i (some (.own ds))) (σ.set i (some (.ref s2.heap.objs.size))) (upd H2 s2.heap.objs.size (.lst vs)):=(so.ext (s01.trans s12)).set_own hn rr
 have k3:Keep H (upd H2 s2.heap.objs.size (.lst vs)):=(Keep.of (s01.trans s12)).trans (.ofF λb o h=>by rw[bM (cB h hn)];exact h)
 show wpAny (model X.prog X.w) X.A (assign (.Name y pos') X.env (.ref s2.heap.objs.size)) _ _ s'
 refine GC (QV I3 hN hy (.inl hx) (v:=.ref s2.heap.objs.size) rfl (λs4 I4 ⟨a,sb,ha⟩=>?_) (.inr hx))
 have hCa:C≠a:=by
  rcases ha with rfl | ha
  ·exact jB (mQ I2.lt hltC)
  ·obtain⟨v,hv⟩:=I2.cell _ a ha
   exact jB (mQ hv.lt hltC)
 refine⟨m,hns.sameBut sb hCa,λh' hs'=>⟨_,_,IH (t':=s4.toks) I2 I4 (jA hltC) (by rw[bM (Ne.symm hneC)];exact hnC) hs',nn _ _ _ hP k3 so3⟩⟩
theorem AG (N:List Str) (k:Nat) (ix:List Nat) (hi:DI X target iter ti) (hg:∀cl C s H fp,DG (mH X scope N cl C s H fp) target g) (he:∀cl C s H fp,DE (mH X scope N cl C s H fp) elt te)
  (hc:X.calm=true:=by rfl) (hB:PK X scope N k ix=true:=by rfl) (hs:∀x,foldedSetIterable iter X.env x=pure x:=by intro _;rfl):DO X (.ListComp elt [⟨target,iter,[],0⟩] scope pos) (rE ti k ix g te):=by
 rw[<-QN];exact UK N k ix hi hg (λ_ _ _ _ _=>UH) he hc hB hs
theorem Ly {i:Nat} {y:Str} {pos' spos:Pos} (N:List Str) (k:Nat) (ix:List Nat) (hN:X.N.Nodup) (hi:DI X target iter ti) (hg:∀cl C s H fp,DG (mH X scope N cl C s H fp) target g) (he:∀cl C s H fp,DE (mH X scope N cl C s H fp) elt te)
  (hy:X.N[i]? = some y:=by rfl) (hx:X.env.scope.names.lookup y=some .local:=by rfl) (hc:X.calm=true:=by rfl) (hB:PK X scope N k ix=true:=by rfl) (hs:∀x,foldedSetIterable iter X.env x=pure x:=by intro _;rfl)
  (hsw:swapsWith (.ListComp elt [⟨target,iter,[],0⟩] scope pos) (some (.Name y pos')) spos.line X.env=pure true:=by rfl) :
  DS X (.Assign [.Name y pos'] (.ListComp elt [⟨target,iter,[],0⟩] scope pos) spos) (IN i (rE ti k ix g te)):=by
 rw[<-QN];exact Ht N k ix hN hi hg (λ_ _ _ _ _=>UH) he hy hx hc hB hs hsw
end
section
variable {X:Cx} {e a b:Expr} {pos apos cpos npos:Pos} {te:RE} {x:Str}
def MW (i:Nat) (te:RE):RS:=λE ρ=>match ρ[i]? with
 | some (some (.own xs))=>te ρ λd=>Sz (xs.length+1)/\E.nx (ρ.set i (some (.own (xs++[d]))))
 | _=>False
theorem HB (i:Nat) (he:DE X e te) (hN:X.N[i]? = some x:=by rfl) (hv:Vis X.env.scope x:=by walk_at "vis") (hd:(x == ("__debug__":Str))=false:=by decide) (hcd:(x == ("__classdict__":Str))=false:=by decide)
  (hbase:attributeBase (.Name x npos) "append" X.env (eval (.Name x npos) X.env)=eval (.Name x npos) X.env:=by rfl)
  (hfew:((backTo cpos (starEach [e] X.env)).all (λx=>!x.1) && (backToKw cpos (keywordEach [] X.env)).all (λx=>x.1.isSome) && decide (([e]:List Expr).length+([]:List lP).length+(if ([]:List lP).isEmpty then 0 else 1)<30))=true:=by rfl)
  (hline:(apos.endLine == cpos.line)=true:=by rfl) (hs:starEach [e] X.env=[(false,eval e X.env)]:=by rfl) (hn:starEach [] X.env=[]:=by rfl) (hsw:swapsWith (.Call (.Attribute (.Name x npos) "append" apos) [e] [] cpos) none pos.line X.env=pure false:=by rfl) :
  DS X (.Expr (.Call (.Attribute (.Name x npos) "append" apos) [e] [] cpos) pos) (MW i te):=by
 refine PS.mono (wS (QF gJ nG nH HJ (pv i hN hv hd hcd) (nE he hs hn) hbase hfew hline (by rw[hs,hn]) (by rw[hn];rfl)) hsw) λDe σ H hh=>kL hh λρ E so q n r bk ct=>?_
 unfold MW at q
 split at q
 ·rename_i xs ex
  obtain⟨v,h1,p,vs,ev,hp,h0,rr⟩:=so.rel i _ ex
  subst ev
  refine⟨.ref p,h1,.inl ⟨rfl,vs,SqL.of hp⟩,ρ,_,so,q,λd v H1 hd s1 rd=>?_⟩
  have hp1:=s1.get _ _ hp trivial
  obtain⟨so2,k2⟩:=(so.ext s1).upd_own ex h1 hp1 h0 ((rr.keep (.of s1)).append (.cons rd .nil))
  have hsz:xs.length+1<=sizeLine:=hd.1.ok
  exact⟨p,vs,v,rfl,rfl,hp1,by rw[<-rr.length];omega,n _ _ _ hd.2 ((Keep.of s1).trans k2) so2⟩
 ·exact q.elim
def Cl (i:Nat):RS:=λE ρ=>match ρ[i]? with
 | some (some (.own xs))=>xs≠[]/\E.nx (ρ.set i (some (.own xs.dropLast)))
 | _=>False
theorem Ps (i:Nat) (hN:X.N[i]? = some x:=by rfl) (hv:Vis X.env.scope x:=by walk_at "vis") (hd:(x == ("__debug__":Str))=false:=by decide) (hcd:(x == ("__classdict__":Str))=false:=by decide)
  (hbase:attributeBase (.Name x npos) "pop" X.env (eval (.Name x npos) X.env)=eval (.Name x npos) X.env:=by rfl)
  (hline:(apos.endLine == cpos.line)=true:=by rfl) (hsw:swapsWith (.Call (.Attribute (.Name x npos) "pop" apos) [] [] cpos) none pos.line X.env=pure false:=by rfl) :
  DS X (.Expr (.Call (.Attribute (.Name x npos) "pop" apos) [] [] cpos) pos) (Cl i):=by
 refine PS.mono (wS (Qw gJ xX xZ Qp (pv i hN hv hd hcd) hbase hline) hsw) λDe σ H hh=>kL hh λρ E so q n r bk ct=>?_
 unfold Cl at q
 split at q
 ·rename_i xs ex
  obtain⟨v,h1,p,vs,ev,hp,h0,rr⟩:=so.rel i _ ex
  subst ev
  have hl:=rr.length
  have hne:0<xs.length:=nD.mpr q.1
  have hg:vs[vs.length-1]? = some (vs[vs.length-1]'(by omega)):=aC _
  obtain⟨so2,k2⟩:=so.upd_own ex h1 hp h0 rr.dropLast
  exact⟨.ref p,h1,.inl ⟨rfl,vs,SqL.of hp⟩,p,vs,_,rfl,rfl,hp,hg,n _ _ _ q.2 k2 so2⟩
 ·exact q.elim
def Rs (i:Nat) (te tk:RE):RS:=λE ρ=>match ρ[i]? with
 | some (some (.own xs))=>te ρ λd=>tk ρ λkd=>match kd with
  | .int k=>match ixN xs.length k with
   | some j=>E.nx (ρ.set i (some (.own (xs.set j d))))
   | none=>False
  | _=>False
 | _=>False
end
section
variable {X:Cx} {e a b:Expr} {pos p:Pos}
theorem Nj:OpR X (binaryOp .Add) (λx y H Q=>∃l b xs zs,x = .ref l/\y = .ref b/\SqL X.K H l xs/\SqL X.K H b zs/\xs.length+zs.length<=sizeLine/\∀p,H p=none->Q (.ref p) (upd H p (.lst (xs++zs)))):=by
 intro pins s σ H x y v u Q I rx ry h
 obtain⟨l,b,xs,zs,rfl,rfl,hH,hB,hz,q⟩:=h
 cases rx
 cases ry
 obtain⟨its,r,⟨o,n,e,hc,hd,hs⟩,hl⟩:=I.list hH
 obtain⟨its2,r2,⟨o2,n2,e2,hc2,hd2,hs2⟩,hl2⟩:=I.list hB
 obtain⟨c,d,dt,sl⟩:=o
 obtain⟨c2,d2,dt2,sl2⟩:=o2
 dsimp only at hc hs hd hc2 hs2 hd2
 subst hc hs hd hc2 hs2 hd2
 have hl1:=r.length
 have hl2:=r2.length
 refine FG (T:="list") (id:="list.__add__") ⟨_,e,rfl⟩ ⟨_,e2,rfl⟩ (by kernel_rfl) (by kernel_rfl) PySem.F.slot_list_add PySem.F.entry_list_add (PySem.F.args_list_add_2 _ _)
  (list_addW l b its.toArray its2.toArray n n2 none none sl sl2 (by rw[aN,aN];omega)) ⟨e,e2,?_⟩
 have ea:its.toArray++its2.toArray=(its++its2).toArray:=by simp
 rw[ea]
 exact⟨.ref _,_,I.lnew (t':=s.toks) (r.append r2) (by rw[bV];omega),rfl,q _ I.fresh⟩
def FzQ (X:Cx) (Q:VK):VK:=λv H'=>Q v H'\/∃p vs H1,v = .ref p/\H'=upd H1 p (.lst vs)/\H1 p=none/\∀H2,Same H1 H2->FzL X.K H2 p vs->Q v H2
theorem Op {pins:List (Addr × Obj)} {σ:St} {Q:VK} {u:aB} {s:aD} (h:EP X pins σ (FzQ X Q) u s):EP X pins σ Q u s:=by
 obtain⟨v,H',I,rv,q | ⟨p,vs,H1,rfl,rfl,hn,q⟩⟩:=h
 ·exact⟨v,H',I,rv,q⟩
 ·obtain⟨o,I2⟩:=Inv.freeze I (a:=p) (xs:=vs) cR
  exact⟨.ref p,_,I2,rv,q _ (.fn λb u e=>by rw[bM (cB e hn),bM (cB e hn)];exact e) (.inl ⟨o,cR⟩)⟩
theorem PE.frz {t:TE} (h:PE X e t):PE X e (λσ H Q=>t σ H (FzQ X Q)):=λpins s σ H Q I q=>thn (h pins s σ H _ I q) λ_ _=>Op
theorem OpR.frz {f:aB->aB->Sem aB} {r:R2} (h:OpR X f r):OpR X f (λx y H Q=>r x y H (FzQ X Q)):=λpins s σ H x y v u Q I rx ry q=>thn (h pins s σ H x y v u _ I rx ry q) λ_ _=>Op
def zA:R22:=λx y Q=>match x,y with
 | .int i,.int j=>Q (.int (i+j))
 | .lst xs,.lst ys=>Sz (xs.length+ys.length)/\Q (.lst (xs++ys))
 | .tup xs,.tup ys=>xs≠[]/\Sz (xs.length+ys.length)/\Q (.tup (xs++ys))
 | _,_=>False
theorem upd_new {H:Hp} {p:Addr} {o:HO} (hp:H p=none):Same H (upd H p o):=Same.fn λb u e=>by rw[bM (cB e hp)];exact e
theorem FS:OpD X (binaryOp .Add) zA:=by
 intro pins s σ H x y v u Q I rx ry hh_0
 obtain⟨d,e,P,r1,r2,q,k⟩:=hh_0
 unfold zA at q;split at q
 ·exact iS pins s σ H x y v u Q I rx ry ⟨_,_,P,r1,r2,q,k⟩
 ·rename_i xs ys
  obtain⟨a,vs,rfl,ha,ra⟩:=r1.lst
  obtain⟨b,ws,rfl,hb,rb⟩:=r2.lst
  have hsz:xs.length+ys.length<=sizeLine:=q.1.ok
  refine OpR.frz Nj pins s σ H _ _ v u Q I rx ry ⟨a,b,vs,ws,rfl,rfl,ha,hb,by rw[<-ra.length,<-rb.length];exact hsz,λp hp=>.inr ⟨p,_,H,rfl,rfl,hp,λH2 s2 fz=>k _ _ H2 q.2 s2 (.lst fz ((ra.append rb).keep (.of s2)))⟩⟩
 ·rename_i xs ys
  obtain⟨a,vs,rfl,ha,ra⟩:=r1.tup
  obtain⟨b,ws,rfl,hb,rb⟩:=r2.tup
  have hsz:xs.length+ys.length<=sizeLine:=q.2.1.ok
  have hl:=ra.length
  refine Nk pins s σ H _ _ v u Q I rx ry ⟨a,b,vs,ws,rfl,rfl,SqT.of ha,SqT.of hb,λz=>q.1 (iM.mp (by rw[hl,z];rfl)),by rw[<-ra.length,<-rb.length];exact hsz,λz=>?_,λz p hp=>?_⟩
  ·subst z
   cases rb
   have:=k _ (.ref a) H q.2.2 (Same.refl H)
   rw[dL] at this
   exact this (.tup ha ra)
  ·exact k _ _ _ q.2.2 (upd_new hp) (.tup cR ((ra.append rb).keep (.of (upd_new hp))))
 ·exact q.elim
def Ki (te:RE) (tl th:RO):RE:=λρ Q=>te ρ λx=>tl ρ λl=>th ρ λu=>match x with
 | .lst ds=>Q (.lst (cutD ds l u))
 | .tup ds=>¬(HT.sIx ds.length 0 l=0/\HT.sIx ds.length ds.length u=ds.length)/\Q (.tup (cutD ds l u))
 | _=>False
theorem TZ {K:aF} {H:Hp} {ds:List D} {vs:List V} (l u:Option Int) (rr:Reps K H ds vs):Reps K H (cutD ds l u) (TY vs l u):=by
 unfold cutD TY
 rw[<-rr.length]
 exact (rr.drop _).take _
theorem LD {lo hi:Option Expr} {te:RE} {tl th:RO} {p2:Pos} (he:DB X e te) (hl:DP X lo tl) (hu:DP X hi th):DE X (.Subscript e (.Slice lo hi none p2) pos) (Ki te tl th):=by
 refine PE.mono (PE.frz (Js (Ob.or Sb) he hl hu)) λσ H Q hh=>gW hh λρ P st q k=>?_
 refine⟨ρ,_,st,q,λd v H1 hd s1 r1=>⟨ρ,_,st.ext s1,hd,λl H2 h2 s2=>⟨ρ,_,(st.ext s1).ext s2,h2,λu H3 h3 s3=>?_⟩⟩⟩
 have s03:=(s1.trans s2).trans s3
 cases d with
 | lst ds =>
  obtain⟨p,vs,rfl,hq,rr⟩:=(r1.same (s2.trans s3)).lst
  exact .inl ⟨p,vs,rfl,hq,λp' hp'=>.inr ⟨p',_,H3,rfl,rfl,hp',λH4 s4 fz=>k _ _ H4 h3 (s03.trans s4) (.lst fz ((TZ l u rr).keep (.of s4)))⟩⟩
 | tup ds =>
  obtain⟨p,vs,rfl,hq,rr⟩:=(r1.same (s2.trans s3)).tup
  refine .inr ⟨p,vs,rfl,SqT.of hq,by rw[<-rr.length];exact h3.1,λp' hp'=>.inl ?_⟩
  exact k _ _ _ h3.2 (s03.trans (upd_new hp')) (.tup cR ((TZ l u rr).keep (.of (upd_new hp'))))
 | _=>exact h3.elim
variable {te:RE}
def AD:D->(D->Prop)->Prop:=λd Q=>match d with
 | .lst ds=>Q (.lst ds)
 | .tup ds=>Q (.lst ds)
 | _=>False
theorem boot_list:bootBuiltins "list" = some (.type "list"):=by decide +kernel
theorem boot_tuple:bootBuiltins "tuple" = some (.type "tuple"):=by decide +kernel
theorem GZ (hm:X.mg "list" = none) (h:DB X e te) (hg:Gl X "list":=by rfl) (hs:starEach [e] X.env=[(false,eval e X.env)]:=by rfl) (hn:starEach [] X.env=[]:=by rfl):DE X (.Call (.Name "list" p) [e] [] pos) (r1 AD te):=by
 refine PE.mono (PE.frz (QG RH hg hm boot_list (nE h hs hn) (by decide) (by decide) (by rw[hs,hn]) (by rw[hn];rfl))) λσ H Q hh=>gW hh λρ P st q k=>⟨ρ,_,st,q,λd v H1 hd s1 r=>?_⟩
 unfold AD at hd;split at hd
 ·obtain⟨p,vs,rfl,hq,rr⟩:=r.lst
  exact⟨p,vs,rfl,.inl hq,λp' hp'=>.inr ⟨p',_,H1,rfl,rfl,hp',λH4 s4 fz=>k _ _ H4 hd (s1.trans s4) (.lst fz (rr.keep (.of s4)))⟩⟩
 ·obtain⟨p,vs,rfl,hq,rr⟩:=r.tup
  exact⟨p,vs,rfl,.inr (SqT.of hq),λp' hp'=>.inr ⟨p',_,H1,rfl,rfl,hp',λH4 s4 fz=>k _ _ H4 hd (s1.trans s4) (.lst fz (rr.keep (.of s4)))⟩⟩
 ·exact hd.elim
def LA:D->(D->Prop)->Prop:=λd Q=>match d with
 | .lst ds=>Q (.tup ds)
 | .tup ds=>Q (.tup ds)
 | _=>False
theorem UF (hm:X.mg "tuple" = none) (h:DB X e te) (hg:Gl X "tuple":=by rfl) (hs:starEach [e] X.env=[(false,eval e X.env)]:=by rfl) (hn:starEach [] X.env=[]:=by rfl):DE X (.Call (.Name "tuple" p) [e] [] pos) (r1 LA te):=by
 refine PE.mono (QG OM hg hm boot_tuple (nE h hs hn) (by decide) (by decide) (by rw[hs,hn]) (by rw[hn];rfl)) λσ H Q hh=>gW hh λρ P st q k=>⟨ρ,_,st,q,λd v H1 hd s1 r=>?_⟩
 unfold LA at hd;split at hd
 ·obtain⟨p,vs,rfl,hq,rr⟩:=r.lst
  exact⟨p,vs,rfl,.inl ⟨hq,λp' hp'=>k _ _ _ hd (s1.trans (upd_new hp')) (.tup cR (rr.keep (.of (upd_new hp'))))⟩⟩
 ·obtain⟨p,vs,rfl,hq,rr⟩:=r.tup
  exact⟨p,vs,rfl,.inr ⟨SqT.of hq,k _ _ H1 hd s1 (.tup hq rr)⟩⟩
 ·exact hd.elim
def Vj:D->(D->Prop)->Prop:=λd Q=>match d with
 | .lst ds=>∃ns:List Int,ds=ns.map D.int/\Q (.int ns.sum)
 | _=>False
def dMaxL:D->(D->Prop)->Prop:=λd Q=>match d with
 | .lst ds=>∃ns:List Int,ds=ns.map D.int/\ns≠[]/\∀M,M∈ns->(∀a∈ns,a<=M)->Q (.int M)
 | _=>False
def dMinL:D->(D->Prop)->Prop:=λd Q=>match d with
 | .lst ds=>∃ns:List Int,ds=ns.map D.int/\ns≠[]/\∀M,M∈ns->(∀a∈ns,M<=a)->Q (.int M)
 | _=>False
theorem boot_min:bootBuiltins "min" = some (.builtin "min"):=by decide +kernel
end
section
variable {X:Cx} {tg e:Expr} {te:RE} {pos p:Pos}
def Uj (te:RE):RA:=λρ Q=>te ρ λd=>match d with
 | .lst ds=>Q ds.reverse
 | _=>False
theorem boot_reversed:bootBuiltins "reversed" = some (.type "reversed"):=by decide +kernel
end
section
variable {prog:bA} {w:cA} {A:cE} {E:aB->aD->Prop} {s:aD}
end
section
variable {prog:bA} {w:cA} {A:cE} {E:aB->aD->Prop} {s:aD} {z TI TO i1 i2 a1 a2:Addr} {vs us:List aB} {T1 T2:Nat->Heap->Prop}
end
abbrev Bo (c:String) (l:Addr):Obj:={ cls:=.type c,data:=.fields #[.ref l,.int 0 0] }
section
variable {prog:bA} {w:cA} {A:cE} {E:aB->aD->Prop} {s:aD}
theorem UU {R:Result->aD->Prop} {S I:Addr} {n:Nat} {J F:List aB->Heap->Prop} {s0:aD} (res:aB) (hn:n<=sizeLine)
  (stay:∀acc h h',J acc h->(∃o,h.get? S=some o/\o.cls = .type "list")->h'.objs.size=h.objs.size->(∀b o,b≠S->h.get? b=some o->h'.get? b=some o)->J acc h')
  (item:∀acc (s:aD) (o:Obj) (Q:Option aB->aD->Prop) (E:aB->aD->Prop),acc.length<n->J acc s.heap->s.heap.get? S=some o->(∀v h',J (acc++[v]) h'->h'.get? S=some o->Q (some v) { s with heap:=h' })->wpAny (model prog w) A.in1 (pyNext (.ref I)) Q E s)
  (done:∀acc (s:aD) (o:Obj) (Q:Option aB->aD->Prop) (E:aB->aD->Prop),acc.length=n->J acc s.heap->s.heap.get? S=some o->(∀h',F acc h'->h'.get? S=some o->Q none { s with heap:=h' })->wpAny (model prog w) A.in1 (pyNext (.ref I)) Q E s)
  (hR:∀h' acc c,acc.size=n->F acc.toList h'->h'.get? S=some { cls:=.type "list",dict:=none,data:=.seq acc c,slots:=#[] }->R (.ok (.ret res)) { s0 with heap:=h' }) :
  ∀(k:Nat) (acc:Array aB) (h:Heap) (c:Nat),k=n-acc.size->acc.size<=n->J acc.toList h->h.get? S=some { cls:=.type "list",dict:=none,data:=.seq acc c,slots:=#[] } ->
   codeAny (model prog w) A (.builtin "list.extend.loop" ⟨[.ref S,.ref I,res],[]⟩) R { s0 with heap:=h }:=by
 intro k
 induction k with
 | zero =>
  intro acc h c hk hle hJ hS
  refine eF tD ?_
  rw[dJ gY _]
  show wpAny _ A.in1 (pyNext (.ref I) >>= _) _ _ _
  apply aA;refine done acc.toList { s0 with heap:=h } _ _ _ (by simp;omega) hJ hS λh' hF hS'=>?_
  exact aK (hR h' acc c (by omega) hF hS')
 | succ k ih =>
  intro acc h c hk hle hJ hS
  refine eF tD ?_
  rw[dJ gY _]
  show wpAny _ A.in1 (pyNext (.ref I) >>= _) _ _ _
  apply aA;refine item acc.toList { s0 with heap:=h } _ _ _ (by simp;omega) hJ hS λv h' hJ' hS'=>?_
  show wpAny _ A.in1 (updateSeq S (·.push v) >>= _) _ _ _
  have hs2:acc.size<n:=by omega
  have e1:(acc.push v).size=acc.size+1:=Array.size_push ..
  apply aA;refine gB hS' rfl ?_ (by omega) (by show (acc.push v).size<=sizeLine+1;omega)
  apply aK;refine⟨fE gY _,?_⟩
  refine ih (acc.push v) _ _ (by omega) (by omega) (stay _ _ _ (by simpa using hJ') ⟨_,hS',rfl⟩ (nA ..).1 λb o hb e=>(bO _ _ (Ne.symm hb)).trans e) (dD _ hS' rfl)
end
section
variable {prog:bA} {w:cA} {A:cE} {E:aB->aD->Prop} {s:aD} {z TI TO i1 i2 a1 a2:Addr} {vs us:List aB} {T1 T2:Nat->Heap->Prop}
end
section
variable {X:Cx} {pins:List (Addr × Obj)} {σ:St}
theorem _root_.L2.Inv.trackO {s s':aD} {H H':Hp} {a:Addr} {w:HO} (I:Inv X pins σ H s) (I':Inv X pins σ H' s') (ha:s.heap.objs.size<=a) (hn:H' a=none) (new:ObjOk X.prog X.w (upd H' a w) s'.heap a w):Inv X pins σ (upd H' a w) s':=by
 have nL:X.env.locals≠a:=aR (aV I.lt ha)
 have nC:∀x c,X.env.cells.lookup x=some c->c≠a:=λx c q z=>by
  obtain⟨v,hv⟩:=I.cell x c q
  exact absurd (aV hv.lt (by rw[z];exact ha)) (fM _)
 have n0:∀{b:Addr} {o:Obj},X.s₀.heap.get? b=some o->b≠a:=λ{b o} q=>aR (aV (aO q) (dQ I.sz ha))
 refine⟨I'.ok,I'.os,I'.bare,⟨I'.base.keep,I'.base.slot,λb o q n hx=>by rw[bM (n0 q)];exact I'.base.free b o q n hx,I'.base.there,λb ys q=>by rw[bM (cB (I'.base.tups b ys q) hn)];exact I'.base.tups b ys q,λb o u q=>by rw[bM (cB (I'.base.frzs b o u q) hn)];exact I'.base.frzs b o u q,λb ps q=>?_⟩,I'.loc,I'.cell,by rw[bM nL];exact I'.free,λx c q=>by rw[bM (nC x c q)];exact I'.freeC x c q,λp hp=>?_,λb u q=>?_,I'.len⟩
 ·obtain⟨m,q2⟩:=I'.base.tbls b ps q
  exact⟨m,by rw[bM (cB q2 hn)];exact q2⟩
 ·obtain⟨q1,q2,q3,q4,q5⟩:=I'.pin p hp
  have hp1:p.1≠a:=aR (aV (aO (I.pin p hp).1) ha)
  exact⟨q1,by rw[bM hp1];exact q2,q3,q4,q5⟩
 ·by_cases hb:b=a
  ·subst hb
   rw[cR] at q;cases q
   exact new
  ·rw[bM hb] at q
   exact (I'.hok b u q).stay (λc v _ w=>w) (λc w=>by rw[bM (cB w hn)];exact w) λc ys w=>by rw[bM (cB w hn)];exact w
end
def Aa:D->Option (List D)
 | .lst xs=>some xs
 | .tup xs=>some xs
 | _=>none
def Wc (ta tb:RE):RA:=λρ Q=>ta ρ λx=>tb ρ λy=>∃xs ys,Aa x=some xs/\Aa y=some ys/\xs.length=ys.length/\Q (xs.zipWith (λa b=>D.tup [a,b]) ys)
theorem boot_zip:bootBuiltins "zip" = some (.type "zip"):=by decide +kernel
section
variable {X:Cx} {a b:Expr} {ta tb:RE} {p pz pos posz:Pos}
end
def Itz (K:aF) (l m:Addr):It :=
 ⟨λi H=>∃xs ys x y,SqL K H l xs/\SqL K H m ys/\xs[i]? = some x/\ys[i]? = some y,λi H x H'=>∃p a b,H p=none/\x = .ref p/\H'=upd H p (.tup [a,b])/\(∀xs,SqL K H l xs->xs[i]? = some a)/\∀ys,SqL K H m ys->ys[i]? = some b,
  λi H=>∃xs ys,SqL K H l xs/\SqL K H m ys/\(xs.length<=i\/ys.length<=i)⟩
def ZSt (z TI TO i1 i2 l m:Addr) (i:Nat) (h:Heap):Prop:=IsZip h z TI TO .none/\IsPair h TI (.ref i1) (.ref i2)/\(∃a b,IsPair h TO a b)/\h.IsListIter i1 l i/\h.IsListIter i2 m i
theorem Kw {P:bA} {w:cA} {K:aF} {elts:List Expr} {k:Nat} {pos:Pos} (z TI TO i1 i2 l m:Addr) (D:ZipApart z TI TO i1 i2 l m) :
  Turn P w K (.Tuple elts k pos) (Itz K l m) [z,TI,TO,i1,i2] z (ZSt z TI TO i1 i2 l m) where
 mem:=by simp
 obj:=λi h st b hb=>by
  obtain⟨hz,hI,⟨a,c,hO⟩,⟨o1,e1,c1,d1⟩,o2,e2,c2,d2⟩:=st
  simp only[aL,eB,or_false] at hb
  rcases hb with rfl | rfl | rfl | rfl | rfl
  ·exact⟨_,hz,λv z=>by cases z⟩
  ·exact⟨_,hI,λv z=>by cases z⟩
  ·exact⟨_,hO,λv z=>by cases z⟩
  ·exact⟨o1,e1,λv z=>by rw[d1] at z;cases z⟩
  ·exact⟨o2,e2,λv z=>by rw[d2] at z;cases z⟩
 keep:=λi h h' st kk=>by
  obtain⟨hz,hI,⟨a,c,hO⟩,h1,h2⟩:=st
  exact⟨kk z (by simp) _ hz,kk TI (by simp) _ hI,⟨a,c,kk TO (by simp) _ hO⟩,h1.at λo x=>kk i1 (by simp) o x,h2.at λo x=>kk i2 (by simp) o x⟩
 item:=by
  intro X hP hw hK hc i pins s σ H E I hf st hg
  subst hP hw hK
  obtain⟨xs,ys,x,y,hq,hr,hx,hy⟩:=hg
  obtain⟨its,rv,p,hzl⟩:=I.list hq
  obtain⟨jts,rw',p',hzm⟩:=I.list hr
  obtain⟨u,hu,ru⟩:=rv.get hx
  obtain⟨u',hu',ru'⟩:=rw'.get hy
  have W:=WalksT.zip2 (prog:=X.prog) (w:=X.w) (A:=X.A) (I.ok.hd hc) z TI TO i1 i2 l m D its.toArray jts.toArray
  have hlt:i<min its.toArray.size jts.toArray.size:=by
   have a1:=(aX.mp hu).1
   have a2:=(aX.mp hu').1
   simp;omega
  obtain⟨g1,g2,g3,g4,g5⟩:=id st
  refine W.item i s _ _ hlt ⟨g1,g2,g3,g4,g5,p.isList,p'.isList⟩ λT vals h1 tk hv hT ht hm kk=>?_
  obtain⟨v1,v2,e1,e2,rfl⟩:=hv
  have q1:v1=u:=by
   have:its.toArray[i]? = some u:=by simpa using hu
   rw[e1] at this;exact dE this
  have q2:v2=u':=by
   have:jts.toArray[i]? = some u':=by simpa using hu'
   rw[e2] at this;exact dE this
  subst q1 q2
  refine⟨_,rfl,?_⟩
  have sub:∀{b:Addr},b ∉ [z,TI,TO,i1,i2]->b ∉ [z,TO,i1,i2]:=λh h'=>h (by simp at h' ⊢;rcases h' with a | a | a | a <;> simp[a])
  have I1:Inv X pins σ (upd H T (.tup [x,y])) { s with heap:=h1,toks:=tk } :=
   I.turnedT (its:=[v1,v2]) (ch:=[z,TI,TO,i1,i2]) (λb o hb e=>kk b o (sub hb) e) hf hT (by simpa using ht) (.cons ru (.cons ru' .nil)) (by show 2<=sizeLine;decide)
  have hn:H T=none:=I.hok.fresh hT
  refine W.go elts k pos i T _ _ _ hm λh2 st2 kk2=>?_
  have hf1:∀b∈[z,TI,TO,i1,i2],GG X pins (upd H T (.tup [x,y])) b:=λb hb=>by
   obtain⟨f0,f1⟩:=hf b hb
   have:∃o,s.heap.get? b=some o:=by
    obtain⟨hz,hI,⟨a,c,hO⟩,⟨o1,w1,c1,d1⟩,o2,w2,c2,d2⟩:=st
    simp only[aL,eB,or_false] at hb
    rcases hb with rfl | rfl | rfl | rfl | rfl
    ·exact⟨_,hz⟩
    ·exact⟨_,hI⟩
    ·exact⟨_,hO⟩
    ·exact⟨_,w1⟩
    ·exact⟨_,w2⟩
   obtain⟨o,ho⟩:=this
   exact⟨by rw[bM (aR (aV (aO ho) hT))];exact f0,f1⟩
  refine⟨.ref T,_,I1.turnedL (ch:=[z,TI,TO,i1,i2]) (t':=tk) (λb o hb e=>kk2 b o (sub hb) e) hf1,rfl,⟨T,x,y,hn,rfl,rfl,λys' h'=>by rw[I.list_inj h' hq];exact hx,λys' h'=>by rw[I.list_inj h' hr];exact hy⟩,⟨st2.1,st2.2.1,st2.2.2.1,st2.2.2.2.1,st2.2.2.2.2.1⟩,λb hb=>(hf1 b hb).1⟩
 done:=by
  intro X hP hw hK hc i pins s σ H E I hf st hg
  subst hP hw hK
  obtain⟨xs,ys,hq,hr,hx⟩:=hg
  obtain⟨its,rv,p,hzl⟩:=I.list hq
  obtain⟨jts,rw',p',hzm⟩:=I.list hr
  obtain⟨g1,g2,⟨a,b,g3⟩,g4,g5⟩:=st
  have l1:=rv.length
  have l2:=rw'.length
  refine wpAny_pyNext_zip_end (I.ok.hd hc) D g1 g2 g3 g4 g5 p.isList p'.isList ?_ λh1 kk=>⟨rfl,I.turnedL (ch:=[z,TI,TO,i1,i2]) (t':=s.toks) (λb o hb q=>kk b o (λe=>hb (by simp[e])) (λe=>hb (by simp[e])) (λe=>hb (by simp[e])) (λe=>hb (by simp[e])) q) hf⟩
  rcases hx with hx | hx
  ·exact .inl (by rw[xT];exact gZ (by omega))
  ·exact .inr (by rw[xT];exact gZ (by omega))
 self:=λ_ _ _ _ _ st h=>IB st.1 h
section
variable {X:Cx} {a b:Expr} {ta tb:RE} {pos p:Pos} {elts:List Expr} {k:Nat} {tp:Pos}
def Cp (ta tb:RE):RA:=λρ Q=>ta ρ λx=>tb ρ λy=>match x,y with
 | .lst xs,.lst ys=>Q (xs.zipWith (λa b=>D.tup [a,b]) ys)
 | _,_=>False
theorem Po (hm:X.mg "zip" = none) (ha:DE X a ta) (hb:DE X b tb) (hg:Gl X "zip":=by rfl) (h2:starEach [a,b] X.env=(false,eval a X.env)::starEach [b] X.env:=by rfl) (h1:starEach [b] X.env=[(false,eval b X.env)]:=by rfl) (hn:starEach [] X.env=[]:=by rfl) :
  DI X (.Tuple elts k tp) (.Call (.Name "zip" p) [a,b] [] pos) (Cp ta tb):=by
 intro pins s σ H R I hh_0
 obtain⟨ρ,P,st,q,kk⟩:=hh_0
 refine Call_ (qC I hg hm boot_zip (dZ (thn (jN ha (jN hb qF (by rw[h1,hn])) h2 pos pins s σ H (λvs H1=>∃l m xs ys us ws,vs=[V.ref l,V.ref m]/\Same H H1/\P (xs.zipWith (λa b=>D.tup [a,b]) ys)/\FzL X.K H1 l us/\Reps X.K H1 xs us/\FzL X.K H1 m ws/\Reps X.K H1 ys ws) I
  ⟨ρ,_,st,q,λx v H1 hx s1 r1=>⟨ρ,_,st.ext s1,hx,λy u H2 hy s2 r2=>?_⟩⟩) λus s1 ⟨vs,H1,I1,r1,q1⟩=>?_) h2 (by rw[h1];rfl)))
 ·cases x with
  | lst xs =>
   cases y with
   | lst ys =>
    cases r1 with
    | @lst l us _ z1 t1 =>
     cases r2 with
     | @lst m ws _ z2 t2=>exact⟨l,m,xs,ys,us,ws,rfl,s1.trans s2,hy,z1.keep (.of s2),t1.keep (.of s2),z2,t2⟩
   | _=>exact hy.elim
  | _=>exact hy.elim
 obtain⟨l,m,xs,ys,us,ws,rfl,s01,hp,z1,t1,z2,t2⟩:=q1
 obtain⟨w1,w2,rfl,rv,ru⟩:=vals2 r1
 cases rv;cases ru
 obtain⟨its,rv,pl,hzz⟩:=I1.list z1.sq
 obtain⟨jts,rv',pl',hzz'⟩:=I1.list z2.sq
 have lt1:l<s1.heap.objs.size:=by obtain⟨o,n,e,_⟩:=pl;exact aO e
 have lt2:m<s1.heap.objs.size:=by obtain⟨o,n,e,_⟩:=pl';exact aO e
 refine call_zip_2 pl.isList pl'.isList λh' hz hTI hTO hi1 hi2 hsz kk'=>?_
 have I2:Inv X pins σ H1 { s1 with heap:=h' }:=I1.kept (t':=s1.toks) kk'
 refine IB hz ⟨s1.heap.objs.size+4,[s1.heap.objs.size+4,s1.heap.objs.size+2,s1.heap.objs.size+3,s1.heap.objs.size,s1.heap.objs.size+1],_,_,H1,rfl,I2,Kw (s1.heap.objs.size+4) (s1.heap.objs.size+2) (s1.heap.objs.size+3) s1.heap.objs.size (s1.heap.objs.size+1) l m (zipApart_new lt1 lt2),⟨hz,hTI,⟨_,_,hTO⟩,hi1,hi2⟩,λb hb=>?_,?_⟩
 ·have:s1.heap.objs.size<=b:=by
   simp only[aL,eB,or_false] at hb
   rcases hb with rfl | rfl | rfl | rfl | rfl <;> simp
  exact I1.fpOk this (I1.hok.fresh this)
 ·refine kk _ _ H1 hp s01 λi H2 kp=>⟨λd ed=>?_,λhl=>⟨us,ws,(z1.keep kp).sq,(z2.keep kp).sq,by rw[<-t1.length,<-t2.length];simp at hl;omega⟩⟩
  rw[List.getElem?_zipWith] at ed
  cases e1:xs[i]? with
  | none=>rw[e1] at ed;cases ed
  | some d1 =>
   cases e2:ys[i]? with
   | none=>rw[e1,e2] at ed;cases ed
   | some d2 =>
    rw[e1,e2] at ed
    cases ed
    obtain⟨v,f1,f2⟩:=(t1.keep kp).get e1
    obtain⟨u,f3,f4⟩:=(t2.keep kp).get e2
    refine⟨⟨us,ws,v,u,(z1.keep kp).sq,(z2.keep kp).sq,f1,f3⟩,λx H' y=>?_⟩
    obtain⟨pp,y1,y2,hn,rfl,rfl,ha',hb'⟩:=y
    have e3:=ha' us (z1.keep kp).sq
    have e4:=hb' ws (z2.keep kp).sq
    rw[f1] at e3;rw[f3] at e4;cases e3;cases e4
    have sm:Same H2 (upd H2 pp (.tup [v,u])):=Same.fn λb o e=>by rw[bM (cB e hn)];exact e
    exact⟨sm,.tup cR (.cons (f2.keep (.of sm)) (.cons (f4.keep (.of sm)) .nil))⟩
end
section
variable {prog:bA} {w:cA} {A:cE} {E:aB->aD->Prop} {s:aD}
theorem Et {I l S:Addr} {items:Array aB} {bt:Nat->Nat->Bool} {G:Heap->Prop} {R:Result->aD->Prop} {os0:aD} (hh:A.handled=none) (hl:l≠I) (hSI:S≠I) (hSl:S≠l)
  (cmp:∀(i j:Nat) (u v:aB) (s:aD) (Q:aB->aD->Prop) (E:aB->aD->Prop),items[i]? = some u->items[j]? = some v->G s.heap->Q (.bool (bt i j)) s->wpAny (model prog w) A.in1 (richCompare .Lt u v) Q E s)
  (gs:∀h h',G h->(∀b o,b≠I->b≠S->h.get? b=some o->h'.get? b=some o)->G h') :
  ∀(k j:Nat) (s:aD) (vb:aB) (c:Nat),items.size-(j+1)=k->j+1<=items.size->s.heap.IsListIter I l (j+1)->s.heap.IsList l items->items[argBest bt j]? = some vb->G s.heap ->
   s.heap.get? S=some { cls:=.type "list",dict:=none,data:=.seq #[vb,vb] c,slots:=#[] } ->
   (∀v h' tk,items[argBest bt (items.size-1)]? = some v->(∀b o,b≠I->b≠S->s.heap.get? b=some o->h'.get? b=some o)->R (.ok (.ret v)) { s with heap:=h',toks:=tk }) ->
   codeAny (model prog w) A (.builtin "min.loop" ⟨[.ref I,.none,.ref S],[]⟩) R s:=by
 have nm:(toString "min" ++ toString ".loop":String) = "min.loop":=by decide
 have W:=KN (prog:=prog) (w:=w) (A:=A.in1) hh I l hl items
 have wr:∀{b:Addr},b≠I->b ∉ [I]:=λh=>by simpa using h
 intro k
 induction k with
 | zero =>
  intro j s vb c hk hj hi hL hb hG hS q
  refine eF F.entry_min_loop ?_;rw[dJ F.plain_min_loop _]
  show wpAny _ A.in1 (seqItems? (.ref S) >>= _) _ _ s
  apply aA;apply iH hS rfl
  show wpAny _ A.in1 (tryCatch (pyNext (.ref I)) _ >>= _) _ _ s
  apply aA;apply jK;refine W.done s _ _ (by rw[show items.size=j+1 by omega];exact⟨hi,hL⟩) λh' tk kp=>?_
  have hS':=kp S _ (wr hSI) hS
  show wpAny _ A.in1 (updateSeq S (λ_=>#[]) >>= _) _ _ _
  apply aA;refine gB hS' rfl ?_;apply aA;apply kO;apply aK
  exact q vb _ tk (by rw[show items.size-1=j by omega];exact hb) λb o b1 b2 e=>(bO _ _ (Ne.symm b2)).trans (kp b o (wr b1) e)
 | succ k ih =>
  intro j s vb c hk hj hi hL hb hG hS q
  refine eF F.entry_min_loop ?_;rw[dJ F.plain_min_loop _]
  show wpAny _ A.in1 (seqItems? (.ref S) >>= _) _ _ s
  apply aA;apply iH hS rfl
  show wpAny _ A.in1 (tryCatch (pyNext (.ref I)) _ >>= _) _ _ s
  apply aA;apply jK;refine W.item (j+1) s _ _ (by omega) ⟨hi,hL⟩ λv h' tk hv st' kp=>?_
  have hS':=kp S _ (wr hSI) hS
  have hG':G h':=gs _ _ hG λb o b1 _ e=>kp b o (wr b1) e
  show wpAny _ A.in1 (tryCatch (holding [v,v] (richCompare .Lt v vb >>= _)) _ >>= _) _ _ _
  apply aA;apply jK;apply dC;apply aA;refine cmp (j+1) (argBest bt j) v vb _ _ _ hv hb hG' ?_
  apply aA;apply dC;apply iP;apply aA;apply kO;apply aK
  cases hbt:bt (j+1) (argBest bt j) with
  | true =>
   simp only[if_true]
   apply aA;refine gB hS' rfl ?_;apply aA;apply kO;rw[nm];apply aK
   have up:∀b o,b≠S->h'.get? b=some o->(h'.update S (cW λ_=>#[v,v])).get? b=some o:=λb o b2 e=>(bO _ _ (Ne.symm b2)).trans e
   refine⟨fE F.plain_min_loop _,ih (j+1) _ v _ (by omega) (by omega) (st'.1.at λo e=>up _ o hSI.symm e) (st'.2.at λo e=>up _ o hSl.symm e) (by simp only[argBest,hbt,if_true];exact hv) (gs _ _ hG' λb o _ b2 e=>up b o b2 e) (dD _ hS' rfl) λv' h'' tk'' e kk=>?_⟩
   exact q v' h'' tk'' e λb o b1 b2 e=>kk b o b1 b2 (up b o b2 (kp b o (wr b1) e))
  | false =>
   simp only[aP,if_false]
   apply aA;apply kO;rw[nm];apply aK
   refine⟨fE F.plain_min_loop _,ih (j+1) _ vb c (by omega) (by omega) st'.1 st'.2 (by simp only[argBest,hbt,aP,if_false];exact hb) hG' hS' λv' h'' tk'' e kk=>?_⟩
   exact q v' h'' tk'' e λb o b1 b2 e=>kk b o b1 b2 (kp b o (wr b1) e)
theorem Dh {l:Addr} {items:Array aB} {bt:Nat->Nat->Bool} {G:Heap->Prop} {Q:aB->aD->Prop} (hh:A.handled=none) (hL:s.heap.IsList l items) (hne:0<items.size)
  (cmp:∀(i j:Nat) (u v:aB) (s:aD) (Q:aB->aD->Prop) (E:aB->aD->Prop),items[i]? = some u->items[j]? = some v->G s.heap->Q (.bool (bt i j)) s->wpAny (model prog w) A.in1 (richCompare .Lt u v) Q E s)
  (gs:∀h',(∀b o,s.heap.get? b=some o->h'.get? b=some o)->G h') (q:∀v h' tk,items[argBest bt (items.size-1)]? = some v->(∀b o,s.heap.get? b=some o->h'.get? b=some o)->Q v { s with heap:=h',toks:=tk }) :
  wpAny (model prog w) A (call (.builtin "min") [.ref l]) Q E s:=by
 have nm:(toString "min" ++ toString ".loop":String) = "min.loop":=by decide
 have lt:l<s.heap.objs.size:=by obtain⟨_,e,_⟩:=hL;exact aO e
 refine DH F.kind_min F.plain_min F.entry_min (F.args_min1 _) ?_
 show wpAny _ A.in1 (iW "min" ["key","default"] 0 ⟨[],[]⟩ >>= _) _ _ s
 apply aA;refine oJ (show iW "min" ["key","default"] 0 ⟨[],[]⟩=pure [none,none] from rfl) ?_
 apply aA;apply aK;apply aA;refine pK hL ?_
 apply aA;refine eQ ?_;rw[nm];apply aK
 have sz1:(s.heap.push (Bo "list_iterator" l)).objs.size=s.heap.objs.size+1:=kF ..
 generalize hp:s.heap.push (Bo "list_iterator" l)=h1 at sz1
 have hI:h1.IsListIter s.heap.objs.size l 0:=by rw[<-hp];exact⟨_,bX _ rfl,rfl,rfl⟩
 have k1:∀b o,s.heap.get? b=some o->h1.get? b=some o:=λb o e=>by rw[<-hp];exact aJ _ e
 refine⟨fE F.plain_min_loop _,?_⟩
 show codeAny _ A (.builtin "min.loop" ⟨[.ref s.heap.objs.size,.none,.ref h1.objs.size],[]⟩) _ { s with heap:=h1.push { cls:=.type "list",dict:=none,data:=.seq ([]:List aB).toArray } }
 rw[sz1]
 have hS:(h1.push { cls:=.type "list",dict:=none,data:=.seq ([]:List aB).toArray }).get? (s.heap.objs.size+1)=some { cls:=.type "list",dict:=none,data:=.seq #[] 0,slots:=#[] }:=by rw[<-sz1];exact bX _ rfl
 have k2:∀b o,h1.get? b=some o->(h1.push { cls:=.type "list",dict:=none,data:=.seq ([]:List aB).toArray }).get? b=some o:=λb o e=>aJ _ e
 generalize h1.push { cls:=.type "list",dict:=none,data:=.seq ([]:List aB).toArray } = h2 at hS k2
 have neI:∀{b:Addr} {o:Obj},s.heap.get? b=some o->b≠s.heap.objs.size/\b≠s.heap.objs.size+1:=λe=>⟨aR (aO e),aR (fA (aO e))⟩
 have W:=KN (prog:=prog) (w:=w) (A:=A.in1) hh s.heap.objs.size l (aR lt) items
 refine eF F.entry_min_loop ?_;rw[dJ F.plain_min_loop _]
 show wpAny _ A.in1 (seqItems? (.ref (s.heap.objs.size+1)) >>= _) _ _ _
 apply aA;apply iH hS rfl
 show wpAny _ A.in1 (tryCatch (pyNext (.ref s.heap.objs.size)) _ >>= _) _ _ _
 have hL2:h2.IsList l items:=hL.at λo e=>k2 _ o (k1 _ o e)
 apply aA;apply jK;refine W.item 0 _ _ _ hne ⟨hI.at λo e=>k2 _ o e,hL2⟩ λv h' tk hv st' kp=>?_
 have wr:∀{b:Addr},b≠s.heap.objs.size->b ∉ [s.heap.objs.size]:=λh=>by simpa using h
 have hS':=kp (s.heap.objs.size+1) _ (wr (mR _)) hS
 show wpAny _ A.in1 (updateSeq (s.heap.objs.size+1) (λ_=>#[v,v]) >>= _) _ _ _
 apply aA;refine gB hS' rfl ?_;rw[nm];apply aK
 have up:∀b o,b≠s.heap.objs.size+1->h'.get? b=some o->(h'.update (s.heap.objs.size+1) (cW λ_=>#[v,v])).get? b=some o:=λb o b2 e=>(bO _ _ (Ne.symm b2)).trans e
 have old:∀b o,s.heap.get? b=some o->(h'.update (s.heap.objs.size+1) (cW λ_=>#[v,v])).get? b=some o:=λb o e=>up b o (neI e).2 (kp b o (wr (neI e).1) (k2 b o (k1 b o e)))
 have hS'':=dD (cW λ_=>#[v,v]) hS' rfl
 refine⟨fE F.plain_min_loop _,?_⟩
 refine Et (A:=A) (G:=λh=>∀b o,s.heap.get? b=some o->h.get? b=some o) (bt:=bt) (items:=items) (I:=s.heap.objs.size) (l:=l) (S:=s.heap.objs.size+1) (os0:=s) hh (aR lt) (mR _) (jB (fA lt)) (λi j u v s' Q' E' e1 e2 g c=>cmp i j u v s' Q' E' e1 e2 (gs _ g) c)
  (λh3 h4 g kk b o e=>kk b o (neI e).1 (neI e).2 (g b o e)) (items.size-1) 0 _ v _ (by omega) (by omega) (st'.1.at λo e=>up _ o (aR (mP _)) e) (st'.2.at λo e=>up _ o (aR (fA lt)) e) (by simpa [argBest] using hv) old hS'' λv' h'' tk'' e kk=>?_
 exact q v' h'' tk'' e λb o e=>kk b o (neI e).1 (neI e).2 (old b o e)
theorem ZE {I l S:Addr} {items:Array aB} {bt:Nat->Nat->Bool} {G:Heap->Prop} {R:Result->aD->Prop} {os0:aD} (hh:A.handled=none) (hl:l≠I) (hSI:S≠I) (hSl:S≠l)
  (cmp:∀(i j:Nat) (u v:aB) (s:aD) (Q:aB->aD->Prop) (E:aB->aD->Prop),items[i]? = some u->items[j]? = some v->G s.heap->Q (.bool (bt i j)) s->wpAny (model prog w) A.in1 (richCompare .Lt u v) Q E s)
  (gs:∀h h',G h->(∀b o,b≠I->b≠S->h.get? b=some o->h'.get? b=some o)->G h') :
  ∀(k j:Nat) (s:aD) (vb:aB) (c:Nat),items.size-(j+1)=k->j+1<=items.size->s.heap.IsTupleIter I l (j+1)->s.heap.IsTuple l items->items[argBest bt j]? = some vb->G s.heap ->
   s.heap.get? S=some { cls:=.type "list",dict:=none,data:=.seq #[vb,vb] c,slots:=#[] } ->
   (∀v h' tk,items[argBest bt (items.size-1)]? = some v->(∀b o,b≠I->b≠S->s.heap.get? b=some o->h'.get? b=some o)->R (.ok (.ret v)) { s with heap:=h',toks:=tk }) ->
   codeAny (model prog w) A (.builtin "min.loop" ⟨[.ref I,.none,.ref S],[]⟩) R s:=by
 have nm:(toString "min" ++ toString ".loop":String) = "min.loop":=by decide
 have W:=Walks.tuple (prog:=prog) (w:=w) (A:=A.in1) hh I l hl items
 have wr:∀{b:Addr},b≠I->b ∉ [I]:=λh=>by simpa using h
 intro k
 induction k with
 | zero =>
  intro j s vb c hk hj hi hL hb hG hS q
  refine eF F.entry_min_loop ?_;rw[dJ F.plain_min_loop _]
  show wpAny _ A.in1 (seqItems? (.ref S) >>= _) _ _ s
  apply aA;apply iH hS rfl
  show wpAny _ A.in1 (tryCatch (pyNext (.ref I)) _ >>= _) _ _ s
  apply aA;apply jK;refine W.done s _ _ (by rw[show items.size=j+1 by omega];exact⟨hi,hL⟩) λh' tk kp=>?_
  have hS':=kp S _ (wr hSI) hS
  show wpAny _ A.in1 (updateSeq S (λ_=>#[]) >>= _) _ _ _
  apply aA;refine gB hS' rfl ?_;apply aA;apply kO;apply aK
  exact q vb _ tk (by rw[show items.size-1=j by omega];exact hb) λb o b1 b2 e=>(bO _ _ (Ne.symm b2)).trans (kp b o (wr b1) e)
 | succ k ih =>
  intro j s vb c hk hj hi hL hb hG hS q
  refine eF F.entry_min_loop ?_;rw[dJ F.plain_min_loop _]
  show wpAny _ A.in1 (seqItems? (.ref S) >>= _) _ _ s
  apply aA;apply iH hS rfl
  show wpAny _ A.in1 (tryCatch (pyNext (.ref I)) _ >>= _) _ _ s
  apply aA;apply jK;refine W.item (j+1) s _ _ (by omega) ⟨hi,hL⟩ λv h' tk hv st' kp=>?_
  have hS':=kp S _ (wr hSI) hS
  have hG':G h':=gs _ _ hG λb o b1 _ e=>kp b o (wr b1) e
  show wpAny _ A.in1 (tryCatch (holding [v,v] (richCompare .Lt v vb >>= _)) _ >>= _) _ _ _
  apply aA;apply jK;apply dC;apply aA;refine cmp (j+1) (argBest bt j) v vb _ _ _ hv hb hG' ?_
  apply aA;apply dC;apply iP;apply aA;apply kO;apply aK
  cases hbt:bt (j+1) (argBest bt j) with
  | true =>
   simp only[if_true]
   apply aA;refine gB hS' rfl ?_;apply aA;apply kO;rw[nm];apply aK
   have up:∀b o,b≠S->h'.get? b=some o->(h'.update S (cW λ_=>#[v,v])).get? b=some o:=λb o b2 e=>(bO _ _ (Ne.symm b2)).trans e
   refine⟨fE F.plain_min_loop _,ih (j+1) _ v _ (by omega) (by omega) (st'.1.at λo e=>up _ o hSI.symm e) (st'.2.at λo e=>up _ o hSl.symm e) (by simp only[argBest,hbt,if_true];exact hv) (gs _ _ hG' λb o _ b2 e=>up b o b2 e) (dD _ hS' rfl) λv' h'' tk'' e kk=>?_⟩
   exact q v' h'' tk'' e λb o b1 b2 e=>kk b o b1 b2 (up b o b2 (kp b o (wr b1) e))
  | false =>
   simp only[aP,if_false]
   apply aA;apply kO;rw[nm];apply aK
   refine⟨fE F.plain_min_loop _,ih (j+1) _ vb c (by omega) (by omega) st'.1 st'.2 (by simp only[argBest,hbt,aP,if_false];exact hb) hG' hS' λv' h'' tk'' e kk=>?_⟩
   exact q v' h'' tk'' e λb o b1 b2 e=>kk b o b1 b2 (kp b o (wr b1) e)
theorem YF {l:Addr} {items:Array aB} {bt:Nat->Nat->Bool} {G:Heap->Prop} {Q:aB->aD->Prop} (hh:A.handled=none) (hL:s.heap.IsTuple l items) (hne:0<items.size)
  (cmp:∀(i j:Nat) (u v:aB) (s:aD) (Q:aB->aD->Prop) (E:aB->aD->Prop),items[i]? = some u->items[j]? = some v->G s.heap->Q (.bool (bt i j)) s->wpAny (model prog w) A.in1 (richCompare .Lt u v) Q E s)
  (gs:∀h',(∀b o,s.heap.get? b=some o->h'.get? b=some o)->G h') (q:∀v h' tk,items[argBest bt (items.size-1)]? = some v->(∀b o,s.heap.get? b=some o->h'.get? b=some o)->Q v { s with heap:=h',toks:=tk }) :
  wpAny (model prog w) A (call (.builtin "min") [.ref l]) Q E s:=by
 have nm:(toString "min" ++ toString ".loop":String) = "min.loop":=by decide
 have lt:l<s.heap.objs.size:=by obtain⟨_,e,_⟩:=hL;exact aO e
 refine DH F.kind_min F.plain_min F.entry_min (F.args_min1 _) ?_
 show wpAny _ A.in1 (iW "min" ["key","default"] 0 ⟨[],[]⟩ >>= _) _ _ s
 apply aA;refine oJ (show iW "min" ["key","default"] 0 ⟨[],[]⟩=pure [none,none] from rfl) ?_
 apply aA;apply aK;apply aA;refine DX hL ?_
 apply aA;refine eQ ?_;rw[nm];apply aK
 have sz1:(s.heap.push (Bo "tuple_iterator" l)).objs.size=s.heap.objs.size+1:=kF ..
 generalize hp:s.heap.push (Bo "tuple_iterator" l)=h1 at sz1
 have hI:h1.IsTupleIter s.heap.objs.size l 0:=by rw[<-hp];exact⟨_,bX _ rfl,rfl,rfl⟩
 have k1:∀b o,s.heap.get? b=some o->h1.get? b=some o:=λb o e=>by rw[<-hp];exact aJ _ e
 refine⟨fE F.plain_min_loop _,?_⟩
 show codeAny _ A (.builtin "min.loop" ⟨[.ref s.heap.objs.size,.none,.ref h1.objs.size],[]⟩) _ { s with heap:=h1.push { cls:=.type "list",dict:=none,data:=.seq ([]:List aB).toArray } }
 rw[sz1]
 have hS:(h1.push { cls:=.type "list",dict:=none,data:=.seq ([]:List aB).toArray }).get? (s.heap.objs.size+1)=some { cls:=.type "list",dict:=none,data:=.seq #[] 0,slots:=#[] }:=by rw[<-sz1];exact bX _ rfl
 have k2:∀b o,h1.get? b=some o->(h1.push { cls:=.type "list",dict:=none,data:=.seq ([]:List aB).toArray }).get? b=some o:=λb o e=>aJ _ e
 generalize h1.push { cls:=.type "list",dict:=none,data:=.seq ([]:List aB).toArray } = h2 at hS k2
 have neI:∀{b:Addr} {o:Obj},s.heap.get? b=some o->b≠s.heap.objs.size/\b≠s.heap.objs.size+1:=λe=>⟨aR (aO e),aR (fA (aO e))⟩
 have W:=Walks.tuple (prog:=prog) (w:=w) (A:=A.in1) hh s.heap.objs.size l (aR lt) items
 refine eF F.entry_min_loop ?_;rw[dJ F.plain_min_loop _]
 show wpAny _ A.in1 (seqItems? (.ref (s.heap.objs.size+1)) >>= _) _ _ _
 apply aA;apply iH hS rfl
 show wpAny _ A.in1 (tryCatch (pyNext (.ref s.heap.objs.size)) _ >>= _) _ _ _
 have hL2:h2.IsTuple l items:=hL.at λo e=>k2 _ o (k1 _ o e)
 apply aA;apply jK;refine W.item 0 _ _ _ hne ⟨hI.at λo e=>k2 _ o e,hL2⟩ λv h' tk hv st' kp=>?_
 have wr:∀{b:Addr},b≠s.heap.objs.size->b ∉ [s.heap.objs.size]:=λh=>by simpa using h
 have hS':=kp (s.heap.objs.size+1) _ (wr (mR _)) hS
 show wpAny _ A.in1 (updateSeq (s.heap.objs.size+1) (λ_=>#[v,v]) >>= _) _ _ _
 apply aA;refine gB hS' rfl ?_;rw[nm];apply aK
 have up:∀b o,b≠s.heap.objs.size+1->h'.get? b=some o->(h'.update (s.heap.objs.size+1) (cW λ_=>#[v,v])).get? b=some o:=λb o b2 e=>(bO _ _ (Ne.symm b2)).trans e
 have old:∀b o,s.heap.get? b=some o->(h'.update (s.heap.objs.size+1) (cW λ_=>#[v,v])).get? b=some o:=λb o e=>up b o (neI e).2 (kp b o (wr (neI e).1) (k2 b o (k1 b o e)))
 have hS'':=dD (cW λ_=>#[v,v]) hS' rfl
 refine⟨fE F.plain_min_loop _,?_⟩
 refine ZE (A:=A) (G:=λh=>∀b o,s.heap.get? b=some o->h.get? b=some o) (bt:=bt) (items:=items) (I:=s.heap.objs.size) (l:=l) (S:=s.heap.objs.size+1) (os0:=s) hh (aR lt) (mR _) (jB (fA lt)) (λi j u v s' Q' E' e1 e2 g c=>cmp i j u v s' Q' E' e1 e2 (gs _ g) c)
  (λh3 h4 g kk b o e=>kk b o (neI e).1 (neI e).2 (g b o e)) (items.size-1) 0 _ v _ (by omega) (by omega) (st'.1.at λo e=>up _ o (aR (mP _)) e) (st'.2.at λo e=>up _ o (aR (fA lt)) e) (by simpa [argBest] using hv) old hS'' λv' h'' tk'' e kk=>?_
 exact q v' h'' tk'' e λb o e=>kk b o (neI e).1 (neI e).2 (old b o e)
end
abbrev lV (ns:List Int):D:=.tup (ns.map .int)
theorem zJ:∀{a b c:List Int},HT.lexLt a b=true->HT.lexLt b c=true->HT.lexLt a c=true
 | [],[],_,h,_=>by cases h
 | [],_::_,[],_,h=>by cases h
 | [],_::_,_::_,_,_=>rfl
 | _::_,[],_,h,_=>by cases h
 | _::_,_::_,[],_,h=>by cases h
 | x::xs,y::ys,z::zs,h1,h2=>by
  rw[HT.lexLt_cons] at *
  by_cases e1:x=y
  ·subst e1
   rw[if_pos rfl] at h1
   by_cases e2:x=z
   ·rw[if_pos e2] at h2 ⊢;exact zJ h1 h2
   ·rw[if_neg e2] at h2 ⊢;exact h2
  ·rw[if_neg e1] at h1
   by_cases e2:y=z
   ·subst e2;rw[if_neg e1];exact h1
   ·rw[if_neg e2] at h2
    simp only[decide_eq_true_eq] at h1 h2
    rw[if_neg (by omega)];simp only[decide_eq_true_eq];omega
theorem HF:∀(a:List Int),HT.lexLt a a=false
 | []=>rfl
 | x::xs=>by rw[HT.lexLt_cons,if_pos rfl];exact HF xs
theorem yY {bt:Nat->Nat->Bool} (tr:∀i j k,bt i j=true->bt j k=true->bt i k=true) (ir:∀i,bt i i=false):∀k,argBest bt k<=k/\∀j,j<=k->bt j (argBest bt k)=false
 | 0=>⟨aZ _,λj hj=>by rw[Nat.le_zero.mp hj];exact ir 0⟩
 | k+1=>by
  obtain⟨h1,h2⟩:=yY tr ir k
  cases hb:bt (k+1) (argBest bt k) with
  | true =>
   simp only[argBest,hb,if_true]
   refine⟨aZ _,λj hj=>?_⟩
   by_cases e:j=k+1
   ·subst e;exact ir _
   ·cases hc:bt j (k+1) with
    | false=>rfl
    | true =>
     have:=tr j (k+1) _ hc hb
     rw[h2 j (by omega)] at this;cases this
  | false =>
   simp only[argBest,hb,aP,if_false]
   refine⟨by omega,λj hj=>?_⟩
   by_cases e:j=k+1
   ·subst e;exact hb
   ·exact h2 j (by omega)
theorem Reps.tupI_inv {K:aF} {H:Hp} {ns:List Int} {v:V} (r:Rep K H (lV ns) v):∃a,v = .ref a/\H a=some (.tup (ns.map V.int)):=by
 cases r with
 | tup h rr=>rw[rr.ints_inv] at h;exact⟨_,rfl,h⟩
section
variable {X:Cx} {e a b:Expr} {te ta tb:RE} {p pos:Pos}
def dLtT:R22:=λx y Q=>∃ns ms:List Int,x=lV ns/\y=lV ms/\Q (.bl (HT.lexLt ns ms))
def Ha:D->(D->Prop)->Prop:=λd Q=>match d with
 | .lst ds=>∃nss:List (List Int),ds=nss.map lV/\nss≠[]/\∀M,M∈nss->(∀x∈nss,HT.lexLt x M=false)->Q (lV M)
 | .tup ds=>∃nss:List (List Int),ds=nss.map lV/\nss≠[]/\∀M,M∈nss->(∀x∈nss,HT.lexLt x M=false)->Q (lV M)
 | _=>False
theorem Lq {k:Nat} (hr:Room k X.A) (hm:X.mg "min" = none) (hc:X.calm=true) (h:DB X e te) (hg:Gl X "min":=by rfl) (hs:starEach [e] X.env=[(false,eval e X.env)]:=by rfl) (hn:starEach [] X.env=[]:=by rfl) :
  DE X (.Call (.Name "min" p) [e] [] pos) (r1 Ha te):=by
 have call:wX X (.builtin "min") (λxs H Q=>∃(d:D) (v:V) (P:D->Prop),xs=[v]/\RepB X.K H d v/\Ha d P/\∀z w,P z->Rep X.K H z w->Q w H):=by
  intro pins s σ H xs us Q I rs hq
  obtain⟨d,v,P,rfl,rb,hd,kk⟩:=hq
  cases d with
  | lst ds =>
   obtain⟨nss,rfl,hne,hd⟩:=hd
   obtain⟨l,vs,rfl,hq,rr⟩:=rb.lst
   obtain⟨u,rfl,rx⟩:=vals1 rs
   cases rx
   obtain⟨its,rv,pl,hz⟩:=I.list hq
   have l1:=rr.length
   have l2:=rv.length
   have hpos:0<nss.length:=nD.mpr hne
   rw[aS] at l1
   have each:∀(i:Nat) (u:aB),its[i]? = some u->∃ns a ts,nss[i]? = some ns/\vs[i]? = some (.ref a)/\u = .ref a/\Vals (ns.map V.int) ts/\IsTup s.heap a ts.toArray:=λi u e=>by
    have hi:i<nss.length:=by have:=(aX.mp e).1;omega
    obtain⟨v,e1,e2⟩:=rr.get (i:=i) (d:=lV nss[i]) (by rw[aT,aC hi];rfl)
    obtain⟨a,rfl,ha⟩:=Reps.tupI_inv e2
    obtain⟨u',f1,f2⟩:=rv.get e1
    rw[e] at f1;cases f1
    cases f2
    obtain⟨ts,g1,g2,_⟩:=I.tuple (SqT.of (K:=X.K) ha)
    exact⟨_,a,ts,aC hi,e1,rfl,g1,g2⟩
   refine Dh (bt:=λi j=>HT.lexLt (nss.getD i []) (nss.getD j [])) (G:=λh=>∀b o,s.heap.get? b=some o->h.get? b=some o) (I.ok.hd hc) pl.isList (by simp;omega) (λi j u v s' Q' E' e1 e2 g c=>?_) (λh' g=>g) λv h' tk ev kp=>?_
   ·obtain⟨ns,a,ts,n1,_,rfl,g1,g2⟩:=each i u (by simpa using e1)
    obtain⟨ms,b,us,n2,_,rfl,g3,g4⟩:=each j v (by simpa using e2)
    have q1:nss.getD i []=ns:=by rw[bR,n1];rfl
    have q2:nss.getD j []=ms:=by rw[bR,n2];rfl
    rw[q1,q2] at c
    have hu:=hr.un
    have tupAt:∀{a:Addr} {xs:Array aB},IsTup s.heap a xs->IsTup s'.heap a xs:=λ⟨o,e,r⟩=>⟨o,g _ o e,r⟩
    refine HT.lt_tupInts (A:=X.A.in1) (tupAt g2) (tupAt g4) (intsAre_of g1) (intsAre_of g3) (by show X.A.units+1<cLine;omega) c
   ·obtain⟨b1,b2⟩:=yY (bt:=λi j=>HT.lexLt (nss.getD i []) (nss.getD j [])) (λ_ _ _=>zJ) (λ_=>HF _) (its.toArray.size-1)
    generalize argBest (λi j=>HT.lexLt (nss.getD i []) (nss.getD j [])) (its.toArray.size-1)=m at b1 b2 ev
    obtain⟨ns,a,ts,n1,n2,rfl,g1,g2⟩:=each m v (by simpa using ev)
    have hm:m<nss.length:=(aX.mp n1).1
    refine⟨.ref a,H,I.kept kp,rfl,kk _ _ (hd ns (bF n1) λx hx=>?_) ?_⟩
    ·obtain⟨j,hj,rfl⟩:=eK hx
     have:=b2 j (by simp;omega)
     have q1:nss.getD j []=nss[j]:=by rw[bR,aC hj];rfl
     have q2:nss.getD m []=ns:=by rw[bR,n1];rfl
     rw[q1,q2] at this;exact this
    ·obtain⟨w,f1,f2⟩:=rr.get (i:=m) (d:=lV ns) (by rw[aT,n1];rfl)
     rw[n2] at f1;cases f1;exact f2
  | tup ds =>
   obtain⟨nss,rfl,hne,hd⟩:=hd
   obtain⟨l,vs,rfl,hq,rr⟩:=rb.tup
   obtain⟨u,rfl,rx⟩:=vals1 rs
   cases rx
   obtain⟨its,rv,pl,hz⟩:=I.tuple (SqT.of (K:=X.K) hq)
   have l1:=rr.length
   have l2:=rv.length
   have hpos:0<nss.length:=nD.mpr hne
   rw[aS] at l1
   have each:∀(i:Nat) (u:aB),its[i]? = some u->∃ns a ts,nss[i]? = some ns/\vs[i]? = some (.ref a)/\u = .ref a/\Vals (ns.map V.int) ts/\IsTup s.heap a ts.toArray:=λi u e=>by
    have hi:i<nss.length:=by have:=(aX.mp e).1;omega
    obtain⟨v,e1,e2⟩:=rr.get (i:=i) (d:=lV nss[i]) (by rw[aT,aC hi];rfl)
    obtain⟨a,rfl,ha⟩:=Reps.tupI_inv e2
    obtain⟨u',f1,f2⟩:=rv.get e1
    rw[e] at f1;cases f1
    cases f2
    obtain⟨ts,g1,g2,_⟩:=I.tuple (SqT.of (K:=X.K) ha)
    exact⟨_,a,ts,aC hi,e1,rfl,g1,g2⟩
   refine YF (bt:=λi j=>HT.lexLt (nss.getD i []) (nss.getD j [])) (G:=λh=>∀b o,s.heap.get? b=some o->h.get? b=some o) (I.ok.hd hc) pl (by simp;omega) (λi j u v s' Q' E' e1 e2 g c=>?_) (λh' g=>g) λv h' tk ev kp=>?_
   ·obtain⟨ns,a,ts,n1,_,rfl,g1,g2⟩:=each i u (by simpa using e1)
    obtain⟨ms,b,us,n2,_,rfl,g3,g4⟩:=each j v (by simpa using e2)
    have q1:nss.getD i []=ns:=by rw[bR,n1];rfl
    have q2:nss.getD j []=ms:=by rw[bR,n2];rfl
    rw[q1,q2] at c
    have hu:=hr.un
    have tupAt:∀{a:Addr} {xs:Array aB},IsTup s.heap a xs->IsTup s'.heap a xs:=λ⟨o,e,r⟩=>⟨o,g _ o e,r⟩
    refine HT.lt_tupInts (A:=X.A.in1) (tupAt g2) (tupAt g4) (intsAre_of g1) (intsAre_of g3) (by show X.A.units+1<cLine;omega) c
   ·obtain⟨b1,b2⟩:=yY (bt:=λi j=>HT.lexLt (nss.getD i []) (nss.getD j [])) (λ_ _ _=>zJ) (λ_=>HF _) (its.toArray.size-1)
    generalize argBest (λi j=>HT.lexLt (nss.getD i []) (nss.getD j [])) (its.toArray.size-1)=m at b1 b2 ev
    obtain⟨ns,a,ts,n1,n2,rfl,g1,g2⟩:=each m v (by simpa using ev)
    have hm:m<nss.length:=(aX.mp n1).1
    refine⟨.ref a,H,I.kept kp,rfl,kk _ _ (hd ns (bF n1) λx hx=>?_) ?_⟩
    ·obtain⟨j,hj,rfl⟩:=eK hx
     have:=b2 j (by simp;omega)
     have q1:nss.getD j []=nss[j]:=by rw[bR,aC hj];rfl
     have q2:nss.getD m []=ns:=by rw[bR,n1];rfl
     rw[q1,q2] at this;exact this
    ·obtain⟨w,f1,f2⟩:=rr.get (i:=m) (d:=lV ns) (by rw[aT,n1];rfl)
     rw[n2] at f1;cases f1;exact f2
  | _=>exact hd.elim
 refine PE.mono (vI call hg hm boot_min (nE h hs hn) (by decide) (by decide) (by rw[hs,hn]) (by rw[hn];rfl)) λσ H Q hh=>gW hh λρ P st q k=>⟨ρ,_,st,q,λd v H1 hd s1 r=>⟨d,v,P,rfl,r,hd,λz w hz rz=>k z w H1 hz s1 rz⟩⟩
def dNe:R22:=λx y Q=>match x,y with
 | .int i,.int j=>Q (.bl !(decide (i=j)))
 | .bl i,.bl j=>Q (.bl !(decide (i=j)))
 | .tup xs,.tup ys=>match eqL (eqF 5) xs ys with
  | some b=>Q (.bl !b)
  | none=>False
 | .non,.non=>Q (.bl false)
 | _,_=>False
theorem Pa {k:Nat} (hr:Room k X.A):OpD X (compareOp .NotEq) dNe:=by
 intro pins s σ H x y v u Q I rx ry hh_0
 obtain⟨d,e,P,r1,r2,q,kk⟩:=hh_0
 have hu:=hr.un
 unfold dNe at q
 split at q
 ·rename_i i j
  rw[r1.int_inv] at rx;rw[r2.int_inv] at ry
  obtain⟨t,rfl⟩:=rx
  obtain⟨t',rfl⟩:=ry
  have e:(!(decide (i=j))) = !(i == j):=by rw[lH]
  rw[e] at q
  exact SeqAt.RcNeAt.int_int i t j t' _ _ _ _ ⟨.bl _,H,I,rfl,kk _ _ H q (Same.refl H) (.bl _)⟩
 ·rename_i i j
  rw[r1.bl_inv] at rx;rw[r2.bl_inv] at ry
  cases rx;cases ry
  have e:(!(decide (i=j))) = !(i == j):=by rw[lH]
  rw[e] at q
  exact SeqAt.RcNeAt.bool_bool i j _ _ _ _ ⟨.bl _,H,I,rfl,kk _ _ H q (Same.refl H) (.bl _)⟩
 ·rename_i xs ys
  split at q
  ·rename_i b h
   obtain⟨a,vs,rfl,h1,q1⟩:=r1.tup
   obtain⟨c,ws,rfl,h2,q2⟩:=r2.tup
   cases rx;cases ry
   obtain⟨its,rv,ht,_⟩:=I.tuple (SqT.of h1)
   obtain⟨its2,rv2,ht2,_⟩:=I.tuple (SqT.of h2)
   have l1:xs.length=its.length:=q1.length.trans rv.length
   have l2:ys.length=its2.length:=q2.length.trans rv2.length
   have rc:SeqAt.RcNeAt X.A s (.ref a) (.ref c) (!b):=by
    have:=SeqAt.RcNeAt.tuples (A:=X.A) (s:=s) (e:=λj=>match xs[j]?,ys[j]? with | some x,some y=>(eqF 5 x y).getD false | _,_=>false) ht ht2 (by omega) (λj g1 g2=>?_)
    ·simp only[aN,<-l1,<-l2] at this
     have al:=FL h
     rw[<-al]
     exact this
    ·simp only[aN] at g1 g2
     have e1:xs[j]? = some (xs[j]'(by omega)):=aC _
     have e2:ys[j]? = some (ys[j]'(by omega)):=aC _
     obtain⟨k,hk⟩:=JS h j _ _ e1 e2
     rw[e1,e2]
     simp only[hk,kJ]
     obtain⟨v1,f1,f2⟩:=q1.get e1
     obtain⟨v2,f3,f4⟩:=q2.get e2
     obtain⟨u1,g3,g4⟩:=rv.get f1
     obtain⟨u2,g5,g6⟩:=rv2.get f3
     have a1:its.toArray[j]=u1:=by
      have:=aC g1
      rw[this] at g3
      simpa using dE g3
     have a2:its2.toArray[j]=u2:=by
      have:=aC g2
      rw[this] at g5
      simpa using dE g5
     rw[a1,a2]
     exact (sO I 5 hk f2 f4 g4 g6 (by show X.A.units+1+5<cLine;omega)).2
   exact rc _ _ _ _ ⟨.bl _,H,I,rfl,kk _ _ H q (Same.refl H) (.bl _)⟩
  ·exact q.elim
 ·have non:∀{v:V},RepB X.K H .non v->v = .non:=λr=>by
   rcases r with r | ⟨_,_,_,e,_⟩
   ·cases r;rfl
   ·cases e
  rw[non r1] at rx;rw[non r2] at ry
  cases rx;cases ry
  exact SeqAt.RcNeAt.none_none _ _ _ _ ⟨.bl _,H,I,rfl,kk _ _ H q (Same.refl H) (.bl _)⟩
 ·exact q.elim
def Gq:R22:=λx y Q=>match x with
 | .lst xs=>∃j:Nat,(∃d,xs[j]? = some d/\eqF 6 d y=some true)/\(∀(i:Nat) d,i<j->xs[i]? = some d->eqF 6 d y=some false)/\(∀d∈xs,∃b,eqF 6 d y=some b)/\Q (.int (j:Int))
 | _=>False
theorem RelV.det {v v':V} {u:aB} (h:RelV v u) (h':RelV v' u):v=v':=RelV.inj h h'
end
section
variable {X:Cx} {pins:List (Addr × Obj)} {σ:St} {H:Hp} {s:aD}
theorem PZ:∀{ks ks':List Int} {vs vs':List V},ks.length=vs.length->ks'.length=vs'.length->vF ks vs=vF ks' vs'->ks=ks'/\vs=vs'
 | [],[],[],[],_,_,_=>⟨rfl,rfl⟩
 | [],_::_,[],_::_,_,_,h=>by simp[vF] at h
 | _::_,[],_::_,[],_,_,h=>by simp[vF] at h
 | k::ks,k'::ks',v::vs,v'::vs',h1,h2,h=>by
  simp only[vF,oW,qP,fD,Sum.inl.injEq] at h
  obtain⟨rfl,rfl⟩:=PZ (ks:=ks) (ks':=ks') (vs:=vs) (vs':=vs') (by simpa using h1) (by simpa using h2) h.2
  obtain⟨⟨rfl,rfl⟩,_⟩:=h
  exact⟨rfl,rfl⟩
theorem LW:∀{ks ks':List (List Int)} {vs vs':List V},ks.length=vs.length->ks'.length=vs'.length->wO ks vs=wO ks' vs'->ks=ks'/\vs=vs'
 | [],[],[],[],_,_,_=>⟨rfl,rfl⟩
 | [],_::_,[],_::_,_,_,h=>by simp[wO] at h
 | _::_,[],_::_,[],_,_,h=>by simp[wO] at h
 | k::ks,k'::ks',v::vs,v'::vs',h1,h2,h=>by
  simp only[wO,oW,qP,fD] at h
  obtain⟨rfl,rfl⟩:=LW (ks:=ks) (ks':=ks') (vs:=vs) (vs':=vs') (by simpa using h1) (by simpa using h2) h.2
  obtain⟨⟨e,rfl⟩,_⟩:=h
  have e':k=k':=by
   have z:=congrArg (qL λx:Key=>match x with | .inl i=>i | .inr _=>0) e
   rw[cZ,cZ] at z
   simpa [EH] using z
  exact⟨by rw[e'],rfl⟩
theorem IG (I:Inv X pins σ H s) {a:Addr} {o:Obj} {kvs:List (List Key × V)} {vs:List V} (h:H a=some (.frz o (.dT kvs))) (h':FzL X.K H a vs):False:=by
 obtain⟨its,rv,pl,_⟩:=I.list h'.sq
 obtain⟨o',e',c',_⟩:=pl.isList
 obtain⟨_,_,_,us,_,ob,es,ep,e,c,_⟩:=I.hok a _ h
 rw[e] at e';cases e';rw[c.1] at c';simp at c'
theorem IE (I:Inv X pins σ H s) {a:Addr} {o:Obj} {kvs:List (Key × V)} {vs:List V} (h:H a=some (.frz o (.dK kvs))) (h':FzL X.K H a vs):False:=by
 obtain⟨its,rv,pl,_⟩:=I.list h'.sq
 obtain⟨o',e',c',_⟩:=pl.isList
 obtain⟨_,_,_,us,_,ob,es,ep,e,c,_⟩:=I.hok a _ h
 rw[e] at e';cases e';rw[c.1] at c';simp at c'
mutual
theorem Rep.det (I:Inv X pins σ H s):∀{d d':D} {v:V},Rep X.K H d v->Rep X.K H d' v->d=d'
 | _,_,_,.non,r=>by cases r;rfl
 | _,_,_,.bl b,r=>by cases r;rfl
 | _,_,_,.int i,r=>by cases r;rfl
 | _,_,_,.str x,r=>by cases r;rfl
 | _,_,_,.tup h q,r=>by
  cases r with
  | tup h' q'=>rw[h] at h';cases h';rw[Reps.det I q q']
  | lst h' q' =>
   obtain⟨its,rv,pl,_⟩:=I.list h'.sq
   obtain⟨jts,rv',⟨o,e,c,_⟩,_⟩:=I.tuple (SqT.of (K:=X.K) h)
   obtain⟨o',e',c',_⟩:=pl.isList
   rw[e] at e';cases e';rw[c] at c';simp at c'
  | dct h' _ _=>rw[h] at h';cases h'
  | dtt h' _ _=>rw[h] at h';cases h'
 | _,_,_,.dct h hl q,r=>by
  cases r with
  | tup h' q'=>rw[h] at h';cases h'
  | lst h' q'=>exact (IE I h h').elim
  | dct h' hl' q' =>
   rw[h] at h'
   obtain⟨rfl,rfl⟩:=PZ hl hl' (by injection h' with e;injection e with _ e;injection e)
   rw[Reps.det I q q']
  | dtt h' _ _=>rw[h] at h';cases h'
 | _,_,_,.dtt h hl q,r=>by
  cases r with
  | tup h' q'=>rw[h] at h';cases h'
  | lst h' q'=>exact (IG I h h').elim
  | dct h' _ _=>rw[h] at h';cases h'
  | dtt h' hl' q' =>
   rw[h] at h'
   obtain⟨rfl,rfl⟩:=LW hl hl' (by injection h' with e;injection e with _ e;injection e)
   rw[Reps.det I q q']
 | _,_,_,.lst h q,r=>by
  cases r with
  | tup h' q' =>
   obtain⟨its,rv,pl,_⟩:=I.list h.sq
   obtain⟨jts,rv',⟨o,e,c,_⟩,_⟩:=I.tuple (SqT.of (K:=X.K) h')
   obtain⟨o',e',c',_⟩:=pl.isList
   rw[e] at e';cases e';rw[c] at c';simp at c'
  | lst h' q'=>rw[I.list_inj h'.sq h.sq] at q';rw[Reps.det I q q']
  | dct h' _ _=>exact (IE I h' h).elim
  | dtt h' _ _=>exact (IG I h' h).elim
theorem Reps.det (I:Inv X pins σ H s):∀{d d':List D} {v:List V},Reps X.K H d v->Reps X.K H d' v->d=d'
 | _,_,_,.nil,r=>by cases r;rfl
 | _,_,_,.cons h t,r=>by
  cases r with
  | cons h' t'=>rw[Rep.det I h h',Reps.det I t t']
end
end
section
variable {X:Cx} {e a b:Expr} {te ta tb:RE} {p pos:Pos}
def ZV (ta tb:RE):RE:=λρ Q=>ta ρ λx=>(∃xs,x = .lst xs)/\tb ρ λy=>Gq x y Q
theorem Hd {k:Nat} {apos cpos:Pos} (hr:Room k X.A) (ha:DB X a ta) (hb:DE X b tb) (hbase:attributeBase a "index" X.env (eval a X.env)=eval a X.env:=by rfl)
  (hfew:((backTo cpos (starEach [b] X.env)).all (λx=>!x.1) && (backToKw cpos (keywordEach [] X.env)).all (λx=>x.1.isSome) && decide (([b]:List Expr).length+([]:List lP).length+(if ([]:List lP).isEmpty then 0 else 1)<30))=true:=by rfl)
  (hline:(apos.endLine == cpos.line)=true:=by rfl) (hs:starEach [b] X.env=[(false,eval b X.env)]:=by rfl) (hn:starEach [] X.env=[]:=by rfl) :
  DE X (.Call (.Attribute a "index" apos) [b] [] cpos) (ZV ta tb):=by
 have mt:MtR X "list.index" (λx vs H Q=>∃(d e:D) (u:V) (P:D->Prop),vs=[u]/\RepB X.K H d x/\Rep X.K H e u/\Gq d e P/\∀z w,P z->Rep X.K H z w->Q w H):=by
  intro pins s σ H x vs v us Q I rx rv hh_0
  obtain⟨d,e,u,P,ev,rd,re,q,kk⟩:=hh_0
  subst ev
  obtain⟨u',rfl,ru⟩:=rv.one
  cases d with
  | lst xs =>
   obtain⟨j,⟨dj,ej,hj⟩,hno,hall,q⟩:=q
   obtain⟨l,vs,rfl,hq,rr⟩:=rd.lst
   cases rx
   obtain⟨its,rw',pl,hz⟩:=I.list hq
   obtain⟨⟨cls,dd,data,sl⟩,ho,hc,n,hd⟩:=pl.isList
   simp only at hc hd
   subst hc hd
   have l1:=rr.length
   have l2:=rw'.length
   have hu:=hr.un
   have hjl:j<xs.length:=(aX.mp ej).1
   let ev:aB->Bool:=λy=>(cV xs.length).any λi=>match xs[i]?,its[i]? with
    | some d,some z=>z == y && eqF 6 d e == some true
    | _,_=>false
   have each:∀(i:Nat) (y:aB),its[i]? = some y->∃d v,xs[i]? = some d/\Rep X.K H d v/\RelV v y/\∃b,eqF 6 d e=some b:=λi y ey=>by
    have hi:i<xs.length:=by have:=(aX.mp ey).1;omega
    obtain⟨v,e1,e2⟩:=rr.get (aC hi)
    obtain⟨y',f1,f2⟩:=rw'.get e1
    rw[ey] at f1;cases f1
    exact⟨_,v,aC hi,e2,f2,hall _ (jF hi)⟩
   have evOk:∀(i:Nat) (y:aB) (d:D) (b:Bool),its[i]? = some y->xs[i]? = some d->eqF 6 d e=some b->ev y=b:=λi y d b ey ed hb=>by
    obtain⟨d',v,q1,q2,q3,_⟩:=each i y ey
    rw[ed] at q1;cases q1
    cases b with
    | true =>
     have hi:i<xs.length:=(aX.mp ed).1
     refine List.any_eq_true.mpr ⟨i,eZ.mpr hi,?_⟩
     simp only[ed,ey,hb];simp
    | false =>
     refine EN.mpr λi' hi'=>?_
     cases ex:xs[i']? with
     | none=>simp
     | some d' =>
      cases ez:its[i']? with
      | none=>simp
      | some z =>
       simp only[jE,beq_iff_eq,not_and]
       intro hz hd'
       subst hz
       obtain⟨d2,v2,p1,p2,p3,_⟩:=each i' z ez
       rw[ex] at p1;cases p1
       have:=RelV.det q3 p3
       subst this
       rw[Rep.det I q2 p2] at hb
       rw[hb] at hd';cases hd'
   have getI:∀(i:Nat) (h:i<its.toArray.size),its[i]? = some its.toArray[i]:=λi h=>by
    have h':i<its.length:=by simpa using h
    rw[aC h'];simp
   refine wM F.slot_list_index ⟨_,ho,rfl⟩ F.entry_list_index (F.args_list_index_2 _ _) (SeqAt.list_indexAt l its.toArray n dd sl u' ev j (by simp;omega) ?_ ?_ λm hm hlt=>?_) ⟨ho,λy hy=>?_,?_⟩
   ·have hs:(sizeLine:Int)<2 ^ 63-1:=by decide
    omega
   ·exact evOk j _ dj true (getI j _) ej hj
   ·have hm':m<xs.length:=by simp at hm;omega
    exact evOk m _ xs[m] false (getI m hm) (aC hm') (hno m _ hlt (aC hm'))
   ·obtain⟨i,hi,rfl⟩:=eK (List.mem_toArray.mp hy)
    obtain⟨d,v,q1,q2,q3,b,hb⟩:=each i its[i] (aC hi)
    rw[evOk i _ d b (aC hi) q1 hb]
    exact (sO I 6 hb q2 re q3 ru (by show X.A.units+1+6<cLine;omega)).2
   ·exact⟨.int (j:Int),H,I.tok _,⟨_,rfl⟩,kk _ _ q (.int _)⟩
  | _=>exact q.elim
 refine PE.mono (QF gJ PySem.F.slot_list_index PySem.F.type_list_index mt ha (nE hb hs hn) hbase hfew hline (by rw[hs,hn]) (by rw[hn];rfl)) λσ H Q hh=>gW hh λρ P st q k=>⟨ρ,_,st,q,λx v H1 hx s1 r1=>⟨?_,ρ,_,st.ext s1,hx.2,λy u H2 hy s2 r2=>⟨x,y,u,P,rfl,r1.same s2,r2,hy,λz w hz rz=>k z w H2 hz (s1.trans s2) rz⟩⟩⟩
 obtain⟨⟨xs,rfl⟩,_⟩:=hx
 obtain⟨l,vs,rfl,hq,_⟩:=r1.lst
 exact .inl ⟨rfl,vs,hq⟩
end
end
section
open PySem PySem.SetTable
def hop (N i:Nat):Nat:=(i*5+1) % N
def SD (N:Nat):Nat->Nat->Nat
 | 0,i=>i
 | m+1,i=>SD N m (hop N i)
theorem FO (N:Nat):∀a b i,SD N (a+b) i=SD N b (SD N a i)
 | 0,b,i=>by rw[EV];rfl
 | a+1,b,i=>by rw[Nat.add_right_comm];exact FO N a b (hop N i)
def Ct (N:Nat):Nat->Nat->List Nat
 | 0,_=>[]
 | m+1,i=>i::Ct N m (hop N i)
theorem HI {N j:Nat}:∀{m i:Nat},j∈Ct N m i->∃k,k<m/\SD N k i=j
 | 0,_,h=>by cases h
 | m+1,i,h=>by
  rcases aL.mp h with rfl | h
  ·exact⟨0,by omega,rfl⟩
  ·obtain⟨k,hk,e⟩:=HI h
   exact⟨k+1,by omega,e⟩
def Round (N:Nat):Prop:=(∀j,j<N->j∈Ct N N 0)/\SD N N 0=0
theorem NJ {N:Nat} (h:((cV N).all λj=>(Ct N N 0).contains j)=true) (k:SD N N 0=0):Round N :=
 ⟨λj hj=>by have:=GK.mp h j (eZ.mpr hj);simpa using this,k⟩
theorem Ry:Round 8:=NJ (by decide +kernel) (by decide +kernel)
theorem Nz:Round 32:=NJ (by decide +kernel) (by decide +kernel)
theorem Kq:Round 128:=NJ (by decide +kernel) (by decide +kernel)
theorem Round.reach {N:Nat} (h:Round N) {i j:Nat} (hi:i<N) (hj:j<N):∃k,k<N/\SD N k i=j:=by
 obtain⟨a,ha,ea⟩:=HI (h.1 i hi)
 obtain⟨b,hb,eb⟩:=HI (h.1 j hj)
 by_cases hab:a<=b
 ·refine⟨b-a,by omega,?_⟩
  rw[<-ea,<-FO,show a+(b-a)=b by omega,eb]
 ·refine⟨b+(N-a),by omega,?_⟩
  rw[<-ea,<-FO,show a+(b+(N-a))=N+b by omega,FO,h.2,eb]
def Em (P:Nat->Prop) (mask:Nat):Nat->Nat->Nat->Prop
 | 0,i,_=>P i
 | m+1,i,pt=>Em P mask m (leap mask i pt).1 (leap mask i pt).2
theorem Aj {P:Nat->Prop} {mask:Nat}:∀m i,P (SD (mask+1) m i)->Em P mask m i 0
 | 0,_,h=>h
 | m+1,i,h=>by
  unfold Em
  have e:leap mask i 0=(hop (mask+1) i,0):=by simp[leap,hop]
  rw[e]
  exact Aj m (hop (mask+1) i) h
theorem XX {P:Nat->Prop} {mask:Nat} (R:Round (mask+1)) {j:Nat} (hj:j<=mask) (hP:P j):∀(b i pt:Nat),i<=mask->pt<32 ^ b->∃m,m<=mask+b/\Em P mask m i pt
 | 0,i,pt,hi,hp=>by
  have:pt=0:=by simpa using hp
  subst this
  obtain⟨k,hk,e⟩:=R.reach (i:=i) (j:=j) (by omega) (by omega)
  exact⟨k,by omega,Aj k i (by rw[e];exact hP)⟩
 | b+1,i,pt,hi,hp=>by
  have h1:(leap mask i pt).1<=mask:=by unfold leap;exact iO (kQ _ (by omega))
  have h2:(leap mask i pt).2<32 ^ b:=by
   unfold leap;dsimp only
   rw[Nat.pow_succ] at hp
   omega
  obtain⟨m,hm,e⟩:=XX R hj hP b _ _ h1 h2
  exact⟨m+1,by omega,e⟩
theorem Aq (h:Int):bits h<32 ^ 13:=by
 unfold bits
 have:(h % (2 ^ 64:Int))<2 ^ 64:=Int.emod_lt_of_pos _ (by decide)
 have h2:0<=h % (2 ^ 64:Int):=Int.emod_nonneg _ (by decide)
 have:(h % (2 ^ 64:Int)).toNat<2 ^ 64:=by omega
 exact aV this (by decide)
theorem uH {α:Type} [DecidableEq α]:∀(l m:List α),l.Nodup->(∀x∈l,x∈m)->l.length<=m.length
 | [],_,_,_=>dY _
 | x::l,m,hn,hs=>by
  have hx:=hs x (by simp)
  have hn':=fL.mp hn
  have:=uH l (m.erase x) hn'.2 λy hy=>by
   have ne:y≠x:=λe=>hn'.1 (e ▸ hy)
   exact (yO ne).mpr (hs y (by simp[hy]))
  rw[uB hx] at this
  have:0<m.length:=wB hx
  simp;omega
structure TabOk (t:SetTable) (n:Nat):Prop where
 size:t.place.size=n
 dum:t.dummies = #[]
 room:n<=t.mask
 round:Round (t.mask+1)
 ris:t.place.toList.Pairwise (· < ·)
theorem slot_of {t:SetTable} (hd:t.dummies = #[]) (j:Nat):t.slot j = .empty\/∃i,t.slot j = .live i/\t.place[i]? = some j:=by
 unfold slot
 dsimp only
 by_cases h:(t.place[below t.place j]? == some j)=true
 ·rw[if_pos h];exact eJ ⟨_,rfl,by simpa using h⟩
 ·rw[if_neg h,hd,if_neg (by simp[has])];exact eD rfl
theorem Ac {t:SetTable} {n:Nat} (T:TabOk t n):∃j,j<=t.mask/\t.slot j = .empty:=by
 apply jP
 intro hn
 have all:∀j∈cV (t.mask+1),j∈t.place.toList:=by
  intro j hj
  rcases slot_of T.dum j with h | ⟨i,h,e⟩
  ·exact absurd ⟨j,by have:=eZ.mp hj;omega,h⟩ hn
  ·rw[fH];exact xO e
 have:=uH _ _ GO all
 rw[oT,bQ,T.size] at this
 have:=T.room
 omega
def PB (t:SetTable) (p:Probe) (m:Nat):Prop:=p.dummy=none/\p.more<=9/\Em (λj=>t.slot j = .empty) t.mask m p.i p.perturb/\(m=0->p.j=p.i)
def JE (p:Probe) (m:Nat):Nat:=p.more+10*m
theorem AJ (mask i:Nat):runEnd mask i-i<=9:=by unfold runEnd;split <;> omega
theorem TK {t:SetTable} {p:Probe} {m:Nat} (h:PB t p m) (hn:t.slot p.j≠.empty):∃m',PB t (t.advance p) m'/\JE (t.advance p) m'<JE p m:=by
 obtain⟨hd,hm,he,hj⟩:=h
 have m0:m≠0:=by rintro rfl;rw[hj rfl] at hn;exact hn he
 unfold advance
 split
 ·refine⟨m,⟨hd,by dsimp only;omega,he,λe=>absurd e m0⟩,by unfold JE;dsimp only;omega⟩
 ·obtain⟨k,rfl⟩:∃k,m=k+1:=⟨m-1,by omega⟩
  refine⟨k,⟨hd,AJ _ _,he,λ_=>rfl⟩,?_⟩
  unfold JE
  have:=AJ t.mask (leap t.mask p.i p.perturb).1
  dsimp only
  omega
theorem Ft {t:SetTable} {n:Nat} (T:TabOk t n) (h:Int):∃m,PB t (t.probeStart h) m/\JE (t.probeStart h) m<10*turns t.mask:=by
 obtain⟨j,hj,he⟩:=Ac T
 obtain⟨m,hm,e⟩:=XX (P:=λj=>t.slot j = .empty) T.round hj he 13 (bits h % (t.mask+1)) (bits h) (iO (kQ _ (by omega))) (Aq h)
 refine⟨m,⟨rfl,AJ _ _,e,λ_=>rfl⟩,?_⟩
 have:=AJ t.mask (bits h % (t.mask+1))
 unfold JE probeStart turns
 dsimp only
 omega
theorem Bl {mask:Nat} {owner:Array (Option Nat)}:∀(fuel m i pt:Nat),i<=mask->owner.size=mask+1->Em (λj=>owner.getD j (some 0)=none) mask m i pt->m<fuel->∃j,gN mask owner fuel i pt=some j/\j<=mask/\owner.getD j (some 0)=none
 | 0,_,_,_,_,_,_,h=>absurd h (nV _)
 | fuel+1,m,i,pt,hi,hs,he,hf=>by
  unfold gN
  cases hq:(cV (runEnd mask i+1-i)).find? λk=>(owner.getD (i+k) (some 0)).isNone with
  | some k =>
   have h1:=List.find?_some hq
   have h2:=sZ hq
   have h3:=eZ.mp h2
   refine⟨i+k,rfl,?_,by simpa using h1⟩
   have:runEnd mask i<=mask:=by unfold runEnd;split <;> omega
   omega
  | none =>
   dsimp only
   have hn:owner.getD i (some 0)≠none:=by
    have h0:=CU.mp hq 0 (eZ.mpr (by unfold runEnd;split <;> omega))
    simpa using h0
   obtain⟨k,rfl⟩:∃k,m=k+1:=by
    cases m with
    | zero=>exact absurd he hn
    | succ k=>exact⟨k,rfl⟩
   exact Bl fuel k _ _ (by unfold leap;exact iO (kQ _ (by omega))) hs he (by omega)
def FU (owner:Array (Option Nat)) (n:Nat):List Nat:=(cV n).filterMap λj=>owner.getD j none
theorem UX {α:Type} {f g:Nat->Option α}:∀(l:List Nat),(∀a∈l,f a=g a)->l.filterMap f=l.filterMap g
 | [],_=>rfl
 | a::l,h=>by rw[cL,cL,h a (by simp),UX l λb hb=>h b (by simp[hb])]
theorem BH {α:Type} {f g:Nat->Option α} {x:α} {j:Nat}:∀(l:List Nat),l.Nodup->j∈l->(∀i,i≠j->f i=g i)->f j=none->g j=some x->(l.filterMap g).Perm (x::l.filterMap f)
 | [],_,h,_,_,_=>by cases h
 | i::l,hn,hj,hfg,hf,hg=>by
  have hn':=fL.mp hn
  by_cases e:i=j
  ·subst e
   rw[cL,cL,hf,hg]
   dsimp only
   have:l.filterMap g=l.filterMap f:=by
    exact UX l λa ha=>(hfg a (λe=>hn'.1 (e ▸ ha))).symm
   rw[this]
  ·have hj':j∈l:=by rcases aL.mp hj with h | h;exact absurd h.symm e;exact h
   have ih:=BH l hn'.2 hj' hfg hf hg
   rw[cL,cL,hfg i e]
   cases g i with
   | none=>exact ih
   | some y=>exact (ih.cons y).trans (KE x y _)
theorem Fd {owner:Array (Option Nat)} {N c:Nat} (hp:(FU owner N).Perm (cV c)) (hs:owner.size=N) (hc:c<N):∃j,j<N/\owner.getD j (some 0)=none:=by
 apply jP
 intro hn
 have key:∀(l:List Nat),(∀j∈l,∃k,owner.getD j none=some k)->(l.filterMap λj=>owner.getD j none).length=l.length:=by
  intro l
  induction l with
  | nil=>intro _;rfl
  | cons j l ih =>
   intro h
   obtain⟨k,e⟩:=h j (by simp)
   rw[cL,e]
   have:=ih λj hj=>h j (by simp[hj])
   rw[bJ,bJ,this]
 have:=key (cV N) (by
  intro j hj
  have hj':=eZ.mp hj
  cases h:owner.getD j none with
  | some k=>exact⟨k,rfl⟩
  | none =>
   refine absurd ⟨j,hj',?_⟩ hn
   have lt:j<owner.size:=by omega
   simp[hU,lt] at h ⊢
   exact h)
 have e:=hp.length_eq
 unfold FU at e
 rw[this] at e
 simp at e
 omega
theorem VI {mask:Nat} (R:Round (mask+1)):∀(hs:List Int) (owner:Array (Option Nat)) (c:Nat),owner.size=mask+1->(FU owner (mask+1)).Perm (cV c)->c+hs.length<=mask+1 ->
  ∃owner' ,(hs.foldl (λacc h=>do
    let (owner,k) <-acc
    let j <-gN mask owner (turns mask) (bits h % (mask+1)) (bits h)
    pure (owner.setIfInBounds j (some k),k+1)) (some (owner,c)))=some (owner',c+hs.length)/\owner'.size=mask+1/\(FU owner' (mask+1)).Perm (cV (c+hs.length))
 | [],owner,c,hs,hp,_=>⟨owner,rfl,hs,hp⟩
 | h::hs,owner,c,hz,hp,hl=>by
  simp only[bJ] at hl
  obtain⟨j0,hj0,e0⟩:=Fd hp hz (by omega)
  obtain⟨m,hm,em⟩:=XX (P:=λj=>owner.getD j (some 0)=none) R (j:=j0) (by omega) e0 13 (bits h % (mask+1)) (bits h) (iO (kQ _ (by omega))) (Aq h)
  obtain⟨j,ej,hj,ef⟩:=Bl (turns mask) m _ _ (iO (kQ _ (by omega))) hz em (by unfold turns;omega)
  rw[nU]
  have step:((do
    let (owner,k) <-some (owner,c)
    let j <-gN mask owner (turns mask) (bits h % (mask+1)) (bits h)
    pure (owner.setIfInBounds j (some k),k+1)):Option (Array (Option Nat) × Nat))=some (owner.setIfInBounds j (some c),c+1):=by
   show (gN mask owner (turns mask) (bits h % (mask+1)) (bits h) >>= λj=>_)=_
   rw[ej];rfl
  rw[step]
  have lt:j<owner.size:=by omega
  have perm:(FU (owner.setIfInBounds j (some c)) (mask+1)).Perm (cV (c+1)):=by
   unfold FU
   refine (BH (f:=λi=>owner.getD i none) (x:=c) (j:=j) _ GO (eZ.mpr (by omega)) ?_ ?_ ?_).trans ?_
   ·intro i hi
    simp only[cT]
    rw[pM (Ne.symm hi)]
   ·simp only[cT] at ef ⊢
    have:owner[j]? = some owner[j]:=aW lt
    rw[this] at ef ⊢
    exact ef
   ·simp only[cT]
    rw[lU lt];rfl
   ·rw[wZ (n:=c)]
    exact (List.Perm.cons c hp).trans (xU (l₁:=[c]))
  obtain⟨o',r1,r2,r3⟩:=VI R hs (owner.setIfInBounds j (some c)) (c+1) (by simp[hz]) perm (by omega)
  refine⟨o',?_,r2,?_⟩
  ·rw[r1,bJ,show c+1+hs.length=c+(hs.length+1) by omega]
  ·rw[bJ,show c+(hs.length+1)=c+1+hs.length by omega];exact r3
theorem Mm {mask:Nat} (R:Round (mask+1)) (finger moves:Nat) (led plain:Bool) (hashes:Array Int) (hl:hashes.size<=mask) :
  ∃t order,laid mask finger moves led plain hashes=some (t,order)/\TabOk t hashes.size/\t.mask=mask/\t.led=led/\t.plain=plain/\order.toList.Perm (cV hashes.size):=by
 obtain⟨o,e,sz,pm⟩:=VI R hashes.toList (wW (mask+1) none) 0 (by simp) (by
  have:FU (wW (mask+1) none) (mask+1)=[]:=by
   unfold FU
   rw[List.filterMap_eq_nil_iff]
   intro j hj
   have:=eZ.mp hj
   simp[cT,this]
  rw[this];exact sE _) (by rw[bQ];omega)
 have el:layClean mask hashes=some o:=by
  unfold layClean
  rw[<-CK]
  have e':=e
  simp only[EV] at e'
  rw[e']
  rfl
 unfold laid
 rw[el]
 simp only[EV,bQ] at pm
 have e2:∀l:List Nat,(l.filterMap λj=>(o.getD j none).map (j,·)).map (·.2)=l.filterMap λj=>o.getD j none:=by
  intro l
  induction l with
  | nil=>rfl
  | cons j l ih =>
   rw[cL,cL]
   cases o.getD j none with
   | none=>exact ih
   | some k=>exact congrArg (k :: ·) ih
 have e3:∀l:List Nat,((l.filterMap λj=>(o.getD j none).map (j,·)).map (·.1)).Sublist l:=by
  intro l
  induction l with
  | nil=>exact EM _
  | cons j l ih =>
   rw[cL]
   cases o.getD j none with
   | none=>exact ih.cons j
   | some k=>exact ih.cons_cons j
 refine⟨_,_,rfl,⟨?_,rfl,hl,R,jL (e3 _) List.pairwise_lt_range⟩,rfl,rfl,rfl,?_⟩
 ·have h1:=congrArg gU (e2 (cV (mask+1)))
  have h2:=pm.length_eq
  unfold FU at h2
  simp only[aS,oT] at h1 h2
  simp only[aN,aS]
  omega
 ·dsimp only
  rw[e2];exact pm
theorem KR {xs:Array Nat} {j:Nat} (hr:xs.toList.Pairwise (· < ·)):∀(fuel lo hi:Nat),lo<=hi->hi<=xs.size->hi-lo<=fuel->(∀i x,i<lo->xs[i]? = some x->x<j)->(∀i x,hi<=i->xs[i]? = some x->j<=x) ->
  KQ xs j fuel lo hi<=xs.size/\(∀i x,i<KQ xs j fuel lo hi->xs[i]? = some x->x<j)/\(∀i x,KQ xs j fuel lo hi<=i->xs[i]? = some x->j<=x)
 | 0,lo,hi,h1,h2,h3,a,b=>by
  have:lo=hi:=by omega
  subst this
  exact⟨h2,a,b⟩
 | fuel+1,lo,hi,h1,h2,h3,a,b=>by
  unfold KQ
  by_cases hl:lo<hi
  ·rw[if_pos hl]
   dsimp only
   have hm:(lo+hi) / 2<xs.size:=by omega
   have em:xs[(lo+hi) / 2]? = some xs[(lo+hi) / 2]:=aW hm
   have eg:xs.getD ((lo+hi) / 2) j=xs[(lo+hi) / 2]:=by simp[hU,hm]
   have mono:∀(i k x y:Nat),i<k->xs[i]? = some x->xs[k]? = some y->x<y:=by
    intro i k x y hik ex ey
    have hk:k<xs.size:=(gO.mp ey).1
    have:=fR.mp hr i k (by simp;omega) (by simpa using hk) hik
    rw[aW (by omega)] at ex
    rw[aW hk] at ey
    cases ex;cases ey
    simpa using this
   rw[eg]
   split
   ·rename_i h
    refine KR hr fuel _ _ (by omega) h2 (by omega) (λi x hq ex=>?_) b
    by_cases he:i=(lo+hi) / 2
    ·subst he;rw[em] at ex;cases ex;exact h
    ·exact mQ (mono i ((lo+hi) / 2) x _ (by omega) ex em) h
   ·rename_i h
    refine KR hr fuel _ _ (by omega) (by omega) (by omega) a (λi x hq ex=>?_)
    by_cases he:i=(lo+hi) / 2
    ·subst he;rw[em] at ex;cases ex;omega
    ·have:=mono ((lo+hi) / 2) i _ x (by omega) em ex
     omega
  ·rw[if_neg hl]
   have:lo=hi:=by omega
   subst this
   exact⟨h2,a,b⟩
theorem FE {xs:Array Nat} (j:Nat) (hr:xs.toList.Pairwise (· < ·)):below xs j<=xs.size/\(∀i x,i<below xs j->xs[i]? = some x->x<j)/\(∀i x,below xs j<=i->xs[i]? = some x->j<=x) :=
 KR hr xs.size 0 xs.size (dY _) (aZ _) (by omega) (λi x h=>absurd h (nV _)) λi x h e=>by
  have:=(gO.mp e).1;omega
theorem nN {α:Type} (xs:Array α) (p:Nat) (x:α) (hp:p<=xs.size):(insertAt xs p x).toList=xs.toList.take p++x::xs.toList.drop p:=by
 unfold insertAt
 rw[Array.toList_append,tH,yG,yG]
 simp only[List.extract_eq_drop_take,ET,sF,fT,xV]
 congr 2
 rw[iZ (by simp)]
theorem BI {α:Type} (xs:Array α) (p:Nat) (x:α) (hp:p<=xs.size):(insertAt xs p x).size=xs.size+1:=by
 rw[<-bQ,nN xs p x hp];simp;omega
theorem FP {α:Type} (xs:Array α) (p:Nat) (x:α) (hp:p<=xs.size) (y:α):y∈(insertAt xs p x).toList↔y=x\/y∈xs.toList:=by
 rw[nN xs p x hp,cH,aL]
 constructor
 ·rintro (h | h | h)
  ·exact eJ (yQ h)
  ·exact eD h
  ·exact eJ (yP h)
 ·rintro (h | h)
  ·exact eJ (eD h)
  ·rw[<-fW p xs.toList] at h
   rcases cH.mp h with h | h
   ·exact eD h
   ·exact eJ (eJ h)
theorem Rm {t:SetTable} {n j:Nat} (T:TabOk t n) (he:t.slot j = .empty) (hr:n+1<=t.mask):TabOk (t.put j).1 (n+1)/\(t.put j).2=below t.place j/\below t.place j<=n/\(t.put j).1.mask=t.mask/\(t.put j).1.led=t.led/\(t.put j).1.plain=t.plain/\(t.put j).1.moves=t.moves:=by
 obtain⟨b1,b2,b3⟩:=FE j T.ris
 have hn:t.place[below t.place j]?≠some j:=by
  intro h
  unfold slot at he
  dsimp only at he
  rw[if_pos (by simpa using h)] at he
  cases he
 have hd:(if has t.dummies j=true then eraseAt t.dummies (below t.dummies j) else t.dummies) = #[]:=by
  rw[T.dum];simp[has]
 refine⟨⟨?_,hd,hr,T.round,?_⟩,rfl,by rw[<-T.size];exact b1,rfl,rfl,rfl,rfl⟩
 ·show (insertAt t.place _ j).size=_
  rw[BI _ _ _ b1,T.size]
 ·show (insertAt t.place _ j).toList.Pairwise _
  rw[nN _ _ _ b1]
  refine gI.mpr ⟨jL (ER _ _) T.ris,bW.mpr ⟨λx hx=>?_,jL (List.drop_sublist _ _) T.ris⟩,λx hx y hy=>?_⟩
  ·obtain⟨i,hi,e⟩:=eK hx
   simp only[hV,bQ] at hi
   rw[EQ] at e
   have ex:t.place[below t.place j+i]? = some x:=by rw[aW (by omega),<-e];simp
   have:=b3 _ x (by omega) ex
   rcases CZ this with h | h
   ·exact h
   ·subst h
    exfalso
    cases i with
    | zero=>exact hn ex
    | succ i =>
     have hp:below t.place j<t.place.size:=by omega
     have e0:t.place[below t.place j]? = some t.place[below t.place j]:=aW hp
     have g1:=b3 _ _ (aZ _) e0
     have g2:=fR.mp T.ris (below t.place j) (below t.place j+(i+1)) (by simpa using hp) (by simp;omega) (by omega)
     rw[aW (by omega)] at ex
     injection ex with ex
     simp at g2
     omega
  ·obtain⟨i,hi,e⟩:=eK hx
   simp only[fC,bQ] at hi
   rw[List.getElem_take] at e
   have ex:t.place[i]? = some x:=by rw[aW (by omega),<-e];simp
   have lx:=b2 i x (by omega) ex
   rcases aL.mp hy with rfl | hy
   ·exact lx
   ·obtain⟨k,hk,e'⟩:=eK hy
    simp only[hV,bQ] at hk
    rw[EQ] at e'
    have ey:t.place[below t.place j+k]? = some y:=by rw[aW (by omega),<-e'];simp
    have:=b3 _ y (by omega) ey
    omega
def rP (t:SetTable) (k:Nat):Nat:=if k=0 then 0 else t.place.getD (k-1) 0+1
theorem ZF {t:SetTable} {n k:Nat} (T:TabOk t n) (hk:k<=n):below t.place (rP t k)=k:=by
 obtain⟨b1,b2,b3⟩:=FE (rP t k) T.ris
 have mono:∀(i k x y:Nat),i<k->t.place[i]? = some x->t.place[k]? = some y->x<y:=by
  intro i k x y hik ex ey
  have hk:k<t.place.size:=(gO.mp ey).1
  have:=fR.mp T.ris i k (by simp;omega) (by simpa using hk) hik
  rw[aW (by omega)] at ex
  rw[aW hk] at ey
  cases ex;cases ey
  simpa using this
 have sz:=T.size
 have at':∀i,i<n->t.place[i]? = some (t.place.getD i 0):=by
  intro i hi
  rw[aW (by omega)]
  have:i<t.place.size:=by omega
  simp[hU,this]
 rcases Nat.lt_trichotomy (below t.place (rP t k)) k with h | h | h
 ·exfalso
  have:=b3 (k-1) _ (by omega) (at' (k-1) (by omega))
  unfold rP at this
  rw[if_neg (by omega)] at this
  omega
 ·exact h
 ·exfalso
  have ek:=at' k (by omega)
  have h1:=b2 k _ h ek
  unfold rP at h1
  by_cases h0:k=0
  ·rw[if_pos h0] at h1;omega
  ·rw[if_neg h0] at h1
   have:=mono (k-1) k _ _ (by omega) (at' (k-1) (by omega)) ek
   omega
def nxP (mask:Nat) (p:Probe):Probe:=if p.more > 0 then { p with j:=p.j+1,more:=p.more-1 } else
 { p with j:=(leap mask p.i p.perturb).1,more:=runEnd mask (leap mask p.i p.perturb).1-(leap mask p.i p.perturb).1,i:=(leap mask p.i p.perturb).1,perturb:=(leap mask p.i p.perturb).2 }
def atP (mask i pt:Nat):Probe:={ j:=i,more:=runEnd mask i-i,i,perturb:=pt,dummy:=none }
def stP (mask:Nat) (h:Int):Probe:=atP mask (bits h % (mask+1)) (bits h)
inductive Via (mask:Nat) (O:Nat->Prop) (j:Nat):Probe->Prop
 | here {p:Probe} (e:p.j=j):Via mask O j p
 | on {p:Probe} (o:O p.j) (v:Via mask O j (nxP mask p)):Via mask O j p
theorem Via.mono {mask j:Nat} {O O':Nat->Prop} {p:Probe} (h:Via mask O j p) (m:∀x,O x->O' x):Via mask O' j p:=by
 induction h with
 | here e=>exact .here e
 | on o v ih=>exact .on (m _ o) ih
def Occ (t:SetTable) (x:Nat):Prop:=t.slot x≠.empty
theorem VY {t:SetTable} {j i:Nat} (e:t.slot j = .live i):Occ t j:=by unfold Occ;rw[e];exact λz=>nomatch z
theorem QK {t:SetTable} (hd:t.dummies = #[]) (hashAt:Nat->Int) (h:Int):∀(fuel:Nat) (p:Probe) (m:Nat),PB t p m->JE p m<fuel ->
  (∃j,WN t hashAt h fuel p=some (.empty j none)/\t.slot j = .empty/\Via t.mask (Occ t) j p/\∀j1 i1,t.slot j1 = .live i1->hashAt i1=h->¬Via t.mask (Occ t) j1 p) \/
  (∃j i next m',WN t hashAt h fuel p=some (.candidate j i next)/\t.slot j = .live i/\t.place[i]? = some j/\PB t next m'/\JE next m'<JE p m/\(∀x,Via t.mask (Occ t) x next->Via t.mask (Occ t) x p) /\
   ∀j1 i1,t.slot j1 = .live i1->hashAt i1=h->Via t.mask (Occ t) j1 p->j1=j\/Via t.mask (Occ t) j1 next)
 | 0,_,_,_,h=>absurd h (nV _)
 | fuel+1,p,m,hi,hf=>by
  unfold WN
  rcases slot_of hd p.j with e | ⟨i,e,ep⟩
  ·rw[e];dsimp only;rw[hi.1]
   refine eD ⟨_,rfl,e,.here rfl,λj1 i1 e1 _ v=>?_⟩
   cases v with
   | here ej=>rw[ej,e1] at e;cases e
   | on o _=>exact o e
  ·rw[e];dsimp only
   have oc:=VY e
   obtain⟨m',hi',hl⟩:=TK hi (by rw[e];exact λx=>nomatch x)
   split
   ·refine eJ ⟨_,_,_,m',rfl,e,ep,hi',hl,λx v=>.on oc v,λj1 i1 e1 _ v=>?_⟩
    cases v with
    | here ej=>exact .inl ej.symm
    | on _ v=>exact .inr v
   ·rename_i ne
    have step:∀j1 i1,t.slot j1 = .live i1->hashAt i1=h->Via t.mask (Occ t) j1 p->Via t.mask (Occ t) j1 (t.advance p):=λj1 i1 e1 eh v=>by
     cases v with
     | here ej=>rw[ej,e1] at e;cases e;exact absurd (by rw[eh];simp) ne
     | on _ v=>exact v
    rcases QK hd hashAt h fuel (t.advance p) m' hi' (by omega) with ⟨j,r,r1,r2,r3⟩ | ⟨j,i,nx,m'',r,r2,r3,r4,r5,r6,r7⟩
    ·exact eD ⟨j,r,r1,.on oc r2,λj1 i1 e1 eh v=>r3 j1 i1 e1 eh (step j1 i1 e1 eh v)⟩
    ·exact eJ ⟨j,i,nx,m'',r,r2,r3,r4,by omega,λx v=>.on oc (r6 x v),λj1 i1 e1 eh v=>r7 j1 i1 e1 eh (step j1 i1 e1 eh v)⟩
theorem HY {t:SetTable} (hr:t.place.toList.Pairwise (· < ·)) {i j:Nat} (e:t.place[i]? = some j):t.slot j = .live i:=by
 obtain⟨b1,b2,b3⟩:=FE j hr
 obtain⟨hi,ei⟩:=gO.mp e
 have le:below t.place j<=i:=by
  apply DC.mp
  intro lt
  exact fM _ (b2 i j lt e)
 have eq:below t.place j=i:=by
  rcases CZ le with lt | eq
  ·exfalso
   have hb:below t.place j<t.place.size:=by omega
   have g1:=b3 _ _ (aZ _) (aW hb)
   have g2:=fR.mp hr (below t.place j) i (by simpa using hb) (by simpa using hi) lt
   simp at g2
   omega
  ·exact eq
 unfold slot
 dsimp only
 rw[eq,if_pos (by rw[e];simp)]
theorem SN {t:SetTable} (hd:t.dummies = #[]) (hr:t.place.toList.Pairwise (· < ·)) {x:Nat}:Occ t x↔x∈t.place.toList:=by
 constructor
 ·intro h
  rcases slot_of hd x with e | ⟨i,_,e⟩
  ·exact absurd e h
  ·exact fH.mpr (xO e)
 ·intro h
  obtain⟨i,hi,e⟩:=yE (fH.mp h)
  exact VY (HY hr (by rw[aW hi,e]))
def Chn {α:Type} (t:SetTable) (es:List (Int × α)):Prop:=∀x∈t.place.toList.zip es,Via t.mask (Occ t) x.1 (stP t.mask x.2.1)
theorem Ai {α β:Type} (A:List α) (B:List β) (hl:A.length=B.length) (p:Nat) (a:α) (b:β) {x:α × β} (h:x∈(A.take p++a::A.drop p).zip (B.take p++b::B.drop p)):x=(a,b)\/x∈A.zip B:=by
 rw[xA (by rw[fC,fC,hl]),hX] at h
 rcases cH.mp h with h | h
 ·refine .inr ?_
  rw[<-fW p A,<-fW p B,xA (by rw[fC,fC,hl])]
  exact eP _ h
 ·rcases aL.mp h with h | h
  ·exact .inl h
  ·refine .inr ?_
   rw[<-fW p A,<-fW p B,xA (by rw[fC,fC,hl])]
   exact bK _ h
theorem Lg {α:Type} {t:SetTable} {es:Array (Int × α)} {j:Nat} {e:Int × α} (T:TabOk t es.size) (T1:TabOk (t.put j).1 (es.size+1)) (c:Chn t es.toList) (v:Via t.mask (Occ t) j (stP t.mask e.1)):Chn (t.put j).1 (insertAt es (below t.place j) e).toList:=by
 obtain⟨b1,_,_⟩:=FE j T.ris
 have pl:(t.put j).1.place=insertAt t.place (below t.place j) j:=rfl
 have up:∀x,Occ t x->Occ (t.put j).1 x:=λx o=>(SN T1.dum T1.ris).mpr (by
  rw[pl,FP _ _ _ b1]
  exact .inr ((SN T.dum T.ris).mp o))
 intro x hx
 rw[pl,nN _ _ _ b1,nN _ _ _ (by rw[<-T.size];exact b1)] at hx
 rcases Ai _ _ (by rw[bQ,bQ,T.size]) _ _ _ hx with rfl | h
 ·exact v.mono up
 ·exact (c x h).mono up
def OwO (mask:Nat) (owner:Array (Option Nat)) (x:Nat):Prop:=x<=mask/\owner.getD x (some 0)≠none
theorem Cw {mask i pt:Nat} {O:Nat->Prop}:∀(k a m:Nat),k<=m->(∀b,b<k->O (a+b))->Via mask O (a+k) { j:=a,more:=m,i,perturb:=pt,dummy:=none }
 | 0,a,m,_,_=>.here rfl
 | k+1,a,m,h,o=>by
  refine .on (o 0 (by omega)) ?_
  have e:nxP mask { j:=a,more:=m,i,perturb:=pt,dummy:=none } = { j:=a+1,more:=m-1,i,perturb:=pt,dummy:=none }:=by
   unfold nxP;dsimp only;rw[if_pos (by omega)]
  rw[e,show a+(k+1)=(a+1)+k by omega]
  exact Cw k (a+1) (m-1) (by omega) λb hb=>by rw[show a+1+b=a+(b+1) by omega];exact o (b+1) (by omega)
theorem XU {mask i pt x:Nat} {O:Nat->Prop}:∀(m a:Nat),(∀b,b<=m->O (a+b))->Via mask O x (atP mask (leap mask i pt).1 (leap mask i pt).2)->Via mask O x { j:=a,more:=m,i,perturb:=pt,dummy:=none }
 | 0,a,o,v=>.on (o 0 (aZ _)) v
 | m+1,a,o,v=>by
  refine .on (o 0 (by omega)) ?_
  have e:nxP mask { j:=a,more:=m+1,i,perturb:=pt,dummy:=none } = { j:=a+1,more:=m,i,perturb:=pt,dummy:=none }:=by
   unfold nxP;dsimp only;rw[if_pos (by omega)];rfl
  rw[e]
  exact XU m (a+1) (λb hb=>by rw[show a+1+b=a+(b+1) by omega];exact o (b+1) (by omega)) v
theorem YN {p:Nat->Bool} {n k:Nat} (h:(cV n).find? p=some k):∀b,b<k->p b=false:=by
 rw[List.find?_range_eq_some] at h
 intro b hb
 have:=h.2.2 b hb
 simpa using this
theorem UZ {mask:Nat} {owner:Array (Option Nat)}:∀(fuel i pt j:Nat),i<=mask->gN mask owner fuel i pt=some j->j<=mask/\Via mask (OwO mask owner) j (atP mask i pt)
 | 0,_,_,_,_,h=>by cases h
 | fuel+1,i,pt,j,hi,h=>by
  have re:i<=runEnd mask i/\runEnd mask i<=mask:=by unfold runEnd;split <;> omega
  unfold gN at h
  cases hq:(cV (runEnd mask i+1-i)).find? λk=>(owner.getD (i+k) (some 0)).isNone with
  | some k =>
   rw[hq] at h
   cases h
   have h3:=eZ.mp (sZ hq)
   refine⟨by omega,Cw k i _ (by omega) λb hb=>⟨by omega,?_⟩⟩
   have:=YN hq b hb
   intro z
   rw[z] at this
   cases this
  | none =>
   rw[hq] at h
   dsimp only at h
   have ho:∀b,b<=runEnd mask i-i->OwO mask owner (i+b):=λb hb=>⟨by omega,λz=>by
    have h0:=CU.mp hq b (eZ.mpr (by omega))
    rw[z] at h0
    exact h0 rfl⟩
   obtain⟨r1,r2⟩:=UZ fuel _ _ j (by unfold leap;exact iO (kQ _ (by omega))) h
   exact⟨r1,XU _ i ho r2⟩
def Om (mask:Nat) (pre:List Int) (owner:Array (Option Nat)):Prop:=∀j k,owner.getD j none=some k->∃hk,pre[k]? = some hk/\Via mask (OwO mask owner) j (stP mask hk)
def FQ (mask:Nat) (acc:Option (Array (Option Nat) × Nat)) (h:Int):Option (Array (Option Nat) × Nat):=do
 let (owner,k) <-acc
 let j <-gN mask owner (turns mask) (bits h % (mask+1)) (bits h)
 pure (owner.setIfInBounds j (some k),k+1)
theorem VJ {mask:Nat}:∀hs:List Int,hs.foldl (FQ mask) none=none
 | []=>rfl
 | _::hs=>VJ hs
theorem Bp {mask:Nat}:∀(hs pre:List Int) (owner o':Array (Option Nat)) (n:Nat),hs.foldl (FQ mask) (some (owner,pre.length))=some (o',n)->owner.size=mask+1->Om mask pre owner->o'.size=mask+1/\Om mask (pre++hs) o'
 | [],pre,owner,o',n,e,hz,I=>by cases e;rw[dL];exact⟨hz,I⟩
 | h::hs,pre,owner,o',n,e,hz,I=>by
  rw[nU] at e
  cases ej:gN mask owner (turns mask) (bits h % (mask+1)) (bits h) with
  | none =>
   have:FQ mask (some (owner,pre.length)) h=none:=by
    show (gN mask owner (turns mask) (bits h % (mask+1)) (bits h) >>= λj=>_)=_
    rw[ej];rfl
   rw[this,VJ] at e;cases e
  | some j =>
   obtain⟨hj,vj⟩:=UZ _ _ _ _ (iO (kQ _ (by omega))) ej
   have st:FQ mask (some (owner,pre.length)) h=some (owner.setIfInBounds j (some pre.length),pre.length+1):=by
    show (gN mask owner (turns mask) (bits h % (mask+1)) (bits h) >>= λj=>_)=_
    rw[ej];rfl
   have lt:j<owner.size:=by omega
   have same:∀x,x≠j->∀d,(owner.setIfInBounds j (some pre.length)).getD x d=owner.getD x d:=λx hx d=>by
    simp only[cT]
    rw[pM (Ne.symm hx)]
   have at_:∀d,(owner.setIfInBounds j (some pre.length)).getD j d=some pre.length:=λd=>by
    simp only[cT]
    rw[lU lt];rfl
   have up:∀x,OwO mask owner x->OwO mask (owner.setIfInBounds j (some pre.length)) x:=λx ⟨a,b⟩=>⟨a,by
    by_cases hx:x=j
    ·subst hx;rw[at_];exact λz=>nomatch z
    ·rw[same x hx];exact b⟩
   rw[st,show pre.length+1=(pre++[h]).length by simp] at e
   have:=Bp hs (pre++[h]) _ o' n e (by simp[hz]) λj1 k e1=>by
    by_cases hx:j1=j
    ·subst hx
     rw[at_] at e1
     cases e1
     exact⟨h,by simp,vj.mono up⟩
    ·rw[same j1 hx] at e1
     obtain⟨hk,g1,g2⟩:=I j1 k e1
     exact⟨hk,by rw[dA (aX.mp g1).1];exact g1,g2.mono up⟩
   rw[fT] at this
   exact this
theorem Ix {mask finger moves:Nat} {led plain:Bool} {hashes:Array Int} {t:SetTable} {ord:Array Nat} (e:laid mask finger moves led plain hashes=some (t,ord)) (T:TabOk t hashes.size) :
  ∀x∈t.place.toList.zip ord.toList,∃hk,hashes.toList[x.2]? = some hk/\Via t.mask (Occ t) x.1 (stP t.mask hk):=by
 unfold laid at e
 cases ec:layClean mask hashes with
 | none=>rw[ec] at e;cases e
 | some o =>
  rw[ec] at e
  have e:some _=some (t,ord):=e
  have ec':((hashes.toList.foldl (FQ mask) (some (wW (mask+1) none,0))).map (·.1))=some o:=by
   rw[<-ec];unfold layClean;rw[<-CK];rfl
  obtain⟨⟨o1,n⟩,e1,rfl⟩:=kR.mp ec'
  obtain⟨sz,I⟩:=Bp hashes.toList [] _ o1 n e1 (by simp) λj k z=>by
   simp only[cT] at z
   by_cases hj:j<mask+1
   ·rw[aW (by simpa using hj)] at z;simp at z
   ·rw[oM (by simpa using hj)] at z;cases z
  cases e
  dsimp only at T ⊢
  intro x hx
  rw[<-List.unzip_fst,<-List.unzip_snd] at hx
  have hx:x∈(cV (mask+1)).filterMap λj=>(o1.getD j none).map (j,·):=by
   have z:=List.zip_unzip ((cV (mask+1)).filterMap λj=>(o1.getD j none).map (j,·))
   rw[<-z];exact hx
  obtain⟨j,hj,ex⟩:=oA.mp hx
  obtain⟨k,ek,rfl⟩:=kR.mp ex
  obtain⟨hk,g1,g2⟩:=I j k ek
  refine⟨hk,by simpa using g1,g2.mono λy ⟨y1,y2⟩=>(SN T.dum T.ris).mpr ?_⟩
  dsimp only
  have lt:y<o1.size:=by omega
  simp only[cT,aW lt] at y2
  cases ey:o1[y] with
  | none=>rw[ey] at y2;exact absurd rfl y2
  | some k' =>
   refine cK.mpr ⟨(y,k'),oA.mpr ⟨y,eZ.mpr (by omega),?_⟩,rfl⟩
   simp only[cT,aW lt,ey];rfl
theorem Kz {α β γ:Type} {f:β->Option γ}:∀(P:List α) (Q:List β),(∀q∈Q,∃y,f q=some y)->∀x∈P.zip (Q.filterMap f),∃q,(x.1,q)∈P.zip Q/\f q=some x.2
 | [],_,_,x,h=>by cases h
 | _::_,[],_,x,h=>by cases h
 | p::P,q::Q,hf,x,h=>by
  obtain⟨y,ey⟩:=hf q (.head _)
  rw[cL,ey] at h
  rcases aL.mp h with rfl | h
  ·exact⟨q,.head _,ey⟩
  ·obtain⟨q',h1,h2⟩:=Kz P Q (λz hz=>hf z (.tail _ hz)) x h
   exact⟨q',.tail _ h1,h2⟩
section
variable {prog:bA} {w:cA} {A:cE} {E:aB->aD->Prop} {s:aD}
theorem XJ {ks:List Int} {a:Addr} {Q:Bool->aD->Prop} (hk:IsTupleKey (intKind prog w) s.heap ks a) (q:Q false s):wpAny (model prog w) A (ofAClassStatement 8 (.ref a)) Q E s:=by
 have hT:=hk.typeIs
 obtain⟨o,items,n,ho,_,hd,hi⟩:=hk
 unfold ofAClassStatement
 refine aA (pL hT ?_)
 dsimp only
 rw[if_pos (by decide)]
 refine aA (aK ?_)
 simp only[eS,aP,if_false]
 refine aA (iH ho hd ?_)
 try dsimp only
 refine aA ?_
 rw[<-CL]
 refine mY _ (λrest r s'=>r.1=none/\s'=s/\∀v∈rest,carriedByValue v=true) _ ?_ ?_ _ _ ⟨rfl,rfl,hi.byValue⟩
 ·rintro v rest r s' ⟨hr,rfl,hall⟩
  have hv:=hall v cI
  have e:ofAClassStatement 7 v=pure false:=by
   cases v with
   | ref a=>simp[carriedByValue] at hv
   | _=>first | rfl | (unfold ofAClassStatement;rfl)
  rw[e]
  refine aA (aK ?_)
  simp only[aP,if_false]
  exact aK ⟨rfl,rfl,λu hu'=>hall u (bD _ hu')⟩
 ·rintro⟨r1,r2⟩ s' ⟨hr,rfl,_⟩
  simp only at hr
  subst hr
  exact aK q
theorem Ad {ks:List Int} {a:Addr} {Q:Bool->aD->Prop} (hk:IsTupleKey (intKind prog w) s.heap ks a) (q:Q true s):wpAny (model prog w) A (hashByValue 8 (.ref a)) Q E s:=by
 have hT:=hk.typeIs
 obtain⟨o,items,n,ho,_,hd,hi⟩:=hk
 unfold hashByValue
 refine aA (lC hT F.slot_tuple_hash.lookup ?_)
 try dsimp only
 refine aA (iH ho hd ?_)
 try dsimp only
 refine aA ?_
 show wpAny _ _ (forIn items _ _) _ _ s
 rw[<-CL]
 refine mY _ (λrest r s'=>r.1=none/\s'=s/\∃ks',ItemsAre (intKind prog w) ks' rest) _ ?_ ?_ _ _ ⟨rfl,rfl,ks,hi⟩
 ·rintro v rest r s' ⟨hr,rfl,ks',hall⟩
  cases hall with
  | @cons k _ ks'' _ h1 h2 =>
   have e:hashByValue 7 v=pure true:=by
    obtain⟨t,rfl⟩:∃t,v = .int k t:=by
     cases v <;> simp[intKind,yW] at h1
     exact⟨_,by rw[h1]⟩
    rfl
   rw[e]
   refine aA (aK ?_)
   simp only[eS,aP,if_false]
   exact aK ⟨rfl,rfl,_,h2⟩
 ·rintro⟨r1,r2⟩ s' ⟨hr,rfl,_⟩
  simp only at hr
  subst hr
  exact aK q
theorem Oc {ks:List Int} {a:Addr} {stored:List aB} {Q:Bool->aD->Prop} (hk:IsTupleKey (intKind prog w) s.heap ks a) (hs:∀y∈stored,∃ks' b,y = .ref b/\IsTupleKey (intKind prog w) s.heap ks' b) (q:Q false s) :
  wpAny (model prog w) A (searchCouldBeSeen (.ref a) stored) Q E s:=by
 unfold searchCouldBeSeen
 refine aA ?_
 refine mY _ (λrest r s'=>r.1=none/\s'=s/\∀y∈rest,y∈stored) _ ?_ ?_ _ _ ⟨rfl,rfl,λ_ h=>h⟩
 ·rintro v rest r s' ⟨hr,rfl,hall⟩
  obtain⟨ks',b,rfl,hb⟩:=hs v (hall v cI)
  have hall':∀y∈rest,y∈stored:=λu hu'=>hall u (bD _ hu')
  dsimp only
  by_cases hv:((a == b) || (carriedByValue (cU a) && carriedByValue (cU b)))=true
  ·rw[if_pos hv]
   exact aK ⟨rfl,rfl,hall'⟩
  ·rw[if_neg hv]
   refine aA (yC hk ?_)
   simp only[eS,aP,if_false]
   refine aA (yC hb ?_)
   simp only[eS,aP,if_false]
   refine aA (XJ hk ?_)
   simp only[aP,if_false]
   refine aA (XJ hb ?_)
   simp only[aP,if_false]
   exact aK ⟨rfl,rfl,hall'⟩
 ·rintro⟨r1,r2⟩ s' ⟨hr,rfl,_⟩
  simp only at hr
  subst hr
  exact aK q
def kW (w:cA):Bool:=w.params.followText "set-order"
def Pf (prog:bA) (w:cA) (h:Heap) (es:Array (Int × aB)):Prop:=∀e∈es.toList,∃ks b,e=(tupleKeyHash (intKind prog w) ks,.ref b)/\IsTupleKey (intKind prog w) h ks b
def Gd (mask n:Nat):Prop:=(mask=7/\n<=4)\/(mask=31/\n<=18)\/(mask=127/\n<=76)
def lN (es:Array (Int × aB)) (ep:Nat) (t:SetTable):Obj:={ cls:=.type "set",dict:=none,data:=.set es ep t }
theorem TabOk.fits {t:SetTable} {n:Nat} (T:TabOk t n):t.fits n=true:=by
 unfold SetTable.fits fill
 rw[T.dum,T.size]
 simp
 exact T.room
theorem Ia {mask n:Nat} (h:Gd mask n):(mask % 2 == 0)=false:=by
 rcases h with ⟨rfl,_⟩ | ⟨rfl,_⟩ | ⟨rfl,_⟩ <;> rfl
def KeyL (prog:bA) (w:cA) (h:Heap):List (Int × aB)->List (List Int)->Prop
 | [],[]=>True
 | e::es,k::ks=>(∃b,e=(tupleKeyHash (intKind prog w) k,.ref b)/\IsTupleKey (intKind prog w) h k b)/\KeyL prog w h es ks
 | _,_=>False
theorem KeyL.get {h:Heap}:∀{es:List (Int × aB)} {kss:List (List Int)} {i:Nat} {e:Int × aB},KeyL prog w h es kss->es[i]? = some e->∃k,kss[i]? = some k/\∃b,e=(tupleKeyHash (intKind prog w) k,.ref b)/\IsTupleKey (intKind prog w) h k b
 | _::_,k::_,0,_,K,e=>by cases e;exact⟨k,rfl,K.1⟩
 | _::es,_::ks,i+1,_,K,e=>KeyL.get (es:=es) (kss:=ks) (i:=i) K.2 e
 | [],_,_,_,_,e=>by cases e
theorem KeyL.len {h:Heap}:∀{es:List (Int × aB)} {kss:List (List Int)},KeyL prog w h es kss->es.length=kss.length
 | [],[],_=>rfl
 | _::_,_::_,K=>congrArg (· + 1) (KeyL.len K.2)
theorem KeyL.mono {h h':Heap}:∀{es:List (Int × aB)} {kss:List (List Int)},KeyL prog w h es kss->(∀k b,(∃e∈es,e.2 = .ref b)->IsTupleKey (intKind prog w) h k b->IsTupleKey (intKind prog w) h' k b)->KeyL prog w h' es kss
 | [],[],_,_=>trivial
 | _::_,_::_,⟨⟨b,e,hb⟩,K⟩,m=>⟨⟨b,e,m _ b ⟨_,.head _,by rw[e]⟩ hb⟩,K.mono λk b ⟨x,hx,ex⟩ q=>m k b ⟨x,.tail _ hx,ex⟩ q⟩
theorem KeyL.perm {h:Heap} {es es':List (Int × aB)} (p:es.Perm es'):∀{kss:List (List Int)},KeyL prog w h es kss->∃kss',kss.Perm kss'/\KeyL prog w h es' kss':=by
 induction p with
 | nil=>exact λ{kss} K=>⟨kss,.refl _,K⟩
 | cons x _ ih =>
  intro kss K
  cases kss with
  | nil=>exact K.elim
  | cons k kss =>
   obtain⟨kss',p',K'⟩:=ih K.2
   exact⟨k::kss',.cons k p',K.1,K'⟩
 | swap x y l =>
  intro kss K
  cases kss with
  | nil=>exact K.elim
  | cons k kss =>
   cases kss with
   | nil=>exact K.2.elim
   | cons k' kss=>exact⟨k'::k::kss,.swap _ _ _,K.2.1,K.1,K.2.2⟩
 | trans _ _ ih1 ih2 =>
  intro kss K
  obtain⟨k1,p1,K1⟩:=ih1 K
  obtain⟨k2,p2,K2⟩:=ih2 K1
  exact⟨k2,p1.trans p2,K2⟩
theorem QU {S a:Addr} {ks:List Int} {es:Array (Int × aB)} {ep:Nat} {t:SetTable} {Q:SetFound->aD->Prop} (hu:A.units<cLine) (ho:s.heap.get? S=some (lN es ep t)) (T:TabOk t es.size) (hf:Gd t.mask es.size) (he:Pf prog w s.heap es)
  (hk:IsTupleKey (intKind prog w) s.heap ks a) (q1:(∃e∈es.toList,∃b,e.2 = .ref b/\IsTupleKey (intKind prog w) s.heap ks b)->Q (.there none) s) {kss:List (List Int)} (KL:KeyL prog w s.heap es.toList kss) (q2:∀j,t.slot j = .empty->Via t.mask (Occ t) j (stP t.mask (tupleKeyHash (intKind prog w) ks))->ks ∉ kss->Q (.free j false) s) :
  ∀(fuel:Nat) (stand:Option Probe) (m:Nat),PB t (stand.getD (t.probeStart (tupleKeyHash (intKind prog w) ks))) m->JE (stand.getD (t.probeStart (tupleKeyHash (intKind prog w) ks))) m<10*turns t.mask->JE (stand.getD (t.probeStart (tupleKeyHash (intKind prog w) ks))) m<fuel ->
   (∀x,Via t.mask (Occ t) x (stand.getD (t.probeStart (tupleKeyHash (intKind prog w) ks)))->Via t.mask (Occ t) x (stP t.mask (tupleKeyHash (intKind prog w) ks)))->(∀j1 i1:Nat,t.place[i1]? = some j1->kss[i1]? = some ks->Via t.mask (Occ t) j1 (stand.getD (t.probeStart (tupleKeyHash (intKind prog w) ks)))) ->
   wpAny (model prog w) A (setSearchFrom S (.ref a) (tupleKeyHash (intKind prog w) ks) true fuel stand) Q E s
 | 0,_,_,_,_,h,_,_=>absurd h (nV _)
 | fuel+1,stand,m,hi,hm,hl,v1,v2=>by
  have hashAt:∀i1:Nat,kss[i1]? = some ks->(es[i1]?.map (·.1)).getD 0=tupleKeyHash (intKind prog w) ks:=λi1 e1=>by
   have lt:i1<es.toList.length:=by rw[KL.len];exact (aX.mp e1).1
   obtain⟨k,g1,b,g2,_⟩:=KL.get (aC lt)
   rw[e1] at g1;cases g1
   have:es[i1]? = some es.toList[i1]:=by rw[<-fV,aC lt]
   rw[this,g2];rfl
  unfold setSearchFrom
  refine aA (gR ho rfl T.fits ?_)
  dsimp only
  rw[if_neg (by unfold SetTable.gaveWay;rw[Ia hf];exact bS)]
  unfold probe
  rcases QK T.dum _ (tupleKeyHash (intKind prog w) ks) (10*turns t.mask) _ m hi hm with ⟨j,e,ej,w1,w2⟩ | ⟨j,i,next,m',e,ej,ep',hi',hm',w1,w2⟩
  ·rw[e]
   dsimp only
   refine aK (q2 j ej (v1 _ w1) λhk'=>?_)
   obtain⟨i1,lt,e1⟩:=eK hk'
   have e1:kss[i1]? = some ks:=by rw[aC lt,e1]
   have lp:i1<t.place.size:=by rw[T.size,<-bQ,KL.len];exact lt
   have ep1:t.place[i1]? = some t.place[i1]:=aW lp
   exact w2 _ i1 (HY T.ris ep1) (hashAt i1 e1) (v2 _ i1 ep1 e1)
  ·rw[e]
   dsimp only
   have hil:i<es.size:=by
    have:=(gO.mp ep').1
    rw[T.size] at this;exact this
   have ei:es[i]? = some es[i]:=aW hil
   have mi:es[i]∈es.toList:=by simp
   obtain⟨ks',kk',b,ee,hb⟩:=KL.get (i:=i) (e:=es[i]) (by rw[fV];exact ei)
   have rest:wpAny (model prog w) A (match es[i]? with
    | some (fst,y)=>do
     let equal <-holding [y] (eqBool y (cU a))
     let __x <-setState S
     if (true && equal)=true then pure (KK none)
      else
       match __x.2.snd.sameMemory t.moves t.mask with
       | some same =>
        let still <-match if same=true then __x.2.snd.slot j else Slot.empty with
        | Slot.live i' =>
         match __x.fst[i']? with
         | some (fst,y')=>do pure (if <-isSame y' y then some i' else none)
         | none=>pure none
        | _=>pure none
        match still with
        | none=>do
         rule "set.search.anew"
         setSearchFrom S (cU a) (tupleKeyHash (intKind prog w) ks) true fuel none
        | some i' =>
         if equal=true then pure (KK (some i'))
         else setSearchFrom S (cU a) (tupleKeyHash (intKind prog w) ks) true fuel (some next)
       | _=>unsupported "set.changed-during-lookup:is-the-new-block-at-the-old-address"
    | _=>unsupported "internal:set-entry") Q E s:=by
    rw[ei,ee]
    dsimp only
    refine aA (dC (wpAny_eqBool_tuple hu hb hk ?_))
    refine aA (gR ho rfl T.fits ?_)
    dsimp only
    by_cases hkk:ks'=ks
    ·subst hkk
     rw[if_pos (by simp)]
     exact aK (q1 ⟨_,mi,b,by rw[ee],hb⟩)
    ·rw[if_neg (by simp[hkk])]
     have sm:t.sameMemory t.moves t.mask=some true:=by unfold sameMemory;rw[if_pos (by simp)]
     rw[sm]
     dsimp only
     rw[if_pos rfl,ej]
     dsimp only
     rw[ei,ee]
     dsimp only
     refine aA ?_
     have same:isSame (.ref b) (.ref b)=pure true:=by
      show (if (b == b)=true then pure true else _)=_
      rw[if_pos (by simp)]
     rw[same]
     refine aK (aA (aK ?_))
     rw[if_pos rfl]
     dsimp only
     rw[if_neg (by simp[hkk])]
     refine QU hu ho T hf he hk q1 KL q2 fuel (some next) m' hi' (mQ hm' hm) (by simp only[kJ];omega) (λx v=>v1 x (w1 x v)) λj1 i1 e1 k1=>?_
     have sl:=HY T.ris e1
     rcases w2 j1 i1 sl (hashAt i1 k1) (v2 j1 i1 e1 k1) with rfl | h
     ·rw[sl] at ej;cases ej
      rw[k1] at kk';cases kk'
      exact absurd rfl hkk
     ·exact h
   cases hled:t.led with
   | true =>
    simp only[eS,aP,if_false]
    exact rest
   | false =>
    simp only[lW,if_true]
    refine aA (Oc hk ?_ ?_)
    ·intro y hy
     obtain⟨e0,he0,rfl⟩:=cK.mp hy
     have:=(Array.mem_filter.mp (fH.mp he0)).1
     obtain⟨ks1,b1,e1,h1⟩:=he e0 (fH.mpr this)
     exact⟨ks1,b1,by rw[e1],h1⟩
    ·simp only[aP,if_false]
     exact rest
structure SetTup (prog:bA) (w:cA) (h:Heap) (S:Addr) (es:Array (Int × aB)):Prop where
 tab:∃ep t,h.get? S=some (lN es ep t)/\TabOk t es.size/\Gd t.mask es.size/\t.led = !kW w/\t.plain=true/\Chn t es.toList
 els:Pf prog w h es
 dis:∃kss,KeyL prog w h es.toList kss/\kss.Nodup
theorem oG {h h':Heap} {ks:List Int} {S b:Addr} {es:Array (Int × aB)} {ep:Nat} {t:SetTable} (hS:h.get? S=some (lN es ep t)) (up:∀b o,b≠S->h.get? b=some o->h'.get? b=some o) (hk:IsTupleKey (intKind prog w) h ks b):IsTupleKey (intKind prog w) h' ks b:=by
 obtain⟨o,items,n,ho,hc,hd,hi⟩:=hk
 refine⟨o,items,n,up b o ?_ ho,hc,hd,hi⟩
 rintro rfl
 rw[hS] at ho;cases ho
 exact nomatch hd
theorem VA {n:Nat} (h:n<100):KM n=n*4:=by
 unfold KM;rw[if_neg (by omega)]
theorem Ab {S a:Addr} {ks:List Int} {es:Array (Int × aB)} {Q:Bool->aD->Prop} (hu:A.units<cLine) (H:SetTup prog w s.heap S es) (hk:IsTupleKey (intKind prog w) s.heap ks a) (hn:es.size<76)
  (q:∀b h' tk es',SetTup prog w h' S es'->(∀y∈es'.toList,y∈es.toList\/y.2 = .ref a)->(∀y∈es.toList,y∈es'.toList)->(∃y∈es'.toList,∃b,y.2 = .ref b/\IsTupleKey (intKind prog w) h' ks b)->es'.size<=es.size+1 ->
   (∀b o,b≠S->s.heap.get? b=some o->h'.get? b=some o)->h'.objs.size=s.heap.objs.size->s.toks<=tk->Q b { s with heap:=h',toks:=tk }) :
  wpAny (model prog w) A (setAdd S (.ref a)) Q E s:=by
 obtain⟨⟨ep,t,ho,T,hf,hled,hpl,hchn⟩,hels,kss,KL,knd⟩:=H
 unfold setAdd
 refine dC (aA (wpAny_pyHash_tuple hu hk ?_))
 unfold setAddHashed
 refine dC ?_
 unfold setAddHashedIn
 refine aA (gR (s:={ s with toks:=s.toks+(ks.length+1) }) ho rfl T.fits ?_)
 dsimp only
 have nb:byScan (.ref a) es=false:=by unfold byScan;simp[Value.scannable]
 rw[nb]
 simp only[aP,if_false]
 obtain⟨m,hi,hm⟩:=Ft T (tupleKeyHash (intKind prog w) ks)
 have hm2:JE (t.probeStart (tupleKeyHash (intKind prog w) ks)) m<100000:=by
  refine aV hm ?_
  unfold turns
  rcases hf with ⟨e,_⟩ | ⟨e,_⟩ | ⟨e,_⟩ <;> rw[e] <;> decide
 unfold setSearch
 refine aA (QU (s:={ s with toks:=s.toks+(ks.length+1) }) hu ho T hf hels hk ?_ KL ?_ 100000 none m hi hm hm2 (λx v=>v) ?_)
 ·rintro⟨e,he,b,e2,hb⟩
  dsimp only
  refine aK ?_
  exact q false s.heap _ es ⟨⟨ep,t,ho,T,hf,hled,hpl,hchn⟩,hels,kss,KL,knd⟩ (λy hy=>eD hy) (λy hy=>hy) ⟨e,he,b,e2,hb⟩ (by omega) (λb o _ e=>e) rfl (by show s.toks<=s.toks+_;omega)
 ·intro j hj hvia hnk
  dsimp only
  refine aA (gR (s:={ s with toks:=s.toks+(ks.length+1) }) ho rfl T.fits ?_)
  dsimp only
  have room:es.size+1<=t.mask:=by rcases hf with ⟨e,h⟩ | ⟨e,h⟩ | ⟨e,h⟩ <;> omega
  obtain⟨T1,p1,p2,p3,p4,p5,p6⟩:=Rm T hj room
  rw[p5,hpl]
  simp only[if_true]
  refine aA (Ad (s:={ s with toks:=s.toks+(ks.length+1) }) hk ?_)
  simp only[if_true]
  rw[p1]
  have sz:=BI es (below t.place j) (tupleKeyHash (intKind prog w) ks,cU a) p2
  have mem:=FP es (below t.place j) (tupleKeyHash (intKind prog w) ks,cU a) p2
  have chn1:=Lg (e:=(tupleKeyHash (intKind prog w) ks,cU a)) T T1 hchn hvia
  have per1:=PySem.SetTable.insertAt_perm es (below t.place j) (tupleKeyHash (intKind prog w) ks,cU a)
  rw[tH] at per1
  have per1:=(per1.trans (xU (l₁:=es.toList) (l₂:=[_]))).symm
  generalize insertAt es (below t.place j) (tupleKeyHash (intKind prog w) ks,cU a)=es1 at sz mem chn1 per1
  refine aA (GD (s:={ s with toks:=s.toks+(ks.length+1) }) ho rfl ?_ (by rw[sz,eX];omega))
  have up1:∀b o,b≠S->s.heap.get? b=some o->(s.heap.update S (mG es1 (t.put j).1)).get? b=some o:=λb o hb e=>(bO _ _ (Ne.symm hb)).trans e
  obtain⟨ep1,g1⟩:∃ep1,(s.heap.update S (mG es1 (t.put j).1)).get? S=some (lN es1 ep1 (t.put j).1):=⟨_,dD _ ho rfl⟩
  have z1:(s.heap.update S (mG es1 (t.put j).1)).objs.size=s.heap.objs.size:=(nA ..).1
  generalize s.heap.update S (mG es1 (t.put j).1)=h1 at up1 g1 z1
  have els1:Pf prog w h1 es1:=by
   intro e he
   rcases (mem e).mp he with rfl | he
   ·exact⟨ks,a,rfl,oG ho up1 hk⟩
   ·obtain⟨ks',b,r1,r2⟩:=hels e he
    exact⟨ks',b,r1,oG ho up1 r2⟩
  obtain⟨kss1,kp1,KL1⟩:=KeyL.perm per1 (kss:=ks::kss) ⟨⟨a,rfl,oG ho up1 hk⟩,KL.mono λk b _ q=>oG ho up1 q⟩
  have knd1:kss1.Nodup:=kp1.nodup_iff.mp (fL.mpr ⟨hnk,knd⟩)
  have T1':TabOk (t.put j).1 es1.size:=by rw[sz];exact T1
  have fill1:(t.put j).1.fill=es1.size:=by unfold fill;rw[T1'.size,T1'.dum];simp
  by_cases tf:(t.put j).1.tooFull=true
  ·rw[tf]
   simp only[lW,Bool.and_self,if_true]
   have tf':=tf
   unfold tooFull at tf'
   rw[fill1,p3,sz] at tf'
   simp only[ge_iff_le,decide_eq_true_eq] at tf'
   have cases2:(t.mask=7/\es.size=4)\/(t.mask=31/\es.size=18):=by rcases hf with ⟨e,h⟩ | ⟨e,h⟩ | ⟨e,h⟩ <;> omega
   unfold setRelay
   refine aA (aA (gR (s:={ s with heap:=h1,toks:=s.toks+(ks.length+1) }) g1 rfl T1'.fits ?_))
   dsimp only
   have hw:SetTable.sizeAbove (grown (es.size+1))=(if t.mask=7 then 32 else 128):=by
    rw[VA (by omega)]
    rcases cases2 with ⟨e,h⟩ | ⟨e,h⟩ <;> rw[e,h] <;> decide
   rw[if_neg (by rw[hw,eX];split <;> decide)]
   have R:Round ((if t.mask=7 then 31 else 127)+1):=by
    split
    ·exact Nz
    ·exact Kq
   obtain⟨t2,order,l1,T2,l3,l4,l5,l6⟩:=Mm R (t.put j).1.finger ((t.put j).1.movedTo (if t.mask=7 then 31 else 127)) (t.put j).1.led (t.put j).1.plain (es1.map (·.1)) (by rw[yF,sz];rcases cases2 with ⟨e,h⟩ | ⟨e,h⟩ <;> rw[e,h] <;> decide)
   have er:(t.put j).1.relaid (es1.map (·.1)) (grown (es.size+1))=some (t2,order):=by
    unfold relaid
    rw[hw]
    have:(if t.mask=7 then 32 else 128)-1=(if t.mask=7 then 31 else 127):=by split <;> rfl
    rw[this];exact l1
   rw[er]
   rw[yF] at T2 l6
   have esl:(order.filterMap (es1[·]?)).toList.Perm es1.toList:=by
    rw[vV]
    refine (l6.filterMap _).trans ?_
    have:(cV es1.size).filterMap (es1[·]?)=es1.toList:=by
     apply tL
     intro i
     have key:∀n,n<=es1.size->(cV n).filterMap (es1[·]?)=es1.toList.take n:=by
      intro n
      induction n with
      | zero=>intro _;rfl
      | succ n ih =>
       intro hn
       rw[wZ,xS,ih (by omega)]
       have:es1[n]? = some es1[n]:=aW (by omega)
       simp only[cL,this,List.filterMap_nil]
       rw[oV]
       simp[show n<es1.size by omega]
     rw[key _ (aZ _),<-bQ,uV]
    rw[this]
   have es2sz:(order.filterMap (es1[·]?)).size=es1.size:=by rw[<-bQ,esl.length_eq,bQ]
   have hne:((order.filterMap (es1[·]?)).size != es1.size)=false:=by rw[es2sz];simp
   refine aA ?_
   show wpAny _ _ (if ((order.filterMap (es1[·]?)).size != es1.size)=true then (unsupported "internal:set-table-lost-an-element" >>= λ_=>pure (order.filterMap (es1[·]?),t2)) else pure (order.filterMap (es1[·]?),t2)) _ _ _
   rw[hne]
   simp only[aP,if_false]
   refine aK ?_
   dsimp only
   have mem2:∀y,y∈(order.filterMap (es1[·]?)).toList↔y∈es1.toList:=λy=>esl.mem_iff
   have chn2:Chn t2 (order.filterMap (es1[·]?)).toList:=by
    intro x hx
    rw[vV] at hx
    obtain⟨k,h1,h2⟩:=Kz _ _ (λk hk'=>by
     have:=eZ.mp (l6.mem_iff.mp hk')
     exact⟨_,aW this⟩) x hx
    obtain⟨hk',g1,g2⟩:=Ix l1 (by rw[yF];exact T2) _ h1
    have:hk'=x.2.1:=by
     have h2:es1[k]? = some x.2:=h2
     rw[fV,Array.getElem?_map,h2] at g1
     exact (dE g1).symm
    rw[<-this];exact g2
   obtain⟨kss2,kp2,KL2⟩:=KeyL.perm esl.symm KL1
   generalize order.filterMap (es1[·]?)=es2 at es2sz mem2 chn2 KL2
   refine GD (s:={ s with heap:=h1,toks:=s.toks+(ks.length+1) }) g1 rfl ?_ (by rw[es2sz,sz,eX];omega)
   have up2:∀b o,b≠S->s.heap.get? b=some o->(h1.update S (mG es2 t2)).get? b=some o:=λb o hb e=>(bO _ _ (Ne.symm hb)).trans (up1 b o hb e)
   have up12:∀b o,b≠S->h1.get? b=some o->(h1.update S (mG es2 t2)).get? b=some o:=λb o hb e=>(bO _ _ (Ne.symm hb)).trans e
   obtain⟨ep2,g2⟩:∃ep2,(h1.update S (mG es2 t2)).get? S=some (lN es2 ep2 t2):=⟨_,dD _ g1 rfl⟩
   have z2:(h1.update S (mG es2 t2)).objs.size=s.heap.objs.size:=((nA ..).1).trans z1
   refine aK (q true (h1.update S (mG es2 t2)) _ es2 ⟨⟨ep2,t2,g2,by rw[es2sz];exact T2,?_,by rw[l4,p4];exact hled,by rw[l5,p5];exact hpl,chn2⟩,?_,kss2,KL2.mono λk b _ q=>oG g1 up12 q,kp2.nodup_iff.mp knd1⟩ (λy hy=>?_) (λy hy=>(mem2 y).mpr ((mem y).mpr (eJ hy))) ⟨_,(mem2 _).mpr ((mem _).mpr (eD rfl)),a,rfl,oG ho up2 hk⟩ (by omega) up2 z2 (by show s.toks<=s.toks+_;omega))
   ·rw[l3,es2sz,sz]
    unfold Gd
    rcases cases2 with ⟨e,h⟩ | ⟨e,h⟩ <;> rw[e,h] <;> decide
   ·intro e he
    obtain⟨ks',b,r1,r2⟩:=els1 e ((mem2 e).mp he)
    exact⟨ks',b,r1,oG g1 up12 r2⟩
   ·rcases (mem y).mp ((mem2 y).mp hy) with rfl | h
    ·exact eJ rfl
    ·exact eD h
  ·have tf0:(t.put j).1.tooFull=false:=by simpa using tf
   rw[tf0]
   simp only[KB,aP,if_false]
   refine aK (q true h1 _ es1 ⟨⟨ep1,_,g1,T1',?_,by rw[p4];exact hled,by rw[p5];exact hpl,chn1⟩,els1,kss1,KL1,knd1⟩ (λy hy=>?_) (λy hy=>(mem y).mpr (eJ hy)) ⟨_,(mem _).mpr (eD rfl),a,rfl,oG ho up1 hk⟩ (by omega) up1 z1 (by show s.toks<=s.toks+_;omega))
   ·unfold tooFull at tf0
    rw[fill1,p3,sz] at tf0
    simp only[ge_iff_le,decide_eq_false_iff_not] at tf0
    rw[p3,sz]
    unfold Gd
    rcases hf with ⟨e,h⟩ | ⟨e,h⟩ | ⟨e,h⟩ <;> omega
   ·rcases (mem y).mp hy with rfl | h
    ·exact eJ rfl
    ·exact eD h
 ·intro j1 i1 e1 k1
  have lt:i1<es.toList.length:=by rw[KL.len];exact (aX.mp k1).1
  obtain⟨k,g1,b,g2,_⟩:=KL.get (aC lt)
  rw[k1] at g1;cases g1
  have:=hchn (j1,es.toList[i1]) (List.mem_iff_getElem?.mpr ⟨i1,by rw[sY];exact⟨by rw[fV];exact e1,aC lt⟩⟩)
  rw[g2] at this
  exact this
end
end
section
open PySem PySem.SetTable PyProof.Rows
section
variable {prog:bA} {w:cA} {A:cE} {E:aB->aD->Prop} {s:aD}
theorem SetTup.other {h h':Heap} {S:Addr} {es:Array (Int × aB)} (H:SetTup prog w h S es) (up:∀b o,h.get? b=some o->(∃e∈es.toList,e.2 = .ref b)\/b=S->h'.get? b=some o):SetTup prog w h' S es:=by
 obtain⟨⟨ep,t,ho,r⟩,els,kss,KL,nd⟩:=H
 refine⟨⟨ep,t,up _ _ ho (eJ rfl),r⟩,λe he=>?_,kss,KL.mono λk b hb ⟨o,items,n,h1,h2,h3,h4⟩=>⟨o,items,n,up b o h1 (eD hb),h2,h3,h4⟩,nd⟩
 obtain⟨ks,b,e1,o,items,n,h1,h2,h3,h4⟩:=els e he
 exact⟨ks,b,e1,o,items,n,up b o h1 (eD ⟨e,he,by rw[e1]⟩),h2,h3,h4⟩
structure SetDone (prog:bA) (w:cA) (items:Array aB) (key:Nat->List Int) (S:Addr) (i:Nat) (h:Heap):Prop where
 ex:∃es,SetTup prog w h S es/\(∀y∈es.toList,∃j,j<i/\items[j]? = some y.2)/\(∀j,j<i->∃y∈es.toList,∃b,y.2 = .ref b/\IsTupleKey (intKind prog w) h (key j) b)/\es.size<=i
theorem Kt {R:Result->aD->Prop} {I l:Addr} {items:Array aB} {key:Nat->List Int} {h0:Heap} (hh:A.in1.handled=none) (hne:l≠I) (hu:A.in1.units<cLine) (S:Addr) (hSI:S≠I) (hSl:S≠l)
  (hi:∀i v,items[i]? = some v->∃a,v = .ref a/\IsTupleKey (intKind prog w) h0 (key i) a/\a≠S/\a≠I) (hb:items.size<=76) :
  ∀(k i:Nat) (s:aD),items.size-i=k->i<=items.size->s.heap.IsListIter I l i/\s.heap.IsList l items->SetDone prog w items key S i s.heap ->
   (∀b o,b≠S->b≠I->h0.get? b=some o->s.heap.get? b=some o) ->
   (∀h' tk,SetDone prog w items key S items.size h'->(∀b o,b≠S->b≠I->h0.get? b=some o->h'.get? b=some o)->R (.ok (.ret .none)) { s with heap:=h',toks:=tk }) ->
   codeAny (model prog w) A (.builtin "set.update.loop" ⟨[.ref S,.ref I],[]⟩) R s:=by
 have W:=KN (prog:=prog) (w:=w) (A:=A.in1) hh I l hne items
 have wr:∀{b:Addr},b≠I->b ∉ [I]:=λh=>by simpa using h
 have keyAt:∀{h:Heap} {i:Nat} {a:Addr},(∀b o,b≠S->b≠I->h0.get? b=some o->h.get? b=some o)->IsTupleKey (intKind prog w) h0 (key i) a->a≠S->a≠I->IsTupleKey (intKind prog w) h (key i) a:=by
  intro h i a up hk n1 n2
  obtain⟨o,its,n,h1,h2,h3,h4⟩:=hk
  exact⟨o,its,n,up a o n1 n2 h1,h2,h3,h4⟩
 have move:∀{h h':Heap} {i:Nat},i<=items.size->SetDone prog w items key S i h->(∀b o,b≠I->h.get? b=some o->h'.get? b=some o)->SetDone prog w items key S i h':=by
  intro h h' i hi' ⟨es,D,d1,d2,d3⟩ up
  refine⟨es,D.other λb o e hm=>up b o ?_ e,d1,λj hj=>?_,d3⟩
  ·rcases hm with ⟨y,hy,ey⟩ | rfl
   ·obtain⟨j,hj,ej⟩:=d1 y hy
    obtain⟨a,ea,_,_,na⟩:=hi j y.2 ej
    rw[ey] at ea;cases ea;exact na
   ·exact hSI
  ·obtain⟨y,hy,b,e1,o,its,n,h1,h2,h3,h4⟩:=d2 j hj
   refine⟨y,hy,b,e1,o,its,n,up b o ?_ h1,h2,h3,h4⟩
   obtain⟨j',hj',ej⟩:=d1 y hy
   obtain⟨a,ea,_,_,na⟩:=hi j' y.2 ej
   rw[e1] at ea;cases ea;exact na
 intro k
 induction k with
 | zero =>
  intro i s hk hi' st D up hR
  have hin:i=items.size:=by omega
  subst hin
  refine eF F.entry_set_update_loop ?_
  rw[dJ F.plain_set_update_loop _]
  show wpAny _ A.in1 (pyNext (.ref I) >>= _) _ _ s
  refine aA (W.done s _ _ st λh' tk kp=>?_)
  show wpAny _ A.in1 (ret eM) _ _ _
  exact aK (hR h' tk (move (aZ _) D λb o hb e=>kp b o (wr hb) e) λb o n1 n2 e=>kp b o (wr n2) (up b o n1 n2 e))
 | succ k ih =>
  intro i s hk hi' st D up hR
  have hlt:i<items.size:=by omega
  refine eF F.entry_set_update_loop ?_
  rw[dJ F.plain_set_update_loop _]
  show wpAny _ A.in1 (pyNext (.ref I) >>= _) _ _ s
  refine aA (W.item i s _ _ hlt st λv h' tk hv st' kp=>?_)
  obtain⟨a,rfl,hka,na1,na2⟩:=hi i v hv
  obtain⟨es,D1,d1,d2,d3⟩:=move hi' D (λb o hb e=>kp b o (wr hb) e)
  have up':∀b o,b≠S->b≠I->h0.get? b=some o->h'.get? b=some o:=λb o n1 n2 e=>kp b o (wr n2) (up b o n1 n2 e)
  show wpAny _ A.in1 (holding [cU a] (setAdd S (.ref a)) >>= _) _ _ _
  refine aA (dC ?_)
  refine Ab (s:={ s with heap:=h',toks:=tk }) hu D1 (keyAt up' hka na1 na2) (by omega) λ_ h2 tk2 es2 D2 m1 m2 m3 m4 up2 z2 _=>?_
  refine aK ⟨fE F.plain_set_update_loop _,ih (i+1) _ (by omega) hlt ⟨st'.1.at λo e=>up2 _ o (Ne.symm hSI) e,st'.2.at λo e=>up2 _ o (Ne.symm hSl) e⟩ ?_ (λb o n1 n2 e=>up2 b o n1 (up' b o n1 n2 e)) λh3 tk3 D3 up3=>hR h3 tk3 D3 up3⟩
  refine⟨es2,D2,λy hy=>?_,λj hj=>?_,by omega⟩
  ·rcases m1 y hy with h | h
   ·obtain⟨j,hj,ej⟩:=d1 y h
    exact⟨j,by omega,ej⟩
   ·exact⟨i,by omega,by rw[h];exact hv⟩
  ·by_cases hji:j=i
   ·subst hji;exact m3
   ·obtain⟨y,hy,b,e1,o,its,n,h1,h2',h3,h4⟩:=d2 j (by omega)
    refine⟨y,m2 y hy,b,e1,o,its,n,up2 b o ?_ h1,h2',h3,h4⟩
    obtain⟨j',hj',ej⟩:=d1 y hy
    obtain⟨a',ea,_,na,_⟩:=hi j' y.2 ej
    rw[e1] at ea;cases ea;exact na
theorem XH (a:aB) {Q₁:aB->aD->Prop} (h:Q₁ (.ref s.heap.objs.size) { s with heap:=s.heap.push (lN #[] 0 (.fresh 0 0 (!kW w))) }) :
  codeAny (model prog w) A (.call (.builtin "set.__new__") ⟨[.type "set",a],[]⟩) (wants Q₁ E) s:=by
 apply xG
 show wpAny _ A.in1 (checkBuiltinCall "set.__new__" ⟨[.type "set",a],[]⟩ >>= λ_=>again (.builtin "set.__new__" ⟨[.type "set",a],[]⟩)) _ _ s
 apply aA;refine oJ (PySem.F.newCall_set_1 a) (aK ⟨fE xW _,eF PySem.F.entry_set_new ?_⟩)
 rw[dJ xW _];unfold Builtin.«set.__new__» Builtin.Frozenset.newClass
 have hsub:=sub_set_self
 obtain⟨hp,g,d,tk,os⟩:=s;dsimp only;wp_walk
 refine mW (aK ?_);dsimp only;simp only[newObj]
 apply aA;refine wpAny_alloc (aK ?_)
 exact aK h
theorem Fv (b:Bool):TabOk (.fresh 0 0 b) 0:=⟨rfl,rfl,dY _,Ry,jU⟩
def VX (l:Addr):Obj:={ cls:=.type "list_iterator",data:=.fields #[.ref l,.int 0 0] }
theorem OL {l:Addr} {items:Array aB} {key:Nat->List Int} {Q:aB->aD->Prop} (hh:A.handled=none) (hu:A.units+8<cLine) (hl:s.heap.IsList l items)
  (hi:∀i v,items[i]? = some v->∃a,v = .ref a/\IsTupleKey (intKind prog w) s.heap (key i) a) (hb:items.size<=76)
  (q:∀h' tk,SetDone prog w items key s.heap.objs.size items.size h'->(∀b o,s.heap.get? b=some o->h'.get? b=some o)->Q (.ref s.heap.objs.size) { s with heap:=h',toks:=tk }) :
  wpAny (model prog w) A (call (.type "set") [.ref l]) Q E s:=by
 obtain⟨c,tl,hmro⟩:=PySem.F.called_set.mro
 have hmade:=PySem.F.called_set.made;have hsub:=PySem.F.called_set.sub
 apply qH;apply xG
 show wpAny _ _ (callAny (.type "set") _) _ _ _
 refine aK ⟨nX _ (by decide +kernel),eF PySem.F.entry_type_call ?_⟩;rw[Around.under_plain (weight_type_call_type "set" [.ref l] []) rfl]
 have h1:=PySem.F.called_set.notType;have h2:=PySem.F.called_set.canCreate;have hct:=PySem.F.typeCall_set_1 (.ref l)
 repeat (any_goals (first | assumption | wp_step))
 refine jX (XH (.ref l) (E:=E) (Q₁:=λobj s₁=>obj = .ref s.heap.objs.size/\s₁ = { s with heap:=s.heap.push (lN #[] 0 (.fresh 0 0 (!kW w))) }) ⟨rfl,rfl⟩) λr s₁ hr=>?_
 match r,hr with
 | .error e,hr=>exact hr
 | .ok (.ret obj),hr =>
  obtain⟨rfl,rfl⟩:=hr
  have hS:(s.heap.push (lN #[] 0 (.fresh 0 0 (!kW w)))).get? s.heap.objs.size=some (lN #[] 0 (.fresh 0 0 (!kW w))):=bX _ rfl
  have zS:(s.heap.push (lN #[] 0 (.fresh 0 0 (!kW w)))).objs.size=s.heap.objs.size+1:=kF ..
  have kS:∀b o,s.heap.get? b=some o->(s.heap.push (lN #[] 0 (.fresh 0 0 (!kW w)))).get? b=some o:=λb o e=>aJ _ e
  have hT:OG { s with heap:=s.heap.push (lN #[] 0 (.fresh 0 0 (!kW w))) } (.ref s.heap.objs.size) "set":=⟨_,hS,rfl⟩
  have hli:=PySem.F.called_set.init.lookup;have hbi:=PySem.F.called_set.init.bind (.ref s.heap.objs.size)
  repeat (any_goals (first | assumption | wp_step))
  generalize s.heap.push (lN #[] 0 (.fresh 0 0 (!kW w)))=h2 at hS zS kS hT
  refine jX (iE (R:=wants (λr s₂=>r = .none/\∃h' tk,s₂ = { s with heap:=h',toks:=tk }/\SetDone prog w items key s.heap.objs.size items.size h'/\(∀b o,s.heap.get? b=some o->h'.get? b=some o)) E) PySem.F.called_set.init.plain PySem.F.entry_set_init (check_set_init_1 hT ?_)) λr₂ s₂ hr₂=>?_
  ·obtain⟨ol,hol,hcl,nl,hdl⟩:=hl
   obtain⟨ocls,odict,odata,oslots⟩:=ol
   simp only at hcl hdl;subst hcl;subst hdl
   have hol2:=kS _ _ hol
   have hsls:=PySem.F.sub_list_set;have hslf:=PySem.F.sub_list_frozenset
   have hne:(gE "list" == gE "dict")=false:=by decide
   have hl1:h2.IsList l items:=⟨_,hol2,rfl,nl,rfl⟩
   have lt:l<s.heap.objs.size:=aO hol
   unfold Builtin.«set.__init__» noKeywords Builtin.Frozenset.updateFrom;generalize hPI:pyIter=PI
   unfold lN at hS
   wp_walk
   subst hPI
   refine pK hl1 ?_
   apply aA;apply NY;rw[zS]
   have zI:(h2.push (VX l)).get? (s.heap.objs.size+1)=some (VX l):=by rw[<-zS];exact bX _ rfl
   have kI:∀b o,h2.get? b=some o->(h2.push (VX l)).get? b=some o:=λb o e=>aJ _ e
   show codeAny _ _ _ _ { s with heap:=h2.push (VX l) }
   generalize h2.push (VX l)=h3 at zI kI
   have ne1:∀{b:Addr} {o:Obj},s.heap.get? b=some o->b≠s.heap.objs.size/\b≠s.heap.objs.size+1:=λe=>⟨aR (aO e),aR (fA (aO e))⟩
   refine Kt (A:=A.in1.in1) (s:={ s with heap:=h3 }) (key:=key) (h0:=s.heap) (by simp[hh]) (aR (fA lt)) (by show A.units+3<cLine;omega) s.heap.objs.size (aR (mP _)) (jB lt) (λi v e=>?_) hb items.size 0 (ET _) (dY _) ⟨⟨_,zI,rfl,rfl⟩,hl1.at λo e=>kI _ o e⟩ ?_ (λb o _ _ e=>kI b o (kS b o e)) λh' tk D up=>?_
   ·obtain⟨a,rfl,hk⟩:=hi i v e
    refine⟨a,rfl,hk,?_⟩
    obtain⟨o,_,_,ho,_⟩:=hk
    exact ne1 ho
   ·exact⟨#[],⟨⟨0,_,kI _ _ hS,Fv _,eD ⟨rfl,dY _⟩,rfl,rfl,(λx hx=>by cases hx)⟩,(λe he=>by simp at he),[],trivial,.nil⟩,λy hy=>by simp at hy,λj hj=>absurd hj (nV _),dY _⟩
   ·show wpAny _ _ _ _ _ _
    apply aK
    show wpAny _ _ (ret eM) _ _ _
    exact aK ⟨rfl,h',tk,rfl,D,λb o e=>up b o (ne1 e).1 (ne1 e).2 e⟩
  ·match r₂,hr₂ with
   | .error e,hr₂=>exact hr₂
   | .ok (.ret r),hr₂ =>
    obtain⟨rfl,h',tk,rfl,D,up⟩:=hr₂
    repeat (any_goals (first | assumption | wp_step))
    exact q _ _ D up
end
theorem Ca {α:Type} (next:Nat->Nat):∀(fuel k:Nat) (left:List α) (out:Array α),left.length<=fuel->(FV next fuel k left out).toList.Perm (out.toList++left)
 | 0,k,left,out,h=>by
  have:left=[]:=List.eq_nil_of_length_eq_zero (by omega)
  subst this
  simp[FV]
 | fuel+1,k,left,out,h=>by
  unfold FV
  cases e:left[next k % left.length]? with
  | none =>
   dsimp only
   have:left=[]:=by
    cases left with
    | nil=>rfl
    | cons x r =>
     have:=List.getElem?_eq_none_iff.mp e
     have:=kQ (next k) (show 0<(x::r).length by simp)
     omega
   subst this;simp
  | some x =>
   dsimp only
   have hi:next k % left.length<left.length:=(aX.mp e).1
   refine (Ca next fuel (k+1) (left.eraseIdx (next k % left.length)) (out.push x) (by rw[List.length_eraseIdx_of_lt hi];omega)).trans ?_
   rw[tH,fT]
   refine xP _ ?_
   have ex:left[next k % left.length]=x:=(aX.mp e).2
   have el:left=left.take (next k % left.length)++x::left.drop (next k % left.length+1):=by
    rw[<-ex,<-fQ hi,fW]
   rw[List.eraseIdx_eq_take_drop_succ]
   conv=>rhs;rw[el]
   rw[xV];exact (GP (a:=x)).symm
theorem Fg {α:Type} (next:Nat->Nat) (xs:Array α):(pickOrder next xs).toList.Perm xs.toList:=by
 have:=Ca next xs.size 0 xs.toList #[] (by simp)
 simpa [pickOrder] using this
theorem Jp:Manifest.owners.lookup (String.ofList ['r','o','t','a','r','e','t','i','_','t','e','s'].reverse)=some Manifest.sig_set_iterator:=by kernel_rfl
theorem pH:Slot "set_iterator" "__next__" "set_iterator.__next__" :=
 .of (owner:="set_iterator") (n:="__next__") (by rw[xN,pT];kernel_rfl) (by decide +kernel) (by decide +kernel) (by decide +kernel) (by first | exact .inl (by decide +kernel) | exact .inr (by decide +kernel)) (by rw[LS];kernel_rfl)
theorem BF:entryFor table "set_iterator.__next__" = some Builtin.«set_iterator.__next__»:=entryFor_of_tree (by kernel_rfl)
theorem FA (a:aB):argsOk "set_iterator.__next__" ⟨[a],[]⟩:=by
 unfold argsOk;rw[signature?_of (id:="set_iterator.__next__") (n:=['_','_','t','x','e','n','_','_']) (o:=['r','o','t','a','r','e','t','i','_','t','e','s']) (by kernel_rfl) Jp];kernel_rfl
theorem RY:entryFor table "set.__iter__" = some Builtin.«frozenset.__iter__»:=entryFor_alias (id':="frozenset.__iter__") (by kernel_rfl) rfl (by decide +kernel) (by kernel_rfl)
section
variable {prog:bA} {w:cA} {A:cE} {E:aB->aD->Prop} {s:aD}
def iT (w:cA) (S:Addr) (ep:Nat) (es:Array (Int × aB)):Array (Int × aB):=if kW w=true then pickOrder (w.params.setOrder S ep) es else es
theorem IA (S:Addr) (ep:Nat) (es:Array (Int × aB)):(iT w S ep es).toList.Perm es.toList:=by
 unfold iT;split
 ·exact Fg _ _
 ·exact sE _
def slotAt (w:cA) (t:SetTable) (k:Nat):Nat:=if kW w=true then 0 else rP t k
def uK (w:cA) (S:Addr) (n ep:Nat) (t:SetTable) (k:Nat):Obj:={ cls:=.type "set_iterator",data:=.fields #[rawInt (slotAt w t k),rawInt k,.ref S,rawInt n,rawInt ep] }
theorem XI {S:Addr} {es:Array (Int × aB)} {ep k:Nat} {t:SetTable} {Q:Option (aB × Nat)->aD->Prop} (ho:s.heap.get? S=some (lN es ep t)) (T:TabOk t es.size) (hl:t.led = !kW w) (hp:t.plain=true) (hk:k<=es.size)
  (q:Q ((iT w S ep es)[k]?.map λe=>(e.2,slotAt w t (k+1))) s):wpAny (model prog w) A (setNext S (slotAt w t k) k ep) Q E s:=by
 unfold setNext
 apply aA;refine gR ho rfl T.fits ?_
 unfold setsByText
 apply aA;apply aA;refine mW (aK ?_)
 show wpAny _ _ (if kW w=true then _ else _) _ _ _
 by_cases hb:kW w=true
 ·rw[if_pos hb,if_neg (by simp)]
  apply aA;unfold setWalk
  apply aA;refine gR ho rfl T.fits ?_
  unfold setsByText
  apply aA;apply aA;refine mW (aK ?_)
  show wpAny _ _ (if kW w=true then _ else _) _ _ _
  rw[if_pos hb]
  apply aA;refine mW (aK (aK ?_))
  unfold iT slotAt at q
  simp only[if_pos hb] at q
  unfold slotAt
  simp only[if_pos hb]
  exact q
 ·have hb0:kW w=false:=by simpa using hb
  rw[if_neg hb]
  show wpAny _ _ (if (!t.plain && decide (es.size > 1))=true then _ else _) _ _ _
  rw[hp]
  simp only[eS,yH,aP,if_false]
  show wpAny _ _ ((if (!t.led && !es.isEmpty)=true then unsupported "set:maker-not-led" else pure ()) >>= _) _ _ _
  rw[hl,hb0]
  simp only[lW,eS,yH,aP,if_false]
  apply aA;apply aK;apply aK
  have np:=ZF T hk
  unfold iT slotAt at q
  simp only[if_neg hb] at q
  unfold slotAt
  simp only[if_neg hb]
  rw[np]
  by_cases hlt:k<es.size
  ·have e1:es[k]? = some es[k]:=aW hlt
   have e2:t.place[k]? = some (t.place.getD k 0):=by
    have:k<t.place.size:=by rw[T.size];exact hlt
    rw[aW this];simp[hU,this]
   rw[e1] at q
   rw[e1,e2]
   have e3:rP t (k+1)=t.place.getD k 0+1:=by unfold rP;rw[if_neg (by omega)];simp
   rw[e3] at q
   exact q
  ·have e1:es[k]? = none:=oM (by omega)
   rw[e1] at q
   rw[e1]
   exact q
theorem zV {I:Addr} {c:aB} {d:Option Addr} {sl:Array (Option aB)} {vs:Array aB} {i:Nat} {x:aB} {Q:Unit->aD->Prop} (ho:s.heap.get? I=some { cls:=c,dict:=d,data:=.fields vs,slots:=sl }) (hi:i<vs.size)
  (q:∀h',h'.get? I=some { cls:=c,dict:=d,data:=.fields (vs.setIfInBounds i x),slots:=sl }->kP I s.heap h'->Q () { s with heap:=h' }):wpAny (model prog w) A (setField (.ref I) i x) Q E s:=by
 refine wpAny_setField ho rfl hi (q _ ?_ (nA ..))
 have:=dD (OC λvs=>vs.setIfInBounds i x) ho rfl
 rw[this];rfl
structure SetIt (w:cA) (S I:Addr) (es:Array (Int × aB)) (ep:Nat) (t:SetTable) (k:Nat) (h:Heap):Prop where
 set:h.get? S=some (lN es ep t)
 it:h.get? I=some (uK w S es.size ep t k)
theorem Ew {S I:Addr} {es:Array (Int × aB)} {ep k:Nat} {t:SetTable} {x:Int × aB} {Q:Option aB->aD->Prop} (D:SetIt w S I es ep t k s.heap) (ne:S≠I) (T:TabOk t es.size) (hl:t.led = !kW w) (hp:t.plain=true) (hk:k<es.size) (hx:(iT w S ep es)[k]? = some x)
  (q:∀h',SetIt w S I es ep t (k+1) h'->kP I s.heap h'->Q (some x.2) { s with heap:=h' }):wpAny (model prog w) A (pyNext (.ref I)) Q E s:=by
 have ty:s.TypeIs (.ref I) "set_iterator":=⟨_,D.it,rfl⟩
 unfold pyNext
 apply aA;apply CG;refine oI (name:=wJ "__next__") ty pH (kN pH ty BF ?_ (FA _))
 unfold Builtin.«set_iterator.__next__»
 apply aA;refine oJ (a:=(cU I,[])) rfl ?_
 apply aA;refine NW D.it rfl ?_
 dsimp only[rawInt]
 apply aA;refine rG D.set rfl T.fits ?_
 rw[if_neg (by simp)]
 apply aA
 show wpAny _ _ (setNext S ((slotAt w t k:Nat):Int).toNat ((k:Nat):Int).toNat ((ep:Nat):Int).toNat) _ _ _
 simp only[tK]
 refine XI D.set T hl hp (jA hk) ?_
 rw[hx]
 dsimp only[KH]
 have dit:=D.it;unfold uK at dit
 apply aA;refine zV dit (by simp) λh1 g1 s1=>?_
 apply aA;refine zV (s:={ s with heap:=h1 }) g1 (by simp) λh2 g2 s2=>?_
 refine aK ⟨x.2,rfl,aK (q h2 ⟨?_,?_⟩ (s1.trans s2))⟩
 ·rw[s2.2 S ne,s1.2 S ne];exact D.set
 ·rw[g2];rfl
theorem Jk {S I:Addr} {es:Array (Int × aB)} {ep:Nat} {t:SetTable} {Q:Option aB->aD->Prop} (hh:A.handled=none) (D:SetIt w S I es ep t es.size s.heap) (ne:S≠I) (T:TabOk t es.size) (hl:t.led = !kW w) (hp:t.plain=true)
  (q:∀h',IC I s.heap h'->Q none { s with heap:=h' }):wpAny (model prog w) A (pyNext (.ref I)) Q E s:=by
 have ty:s.TypeIs (.ref I) "set_iterator":=⟨_,D.it,rfl⟩
 have hx:(iT w S ep es)[es.size]? = none:=by
  apply oM
  rw[<-bQ,(IA S ep es).length_eq,bQ];exact aZ _
 unfold pyNext
 apply aA;apply CG;refine oI (name:=wJ "__next__") ty pH (kN pH ty BF ?_ (FA _))
 unfold Builtin.«set_iterator.__next__»
 apply aA;refine oJ (a:=(cU I,[])) rfl ?_
 apply aA;refine NW D.it rfl ?_
 dsimp only[rawInt]
 apply aA;refine rG D.set rfl T.fits ?_
 rw[if_neg (by simp)]
 apply aA
 show wpAny _ _ (setNext S ((slotAt w t es.size:Nat):Int).toNat ((es.size:Nat):Int).toNat ((ep:Nat):Int).toNat) _ _ _
 simp only[tK]
 refine XI D.set T hl hp (aZ _) ?_
 rw[hx]
 dsimp only[KH]
 have dit:=D.it;unfold uK at dit
 apply aA;refine zV dit (by simp) λh1 g1 s1=>?_
 show wpAny _ _ (newExc (.type "StopIteration") [] >>= _) _ _ _
 apply aA;simp only[newExc,newTuple]
 apply aA;refine eQ ?_ (by size_fits)
 refine aA (m:=firstArgMember _ _) ?_
 refine oJ (a:=eM) (by first | rfl | (simp only[firstArgMember];rfl)) ?_
 refine eQ ?_ (by size_fits)
 simp only[raiseNew]
 apply aA;apply wpAny_handled
 first | rw[show A.in1.handled=none from hh] | rw[hh]
 refine aA (aK (wpAny_throw ?_))
 apply aA;refine vU (T:="StopIteration") (b:=true) ⟨_,bX _ rfl,rfl⟩ isSubtype_stop ?_
 exact aK (q _ ((s1.extBut.push _).push _))
theorem Io {S:Addr} {es:Array (Int × aB)} {ep:Nat} {t:SetTable} {Q:aB->aD->Prop} (ho:s.heap.get? S=some (lN es ep t)) (T:TabOk t es.size) (hp:t.plain=true)
  (q:Q (.ref s.heap.objs.size) { s with heap:=s.heap.push (uK w S es.size ep t 0) }):wpAny (model prog w) A (pyIter (.ref S)) Q E s:=by
 have ty:s.TypeIs (.ref S) "set":=⟨_,ho,rfl⟩
 refine wpAny_pyIter_slot ty F.slot_set_iter (kN F.slot_set_iter ty RY ?_ (F.args_set_iter_1 _))
 unfold Builtin.«frozenset.__iter__» Builtin.Frozenset.slot0 Builtin.Frozenset.sizeOf
 apply aA;refine oJ (a:=S) rfl ?_
 apply aA;apply aA;refine rG ho rfl T.fits (aK ?_)
 apply aA;unfold setDrawn
 apply aA;refine gR ho rfl T.fits ?_
 unfold setsByText
 apply aA;apply aA;refine mW (aK (aK ?_))
 have dr:(!(model prog w).w.params.followText "set-order" && (!t.plain && decide (es.size > 1)))=false:=by rw[hp];simp
 show wpAny _ _ (if (!(model prog w).w.params.followText "set-order" && (!t.plain && decide (es.size > 1)))=true then _ else _) _ _ _
 rw[dr]
 simp only[aP,if_false]
 apply aA;apply aK
 apply aA;refine wpAny_setEpoch_of ho rfl T.fits ?_
 apply aA;unfold newFields;refine eQ ?_
 have e0:slotAt w t 0=0:=by unfold slotAt rP;split <;> rfl
 refine aK ⟨_,rfl,"set_iterator",_,⟨_,bX _ rfl,rfl⟩,pH.lookup,?_⟩
 unfold uK at q
 rw[e0] at q
 exact q
end
section
variable {prog:bA} {w:cA} {A:cE} {E:aB->aD->Prop} {s:aD}
theorem Ks {S:Addr} {Q:Bool->aD->Prop} (ty:s.TypeIs (.ref S) "set") (q:Q false s):wpAny (model prog w) A (iX (.ref S)) Q E s:=by
 unfold iX
 apply aA;refine lC ty F.slot_set_len.lookup ?_
 dsimp only
 have sp:splitId "set.__len__" = some ("set","__len__"):=by decide +kernel
 rw[sp]
 dsimp only
 apply aA;refine vU (b:=true) ty sub_set_self ?_
 simp only[eS,aP,if_false]
 have key:∀(c:Bool) (X Y:Sem Bool),c=true->wpAny (model prog w) A X Q E s->wpAny (model prog w) A (if c=true then X else Y) Q E s:=λc X Y hc h=>by rw[if_pos hc];exact h
 refine key _ _ _ (by decide +kernel) ?_
 apply aA;refine pL ty ?_
 exact aK q
theorem XG {S I:Addr} {es:Array (Int × aB)} {ep k:Nat} {t:SetTable} {h h':Heap} (D:SetIt w S I es ep t k h) (up:∀b o,b=S\/b=I->h.get? b=some o->h'.get? b=some o):SetIt w S I es ep t k h' :=
 ⟨up _ _ (eD rfl) D.set,up _ _ (eJ rfl) D.it⟩
theorem TV {S:Addr} {es:Array (Int × aB)} {ep:Nat} {t:SetTable} {Q:List aB->aD->Prop} (hh:A.handled=none) (ho:s.heap.get? S=some (lN es ep t)) (T:TabOk t es.size) (hl:t.led = !kW w) (hp:t.plain=true) (hz:es.size<=100)
  (q:∀h',(∀b o,s.heap.get? b=some o->h'.get? b=some o)->s.heap.objs.size<=h'.objs.size->Q ((iT w S ep es).toList.map (·.2)) { s with heap:=h' }):wpAny (model prog w) A (collect (.ref S)) Q E s:=by
 have ltS:S<s.heap.objs.size:=aO ho
 have wl:(iT w S ep es).size=es.size:=by rw[<-bQ,(IA S ep es).length_eq,bQ]
 unfold collect
 apply aA;apply NY;refine eF F.entry_proto_collect ?_
 rw[dJ F.plain_proto_collect _]
 show wpAny _ A.in1 (newList [] >>= λl=>again (.builtin "list.__iadd__" ⟨[l,.ref S],[]⟩)) _ _ s
 apply aA;refine eQ ?_
 refine aK ⟨fE F.plain_list_iadd _,eF F.entry_list_iadd ?_⟩
 rw[dJ F.plain_list_iadd _]
 show wpAny _ A.in1 (gL (.ref s.heap.objs.size) (.ref S) (.ref s.heap.objs.size)) _ _ { s with heap:=s.heap.push { cls:=.type "list",data:=.seq ([]:List aB).toArray } }
 have z1:(s.heap.push { cls:=.type "list",data:=.seq ([]:List aB).toArray }).objs.size=s.heap.objs.size+1:=kF ..
 have hL:(s.heap.push { cls:=.type "list",data:=.seq ([]:List aB).toArray }).get? s.heap.objs.size=some { cls:=.type "list",data:=.seq ([]:List aB).toArray }:=bX _ rfl
 have k1:∀b o,s.heap.get? b=some o->(s.heap.push { cls:=.type "list",data:=.seq ([]:List aB).toArray }).get? b=some o:=λb o e=>aJ _ e
 generalize s.heap.push { cls:=.type "list",data:=.seq ([]:List aB).toArray } = h1 at z1 hL k1
 have ty:∀{h:Heap} {g d t os},(∀b o,s.heap.get? b=some o->h.get? b=some o)->OG ⟨h,g,d,t,os⟩ (.ref S) "set":=λup=>⟨_,up _ _ ho,rfl⟩
 unfold gL
 apply aA;refine pL (T:="set") (ty k1) ?_
 have g1:kB (.ref s.heap.objs.size) (.ref S)=false:=by simp[kB,jB ltS]
 have g2:(gE "set" == gE "list")=false:=by decide
 have g3:(gE "set" == gE "tuple")=false:=by decide
 simp only[g1,g2,g3,AV,aP,if_false]
 apply aA;refine Io (s:={ s with heap:=h1 }) (k1 _ _ ho) T hp ?_
 show wpAny _ _ _ _ _ { s with heap:=h1.push (uK w S es.size ep t 0) }
 have hI:(h1.push (uK w S es.size ep t 0)).get? (s.heap.objs.size+1)=some (uK w S es.size ep t 0):=by rw[<-z1];exact bX _ rfl
 have k2:∀b o,h1.get? b=some o->(h1.push (uK w S es.size ep t 0)).get? b=some o:=λb o e=>aJ _ e
 rw[z1]
 generalize h1.push (uK w S es.size ep t 0)=h2 at hI k2
 apply aA;apply dC;refine Ks (ty λb o e=>k2 b o (k1 b o e)) ?_
 have key:∀(c:Bool) (X Y:Sem Fin) {Q':Fin->aD->Prop} {E':aB->aD->Prop} {s':aD},c=true->wpAny (model prog w) A.in1 X Q' E' s'->wpAny (model prog w) A.in1 (if c=true then X else Y) Q' E' s':=λc X Y _ _ _ hc h=>by rw[if_pos hc];exact h
 refine key _ _ _ (by decide +kernel) ?_
 have hL2:=k2 _ _ hL
 apply aA;apply wpAny_rule;apply aA
 show wpAny _ _ (updateSeq s.heap.objs.size (·.push .none) >>= λ_=>updateSeq s.heap.objs.size (·.pop)) _ _ _
 apply aA;refine gB hL2 rfl ?_
 have hL3:=dD (cW (·.push eM)) hL2 rfl
 refine gB (hz:=by seq_fits) hL3 rfl ?_
 have hL4:=dD (cW (·.pop)) hL3 rfl
 have up4:∀b o,b≠s.heap.objs.size->h2.get? b=some o->((h2.update s.heap.objs.size (cW (·.push eM))).update s.heap.objs.size (cW (·.pop))).get? b=some o :=
  λb o hb e=>(bO _ _ (Ne.symm hb)).trans ((bO _ _ (Ne.symm hb)).trans e)
 generalize (h2.update s.heap.objs.size (cW (·.push eM))).update s.heap.objs.size (cW (·.pop))=h4 at hL4 up4
 apply aK;refine⟨fE gY _,?_⟩
 have neSI:S≠s.heap.objs.size+1:=aR (fA ltS)
 have neS:S≠s.heap.objs.size:=aR ltS
 have neI:s.heap.objs.size+1≠s.heap.objs.size:=mR _
 have old:∀{b:Addr} {o:Obj},s.heap.get? b=some o->b≠s.heap.objs.size/\b≠s.heap.objs.size+1:=λe=>⟨aR (aO e),aR (fA (aO e))⟩
 refine UU (A:=A) (s0:=s) (n:=es.size) (J:=λacc h=>SetIt w S (s.heap.objs.size+1) es ep t acc.length h/\acc=((iT w S ep es).toList.map (·.2)).take acc.length/\∀b o,s.heap.get? b=some o->h.get? b=some o)
  (F:=λacc h=>acc=(iT w S ep es).toList.map (·.2)/\∀b o,s.heap.get? b=some o->h.get? b=some o) (.ref s.heap.objs.size) (by rw[eX];omega) ?_ ?_ ?_ (λh' acc c hsz hF hS'=>?_) es.size #[] h4 _ rfl (dY _) ?_ hL4
 ·rintro acc h h' ⟨J1,J2,J3⟩ hSo hz up
  refine⟨XG J1 λb o hb e=>up b o ?_ e,J2,λb o e=>up b o (old e).1 (J3 b o e)⟩
  rcases hb with rfl | rfl
  ·exact neS
  ·exact neI
 ·rintro acc s' o Q' E' hlt ⟨J1,J2,J3⟩ hSo k
  have hw:acc.length<(iT w S ep es).size:=by omega
  refine Ew J1 neSI T hl hp hlt (aW hw) λh' D' sb=>k _ h' ⟨by simpa using D',?_,λb o e=>?_⟩ ?_
  ·rw[bV,pS,oV,<-J2]
   simp[hw]
  ·rw[sb.2 b (old e).2];exact J3 b o e
  ·rw[sb.2 _ (Ne.symm neI)];exact hSo
 ·rintro acc s' o Q' E' hlen ⟨J1,J2,J3⟩ hSo k
  rw[hlen] at J1 J2
  refine Jk (A:=A.in1) (by simp[hh]) J1 neSI T hl hp λh' eb=>k h' ⟨?_,λb o e=>eb b o (old e).2 (J3 b o e)⟩ (eb _ _ (Ne.symm neI) hSo)
  rw[J2,iZ]
  simp[wl]
 ·show wpAny _ A (load s.heap.objs.size >>= _) _ _ _
  apply aA;refine wpAny_load hS' ?_
  refine aK ?_
  rw[hF.1]
  exact q h' hF.2 (jA (aO hS'))
 ·refine⟨⟨up4 _ _ neS (k2 _ _ (k1 _ _ ho)),up4 _ _ neI hI⟩,rfl,λb o e=>up4 b o (old e).1 (k2 b o (k1 b o e))⟩
end
end
section
open PySem PySem.W PyProof.Rows
def gA {α:Type} (lt:Nat->Nat->Bool):KasT α->α
 | .ret a=>a
 | .ask i j k=>gA lt (k (lt i j))
theorem rV {α β:Type} {lt:Nat->Nat->Bool} {f:α->KasT β}:∀t:KasT α,gA lt (t.bind f)=gA lt (f (gA lt t))
 | .ret _=>rfl
 | .ask i j k=>rV (k (lt i j))
def kIn {α:Type} (lt:Nat->Nat->Bool) (n:Nat):KasT α->Prop
 | .ret _=>True
 | .ask i j k=>i<n/\j<n/\kIn lt n (k (lt i j))
theorem mI {α β:Type} {lt:Nat->Nat->Bool} {n:Nat} {f:α->KasT β}:∀t:KasT α,kIn lt n t->kIn lt n (f (gA lt t))->kIn lt n (t.bind f)
 | .ret _,_,h=>h
 | .ask i j k,⟨h1,h2,h3⟩,h=>⟨h1,h2,mI (k (lt i j)) h3 h⟩
theorem DN {α:Type} {cmp:Nat->Nat->(Bool->aD->Prop)->aD->Prop} {lt:Nat->Nat->Bool} {n:Nat} {s:aD} {Q:α->aD->Prop} (hc:∀i j (C:Bool->aD->Prop),i<n->j<n->C (lt i j) s->cmp i j C s) :
  ∀t:KasT α,kIn lt n t->Q (gA lt t) s->t.kasWp cmp Q s
 | .ret _,_,h=>h
 | .ask i j k,⟨h1,h2,h3⟩,h=>hc i j _ h1 h2 (DN hc (k (lt i j)) h3 h)
section
variable {O:KeyOrd} {key:Nat->O.α} {N:Nat}
def ltK (O:KeyOrd) (key:Nat->O.α) (i j:Nat):Bool:=O.blt (key i) (key j)
def kk (O:KeyOrd) (key:Nat->O.α) (p:Array Nat) (i:Nat):O.α:=key (p.getD i 0)
def Up (O:KeyOrd) (key:Nat->O.α) (p:Array Nat) (n:Nat):Prop:=∀i j,i<=j->j<n->O.kle (kk O key p i) (kk O key p j)
def Dn (O:KeyOrd) (key:Nat->O.α) (p:Array Nat) (n:Nat):Prop:=∀i j,i<=j->j<n->O.kle (kk O key p j) (kk O key p i)
def Lo (p:Array Nat) (N:Nat):Prop:=∀i,p.getD i 0<N
theorem wQ {p q:Array Nat} (h:p.Perm q) (hq:Lo q N):Lo p N:=by
 intro i
 by_cases hi:i<p.size
 ·have m:p[i]∈p:=Array.getElem_mem hi
  have m2:p[i]∈q:=h.mem_iff.mp m
  obtain⟨j,hj,e⟩:=yE m2
  have:=hq j
  simp[hU,hj] at this
  simp[hU,hi]
  rw[<-e];exact this
 ·have h0:=hq q.size
  simp[hU] at h0
  simp[hU,hi];exact h0
theorem zG {p q:Array Nat} {i j:Nat} (h:p[i]? = q[j]?):kk O key p i=kk O key q j:=by
 unfold kk;rw[cT,cT,h]
theorem YR {p:Array Nat} {i j:Nat} (hj:j<=p.size) (k:Nat):kk O key (AH p i j) k=if i<=k/\k<j then kk O key p (i+j-1-k) else kk O key p k:=by
 have e:=getElem?_mirror_all (i:=i) hj k
 unfold AH
 by_cases h1:i<=k/\k<j
 ·rw[if_pos h1] at e ⊢;exact zG e
 ·rw[if_neg h1] at e ⊢;exact zG e
theorem HC {p:Array Nat} {i j:Nat} (hj:j<=p.size) (h:∀k,i<=k->k<j->kk O key p k=kk O key p (j-1)) (k:Nat):kk O key (AH p i j) k=kk O key p k:=by
 rw[YR hj]
 split
 ·rw[h _ (by omega) (by omega),h k (by omega) (by omega)]
 ·rfl
theorem Ef {p:Array Nat} {src d:Nat} (hs:src<p.size) (hd:d<=src) (k:Nat) :
  kk O key (bubble p src d) k=if k=src-d then kk O key p src else if src-d<k/\k<=src then kk O key p (k-1) else kk O key p k:=by
 have e:=getElem?_bubble hs d hd k
 by_cases h1:k=src-d
 ·rw[if_pos h1] at e ⊢;exact zG e
 ·rw[if_neg h1] at e ⊢
  by_cases h2:src-d<k/\k<=src
  ·rw[if_pos h2] at e ⊢;exact zG e
  ·rw[if_neg h2] at e ⊢;exact zG e
theorem zT (p:Array Nat) (i j:Nat):(AH p i j).Perm p:=mirror_perm _ _ _ _
theorem Oh {p:Array Nat} {n:Nat} (h1:1<=n) (h:Up O key p n) (hl:O.kle (kk O key p (n-1)) (kk O key p n)):Up O key p (n+1):=by
 intro i j hij hj
 by_cases hjx:j<n
 ·exact h i j hij hjx
 ·have hj':j=n:=by omega
  subst hj'
  by_cases hi':i=j
  ·subst hi';exact iQ _
  ·exact pV (h i (j-1) (by omega) (by omega)) hl
theorem RQ {p:Array Nat} {n:Nat} (h1:1<=n) (h:Dn O key p n) (hl:O.kle (kk O key p n) (kk O key p (n-1))):Dn O key p (n+1):=by
 intro i j hij hj
 by_cases hjx:j<n
 ·exact h i j hij hjx
 ·have hj':j=n:=by omega
  subst hj'
  by_cases hi':i=j
  ·subst hi';exact iQ _
  ·exact pV hl (h i (j-1) (by omega) (by omega))
theorem YC {p:Array Nat} (lo:Lo p N):∀(f n:Nat),1<=n->Up O key p n->kIn (ltK O key) N (tR p f n)/\n<=gA (ltK O key) (tR p f n)/\gA (ltK O key) (tR p f n)<=n+f/\Up O key p (gA (ltK O key) (tR p f n)) /\
  (gA (ltK O key) (tR p f n)=n+f\/O.klt (kk O key p (gA (ltK O key) (tR p f n))) (kk O key p (gA (ltK O key) (tR p f n)-1)))
 | 0,n,_,h=>⟨trivial,aZ _,aZ _,h,eD rfl⟩
 | f+1,n,h1,h=>by
  simp only[tR,gA,kIn]
  cases hb:ltK O key (p.getD n 0) (p.getD (n-1) 0) with
  | true =>
   simp only[if_true]
   exact⟨⟨lo _,lo _,trivial⟩,aZ _,by simp only[gA];omega,h,eJ hb⟩
  | false =>
   simp only[aP,if_false]
   obtain⟨i1,i2,i3,i4,i5⟩:=YC lo f (n+1) (by omega) (Oh h1 h hb)
   refine⟨⟨lo _,lo _,i1⟩,by omega,by omega,i4,?_⟩
   rcases i5 with e | e
   ·exact eD (by omega)
   ·exact eJ e
theorem XN {p:Array Nat} (lo:Lo p N) {n nrem:Nat} (h1:1<=n) (hn:n<=nrem) (hz:nrem<=p.size) (h:Dn O key p n) :
  kIn (ltK O key) N (rW n nrem p)/\1<=(gA (ltK O key) (rW n nrem p)).1/\(gA (ltK O key) (rW n nrem p)).1<=nrem/\(gA (ltK O key) (rW n nrem p)).2.Perm p/\Up O key (gA (ltK O key) (rW n nrem p)).2 (gA (ltK O key) (rW n nrem p)).1:=by
 unfold rW
 have up:Up O key (AH p 0 n) n:=by
  intro i j hij hj
  rw[YR (by omega),YR (by omega),if_pos (by omega),if_pos (by omega)]
  exact h _ _ (by omega) (by omega)
 obtain⟨i1,i2,i3,i4,_⟩:=YC (wQ (zT p 0 n) lo) (nrem-n) n h1 up
 rw[rV]
 refine⟨mI _ i1 trivial,?_,?_,zT p 0 n,i4⟩
 ·show 1<=_;simp only[gA];omega
 ·simp only[gA];omega
theorem JR:∀(f:Nat) (p:Array Nat) (n q:Nat),Lo p N->1<=n->n+f<=p.size->Dn O key p n->q+1<=n->(∀i,n-(q+1)<=i->i<n->kk O key p i=kk O key p (n-1)) ->
  kIn (ltK O key) N (jI f p n q)/\(gA (ltK O key) (jI f p n q)).1.Perm p/\n<=(gA (ltK O key) (jI f p n q)).2.1/\(gA (ltK O key) (jI f p n q)).2.1<=n+f /\
  Dn O key (gA (ltK O key) (jI f p n q)).1 (gA (ltK O key) (jI f p n q)).2.1/\(gA (ltK O key) (jI f p n q)).2.2+1<=(gA (ltK O key) (jI f p n q)).2.1 /\
  (∀i,(gA (ltK O key) (jI f p n q)).2.1-((gA (ltK O key) (jI f p n q)).2.2+1)<=i->i<(gA (ltK O key) (jI f p n q)).2.1->kk O key (gA (ltK O key) (jI f p n q)).1 i=kk O key (gA (ltK O key) (jI f p n q)).1 ((gA (ltK O key) (jI f p n q)).2.1-1))
 | 0,p,n,q,lo,h1,hz,h,hq,he=>⟨trivial,nR _,aZ _,aZ _,h,hq,he⟩
 | f+1,p,n,q,lo,h1,hz,h,hq,he=>by
  simp only[jI,gA,kIn]
  cases hb:ltK O key (p.getD n 0) (p.getD (n-1) 0) with
  | true =>
   simp only[if_true]
   by_cases h0:q > 0
   ·simp only[if_pos h0]
    have hk:=HC (O:=O) (key:=key) (p:=p) (i:=n-(q+1)) (j:=n) (by omega) he
    have pm:=zT p (n-(q+1)) n
    have dn:Dn O key (AH p (n-(q+1)) n) (n+1):=by
     have d0:=RQ h1 h (lO hb)
     intro i j hij hj
     rw[hk,hk];exact d0 i j hij hj
    obtain⟨i1,i2,i3,i4,i5,i6,i7⟩:=JR f (AH p (n-(q+1)) n) (n+1) 0 (wQ pm lo) (by omega) (by rw[pm.size_eq];omega) dn (by omega) (λi a b=>by congr 1;omega)
    exact⟨⟨lo _,lo _,i1⟩,i2.trans pm,by omega,by omega,i5,i6,i7⟩
   ·simp only[if_neg h0]
    obtain⟨i1,i2,i3,i4,i5,i6,i7⟩:=JR f p (n+1) 0 lo (by omega) (by omega) (RQ h1 h (lO hb)) (by omega) (λi a b=>by congr 1;omega)
    exact⟨⟨lo _,lo _,i1⟩,i2,by omega,by omega,i5,i6,i7⟩
  | false =>
   simp only[aP,if_false,gA,kIn]
   cases hc:ltK O key (p.getD (n-1) 0) (p.getD n 0) with
   | true =>
    simp only[if_true]
    exact⟨⟨lo _,lo _,lo _,lo _,trivial⟩,nR _,aZ _,by simp only[gA];omega,h,hq,he⟩
   | false =>
    simp only[aP,if_false]
    have e:kk O key p n=kk O key p (n-1):=AN hc hb
    obtain⟨i1,i2,i3,i4,i5,i6,i7⟩:=JR f p (n+1) (q+1) lo (by omega) (by omega) (RQ h1 h (by rw[e];exact iQ _)) (by omega) (λi a b=>by
     rw[show n+1-1=n by omega]
     by_cases hi:i=n
     ·subst hi;rfl
     ·rw[e];exact he i (by omega) (by omega))
    exact⟨⟨lo _,lo _,lo _,lo _,i1⟩,i2,by omega,by omega,i5,i6,i7⟩
theorem IF {p:Array Nat} (lo:Lo p N) {n nrem:Nat} (hn:n+1<=nrem) (hz:nrem<=p.size) (h:Dn O key p (n+1)) :
  kIn (ltK O key) N (mT n nrem p)/\1<=(gA (ltK O key) (mT n nrem p)).1/\(gA (ltK O key) (mT n nrem p)).1<=nrem/\(gA (ltK O key) (mT n nrem p)).2.Perm p/\Up O key (gA (ltK O key) (mT n nrem p)).2 (gA (ltK O key) (mT n nrem p)).1:=by
 unfold mT
 obtain⟨i1,i2,i3,i4,i5,i6,i7⟩:=JR (N:=N) (nrem-(n+1)) p (n+1) 0 lo (by omega) (by omega) h (by omega) (λi a b=>by congr 1;omega)
 rw[rV]
 generalize hr:gA (ltK O key) (jI (nrem-(n+1)) p (n+1) 0)=r at *
 by_cases h0:r.2.2 > 0
 ·have sz:r.1.size=p.size:=i2.size_eq
  have hk:=HC (O:=O) (key:=key) (p:=r.1) (i:=r.2.1-(r.2.2+1)) (j:=r.2.1) (by omega) i7
  have pm:=(zT r.1 (r.2.1-(r.2.2+1)) r.2.1).trans i2
  have t:=XN (O:=O) (key:=key) (N:=N) (wQ pm lo) (n:=r.2.1) (nrem:=nrem) (by omega) (by omega) (by rw[pm.size_eq];omega) (λi j hij hj=>by rw[hk,hk];exact i5 i j hij hj)
  rw[if_pos h0]
  refine⟨mI _ i1 ?_,t.2.1,t.2.2.1,t.2.2.2.1.trans pm,t.2.2.2.2⟩
  rw[hr,if_pos h0];exact t.1
 ·have t:=XN (O:=O) (key:=key) (N:=N) (wQ i2 lo) (n:=r.2.1) (nrem:=nrem) (by omega) (by omega) (by rw[i2.size_eq];omega) i5
  rw[if_neg h0]
  refine⟨mI _ i1 ?_,t.2.1,t.2.2.1,t.2.2.2.1.trans i2,t.2.2.2.2⟩
  rw[hr,if_neg h0];exact t.1
theorem Gn {p:Array Nat} (lo:Lo p N) {nrem:Nat} (h1:1<=nrem) (hz:nrem<=p.size) :
  kIn (ltK O key) N (qB nrem p)/\1<=(gA (ltK O key) (qB nrem p)).1/\(gA (ltK O key) (qB nrem p)).1<=nrem/\(gA (ltK O key) (qB nrem p)).2.Perm p/\Up O key (gA (ltK O key) (qB nrem p)).2 (gA (ltK O key) (qB nrem p)).1:=by
 unfold qB
 obtain⟨i1,i2,i3,i4,i5⟩:=YC (O:=O) (key:=key) lo (nrem-1) 1 (aZ _) (λi j hij hj=>by have:i=j:=(by omega);subst this;exact iQ _)
 rw[rV]
 generalize hr:gA (ltK O key) (tR p (nrem-1) 1)=n at *
 by_cases hn:n=nrem
 ·rw[if_pos (by simpa using hn)]
  exact⟨mI _ i1 (by rw[hr,if_pos (by simpa using hn)];trivial),i2,by show n<=nrem;omega,nR _,i4⟩
 ·rw[if_neg (by simpa using hn)]
  have hlt:O.klt (kk O key p n) (kk O key p (n-1)):=i5.resolve_left (by omega)
  by_cases hg:n > 1
  ·rw[if_pos hg]
   simp only[gA]
   cases hb:ltK O key (p.getD 0 0) (p.getD (n-1) 0) with
   | true =>
    simp only[if_true]
    exact⟨mI _ i1 (by rw[hr,if_neg (by simpa using hn),if_pos hg];exact⟨lo _,lo _,by rw[hb];trivial⟩),by show 1<=n;omega,by show n<=nrem;omega,nR _,i4⟩
   | false =>
    simp only[aP,if_false]
    have hall:∀k,0<=k->k<n->kk O key p k=kk O key p (n-1):=by
     intro k _ hk
     have a1:=i4 0 k (by omega) hk
     have a2:=i4 k (n-1) (by omega) (by omega)
     exact AN a2 (pV hb a1)
    have hk:=HC (O:=O) (key:=key) (p:=p) (i:=0) (j:=n) (by omega) hall
    have pm:=zT p 0 n
    have t:=IF (O:=O) (key:=key) (N:=N) (wQ pm lo) (n:=n) (nrem:=nrem) (by omega) (by rw[pm.size_eq];omega) (λi j hij hj=>by
     rw[hk,hk]
     by_cases hjn:j<n
     ·rw[hall i (by omega) (by omega),hall j (by omega) hjn];exact iQ _
     ·have hj':j=n:=by omega
      subst hj'
      by_cases hi':i=j
      ·subst hi';exact iQ _
      ·rw[hall i (by omega) (by omega)];exact lO hlt)
    exact⟨mI _ i1 (by rw[hr,if_neg (by simpa using hn),if_pos hg];exact⟨lo _,lo _,by rw[hb];exact t.1⟩),t.2.1,t.2.2.1,t.2.2.2.1.trans pm,t.2.2.2.2⟩
  ·rw[if_neg hg]
   have n1:n=1:=by omega
   have t:=IF (O:=O) (key:=key) (N:=N) lo (n:=n) (nrem:=nrem) (by omega) hz (λi j hij hj=>by
    by_cases hi':i=j
    ·subst hi';exact iQ _
    ·have e1:i=n-1:=by omega
     have e2:j=n:=by omega
     rw[e1,e2];exact lO hlt)
   exact⟨mI _ i1 (by rw[hr,if_neg (by simpa using hn),if_neg hg];exact t.1),t.2⟩
theorem MN {p:Array Nat} (lo:Lo p N) {k:Nat} (hs:Up O key p k):∀(f l r:Nat),l<=r->r<=k->r-l<=f->(∀i,i<l->O.kle (kk O key p i) (kk O key p k))->(∀i,r<=i->i<k->O.klt (kk O key p k) (kk O key p i)) ->
  kIn (ltK O key) N (vE p k f l r)/\gA (ltK O key) (vE p k f l r)<=k/\(∀i,i<gA (ltK O key) (vE p k f l r)->O.kle (kk O key p i) (kk O key p k))/\(∀i,gA (ltK O key) (vE p k f l r)<=i->i<k->O.klt (kk O key p k) (kk O key p i))
 | 0,l,r,hlr,hrk,hf,a,b=>by
  have:l=r:=by omega
  subst this
  exact⟨trivial,hrk,a,b⟩
 | f+1,l,r,hlr,hrk,hf,a,b=>by
  simp only[vE]
  by_cases hge:l ≥ r
  ·have:l=r:=by omega
   subst this
   rw[if_pos hge]
   exact⟨trivial,hrk,a,b⟩
  ·rw[if_neg hge]
   simp only[gA,kIn]
   cases hb:ltK O key (p.getD k 0) (p.getD ((l+r) / 2) 0) with
   | true =>
    simp only[if_true]
    have t:=MN lo hs f l ((l+r) / 2) (by omega) (by omega) (by omega) a (λi h1 h2=>KeyOrd.klt_of_klt_of_kle hb (hs _ _ h1 h2))
    exact⟨⟨lo _,lo _,t.1⟩,t.2⟩
   | false =>
    simp only[aP,if_false]
    have t:=MN lo hs f ((l+r) / 2+1) r (by omega) hrk (by omega) (λi h1=>pV (hs i ((l+r) / 2) (by omega) (by omega)) hb) b
    exact⟨⟨lo _,lo _,t.1⟩,t.2⟩
theorem Gj:∀(f:Nat) (p:Array Nat) (k:Nat),Lo p N->k+f<=p.size->Up O key p k->kIn (ltK O key) N (SH f p k)/\(gA (ltK O key) (SH f p k)).Perm p/\Up O key (gA (ltK O key) (SH f p k)) (k+f)
 | 0,p,k,lo,hz,h=>⟨trivial,nR _,h⟩
 | f+1,p,k,lo,hz,h=>by
  simp only[SH]
  obtain⟨i1,i2,i3,i4⟩:=MN lo h k 0 k (by omega) (by omega) (by omega) (λi hi=>absurd hi (by omega)) (λi h1 h2=>absurd h2 (by omega))
  rw[rV]
  generalize hr:gA (ltK O key) (vE p k k 0 k)=l at *
  have pm:=bubble_perm p k (k-l)
  have hb:=λi=>Ef (O:=O) (key:=key) (p:=p) (src:=k) (d:=k-l) (by omega) (by omega) i
  have up:Up O key (bubble p k (k-l)) (k+1):=by
   intro i j hij hj
   rw[hb,hb,show k-(k-l)=l by omega]
   by_cases e1:i=l
   ·rw[if_pos e1]
    by_cases e2:j=l
    ·rw[if_pos e2];exact iQ _
    ·rw[if_neg e2,if_pos (by omega)];exact lO (i4 _ (by omega) (by omega))
   ·rw[if_neg e1]
    by_cases e2:j=l
    ·rw[if_pos e2,if_neg (by omega)];exact i3 _ (by omega)
    ·rw[if_neg e2]
     by_cases e3:l<i/\i<=k
     ·rw[if_pos e3,if_pos (by omega)];exact h _ _ (by omega) (by omega)
     ·rw[if_neg e3]
      by_cases e4:l<j/\j<=k
      ·rw[if_pos e4];exact h _ _ (by omega) (by omega)
      ·rw[if_neg e4];exact h _ _ (by omega) (by omega)
  obtain⟨t1,t2,t3⟩:=Gj f (bubble p k (k-l)) (k+1) (wQ pm lo) (by rw[pm.size_eq];omega) up
  refine⟨mI _ i1 (by rw[hr];exact t1),t2.trans pm,?_⟩
  rw[show k+(f+1)=k+1+f by omega];exact t3
theorem Cq {n:Nat} (h1:1<=n):kIn (ltK O key) n (sQ n)/\(gA (ltK O key) (sQ n)).Perm (gQ (cV n))/\Up O key (gA (ltK O key) (sQ n)) n:=by
 have lo:Lo (gQ (cV n)) n:=by
  intro i
  by_cases hi:i<n
  ·simp[hU,hi]
  ·simp[hU,hi];omega
 unfold sQ
 obtain⟨i1,i2,i3,i4,i5⟩:=Gn (O:=O) (key:=key) lo (nrem:=n) h1 (by simp)
 rw[rV]
 generalize hr:gA (ltK O key) (qB n (gQ (cV n)))=r at *
 have sz:r.2.size=n:=by rw[i4.size_eq];simp
 by_cases h:r.1<n
 ·have t:=Gj (O:=O) (key:=key) (N:=n) (n-max r.1 1) r.2 (max r.1 1) (wQ i4 lo) (by omega) (by rw[show max r.1 1=r.1 by omega];exact i5)
  rw[if_pos h]
  refine⟨mI _ i1 (by rw[hr,if_pos h];exact t.1),t.2.1.trans i4,?_⟩
  have:=t.2.2
  rwa [show max r.1 1+(n-max r.1 1)=n by omega] at this
 ·rw[if_neg h]
  refine⟨mI _ i1 (by rw[hr,if_neg h];trivial),i4,?_⟩
  rw[show n=r.1 by omega];exact i5
end
end
section
open PySem PySem.W PySem.SetTable PyProof.Rows
def gM:List Int->List Int->Bool
 | [],[]=>false
 | [],_::_=>true
 | _::_,[]=>false
 | a::as,b::bs=>if a=b then gM as bs else decide (a<b)
theorem LX:∀a,gM a a=false
 | []=>rfl
 | a::as=>by simp only[gM,if_true];exact LX as
theorem DR:∀a b c,gM a b=true->gM b c=true->gM a c=true
 | [],[],c,h,_=>by simp[gM] at h
 | [],_::_,[],_,h=>by simp[gM] at h
 | [],_::_,_::_,_,_=>rfl
 | _::_,[],_,h,_=>by simp[gM] at h
 | _::_,_::_,[],_,h=>by simp[gM] at h
 | a::as,b::bs,c::cs,h,k=>by
  simp only[gM] at h k ⊢
  by_cases e1:a=b
  ·subst e1
   rw[if_pos rfl] at h
   by_cases e2:a=c
   ·subst e2;rw[if_pos rfl] at k ⊢;exact DR as bs cs h k
   ·rw[if_neg e2] at k ⊢;exact k
  ·rw[if_neg e1] at h
   by_cases e2:b=c
   ·subst e2;rw[if_neg e1];exact h
   ·rw[if_neg e2] at k
    simp only[decide_eq_true_eq] at h k
    rw[if_neg (by omega)]
    simp only[decide_eq_true_eq];omega
theorem wP:∀a b,gM a b=false->gM b a=false->a=b
 | [],[],_,_=>rfl
 | [],_::_,h,_=>by simp[gM] at h
 | _::_,[],_,h=>by simp[gM] at h
 | a::as,b::bs,h,k=>by
  simp only[gM] at h k
  by_cases e:a=b
  ·subst e;rw[if_pos rfl] at h k;rw[wP as bs h k]
  ·rw[if_neg e] at h;rw[if_neg (Ne.symm e)] at k
   simp only[decide_eq_false_iff_not] at h k;omega
theorem Jc (a b c:List Int) (h:gM a c=true):gM a b=true\/gM b c=true:=by
 cases h1:gM a b with
 | true=>exact eD rfl
 | false =>
  right
  cases h2:gM b a with
  | true=>exact DR b a c h2 h
  | false=>rw[<-wP a b h1 h2];exact h
def VW:KeyOrd:=⟨List Int,gM,LX,DR,Jc,wP⟩
section
variable {prog:bA} {w:cA} {A:cE} {E:aB->aD->Prop} {s:aD}
theorem int_inv {k:Int} {v:aB} (h:(intKind prog w).is k v=true):∃t,v = .int k t:=by
 cases v <;> simp[intKind,yW] at h
 exact⟨_,by rw[h]⟩
theorem Mt {fin:Bool} {Q:Bool->aD->Prop}:∀(ns ms:List Int) (vs us:List aB) (i:Nat),ItemsAre (intKind prog w) ns vs->ItemsAre (intKind prog w) ms us->fin=decide (vs.length<us.length)->Q (gM ns ms) s->KatLex prog w A true fin Q (vs.zip us) i s:=by
 intro ns
 induction ns with
 | nil =>
  intro ms vs us i h1 h2 hf q
  cases h1
  cases h2 with
  | nil=>simp at hf;subst hf;exact SI q
  | cons _ _=>simp at hf;subst hf;exact SI q
 | cons n ns ih =>
  intro ms vs us i h1 h2 hf q
  cases h1 with
  | cons h1 t1 =>
   cases h2 with
   | nil=>simp at hf;subst hf;exact SI q
   | @cons m u ms us h2 t2 =>
    rw[hX]
    refine VG ((intKind prog w).eqBool h1 h2 ?_)
    by_cases e:n=m
    ·subst e
     rw[decide_eq_true rfl]
     exact kat_yes (ih ms _ us (i+1) t1 t2 (by simpa using hf) (by simpa [gM] using q))
    ·rw[decide_eq_false e]
     obtain⟨tn,rfl⟩:=int_inv h1
     obtain⟨tm,rfl⟩:=int_inv h2
     have q':Q (decide (n<m)) s:=by simpa [gM,e] using q
     refine kat_no ?_
     cases hi:(i == 0) with
     | true=>exact oneLt_int q'
     | false=>exact kat_one _ _ (PySem.wpAny_lt_int (by exact q'))
def KeysAt (prog:bA) (w:cA) (h:Heap) (vs:List aB) (nss:List (List Int)):Prop:=vs.length=nss.length/\∀i v,vs[i]? = some v->∃a,v = .ref a/\IsTupleKey (intKind prog w) h (nss.getD i []) a
theorem LU {h:Heap}:∀(vs:List aB) (nss:List (List Int)),KeysAt prog w h vs nss->(∀ns∈nss,ns≠[])->∃fs:List aB,KatTups h vs fs/\fs.length=vs.length/\∀f∈fs,∃k t,f = .int k t
 | [],nss,_,_=>⟨[],trivial,rfl,λf hf=>by cases hf⟩
 | v::vs,nss,H,hn=>by
  match nss,H with
  | [],H=>exact absurd H.1 (by simp)
  | ns::nss,H =>
   obtain⟨a,rfl,o,items,n,ho,hc,hd,hi⟩:=H.2 0 v rfl
   obtain⟨fs,f1,f2,f3⟩:=LU vs nss ⟨by have:=H.1;simpa using this,λi v e=>H.2 (i+1) v e⟩ λms hm=>hn ms (bD _ hm)
   simp only[List.getD_cons_zero] at hi
   match ns,hi,hn ns (cI ..) with
   | [],_,h=>exact absurd rfl h
   | k::ks,hi,_ =>
    generalize e:items.toList=its at hi
    cases hi with
    | cons h1 h2 =>
     obtain⟨t,rfl⟩:=int_inv h1
     refine⟨.int k t::fs,⟨⟨a,o,items,n,rfl,ho,hc,hd,?_⟩,f1⟩,by simp[f2],λf hf=>?_⟩
     ·rw[<-fV,e];rfl
     ·rcases aL.mp hf with rfl | hf
      ·exact⟨k,t,rfl⟩
      ·exact f3 f hf
theorem KeysAt.other {h h':Heap} {vs:List aB} {nss:List (List Int)} {a:Addr} {xs:Array aB} {n:Nat} (K:KeysAt prog w h vs nss) (ho:h.get? a=some (seqObj "list" xs n)) (up:∀b o,b≠a->h.get? b=some o->h'.get? b=some o):KeysAt prog w h' vs nss:=by
 refine⟨K.1,λi v e=>?_⟩
 obtain⟨b,rfl,o,its,m,h1,h2,h3,h4⟩:=K.2 i v e
 refine⟨b,rfl,o,its,m,up b o ?_ h1,h2,h3,h4⟩
 rintro rfl
 rw[ho] at h1;cases h1
 exact absurd h2 (by simp[seqObj])
theorem range_getD {α:Type} (d:α) (xs:List α):(cV xs.length).map (λi=>xs.getD i d)=xs:=by
 apply mM (by simp)
 intro i h1 h2
 simp[h2]
theorem Fs {a:Addr} {vs:List aB} {nss:List (List Int)} {n:Nat} {P:PySem.Fin->aD->Prop} (ho:s.heap.get? a=some (seqObj "list" vs.toArray n)) (K:KeysAt prog w s.heap vs nss) (hn:∀ns∈nss,ns≠[]) (h64:vs.length<64)
  (q:∀h' out mss c,h'.get? a=some (seqObj "list" (gQ out) c)->KeysAt prog w h' out mss->(∀v∈out,v∈vs)->mss.Perm nss->mss.Pairwise (λx y=>gM y x=false)->(∀b o,b≠a->s.heap.get? b=some o->h'.get? b=some o)->P (.done (.ret .none)) { s with heap:=h' }) :
  wpAny (model prog w) A (Builtin.«list.sort» ⟨[.ref a],[]⟩) P E s:=by
 have lt:a<s.heap.objs.size:=aO ho
 rw[JD]
 apply aA;refine listItems_at ho rfl ?_
 apply aA;refine uI ho rfl ?_ (by rw[aN,eX];omega) (dY _)
 obtain⟨e1,ho1⟩:∃e1,(s.heap.update a (cW λ_=>(#[]:Array aB))).get? a=some (seqObj "list" #[] e1):=⟨_,qU ho λ_=>#[]⟩
 have up1:∀b o,b≠a->s.heap.get? b=some o->(s.heap.update a (cW λ_=>(#[]:Array aB))).get? b=some o:=λb o hb e=>(bO _ _ (Ne.symm hb)).trans e
 generalize s.heap.update a (cW λ_=>(#[]:Array aB))=h1 at ho1 up1
 apply aA;refine zU ho1 rfl ?_
 apply aA;refine NX ?_ (by show vs.length<=_;rw[eX];omega)
 apply aA;refine uO ?_ (dY _)
 apply dC
 show wpAny (model prog w) A _ P E { s with heap:=(h1.push (seqObj "tuple" vs.toArray 0)).push (seqObj "list" #[] 0) }
 have up2:∀b o,b≠a->s.heap.get? b=some o->((h1.push (seqObj "tuple" vs.toArray 0)).push (seqObj "list" #[] 0)).get? b=some o:=λb o hb e=>aJ _ (aJ _ (up1 b o hb e))
 have ho2:((h1.push (seqObj "tuple" vs.toArray 0)).push (seqObj "list" #[] 0)).get? a=some (seqObj "list" #[] e1):=aJ _ (aJ _ ho1)
 generalize (h1.push (seqObj "tuple" vs.toArray 0)).push (seqObj "list" #[] 0)=h2 at up2 ho2
 have K2:=K.other ho up2
 have fin:∀(out:List aB) (mss:List (List Int)) (st':SortSt),(arrOf st').map (·.2)=out.toArray->failedOf st'=none->KeysAt prog w h2 out mss->(∀v∈out,v∈vs)->mss.Perm nss->mss.Pairwise (λx y=>gM y x=false)->out.length<=64 ->
   wpAny (model prog w) A (do
    let sorted:=(arrOf st').map (·.2)
    let touched:=(<-seqEpoch a) != e1
    oE (.ref a) λ_=>sorted
    if let some e:=failedOf st' then rule "list.sort.comparison-raised";throw e
    if touched then rule "list.sort.modified";raiseError "ValueError" "list modified during sort"
    ret .none) P E { s with heap:=h2 }:=by
  intro out mss st' h1 hf KO hv hp hs hlen
  dsimp only
  apply aA;refine zU (s:={ s with heap:=h2 }) ho2 rfl ?_
  rw[h1]
  apply aA;refine uI (s:={ s with heap:=h2 }) ho2 rfl ?_ (dY _) (by show out.toArray.size<=_;rw[aN,eX];omega)
  obtain⟨c,hc⟩:∃c,(h2.update a (cW λ_=>out.toArray)).get? a=some (seqObj "list" out.toArray c):=⟨_,qU ho2 λ_=>out.toArray⟩
  have up3:∀b o,b≠a->h2.get? b=some o->(h2.update a (cW λ_=>out.toArray)).get? b=some o:=λb o hb e=>(bO _ _ (Ne.symm hb)).trans e
  generalize h2.update a (cW λ_=>out.toArray)=h3 at hc up3
  rw[hf]
  simp only[bne_self_eq_false,aP,if_false]
  exact aK (q h3 out mss c hc (KO.other ho2 up3) hv hp hs λb o hb e=>up3 b o hb (up2 b o hb e))
 have ln:=K.1
 dsimp only
 by_cases h2':vs.length<2
 ·have c2:vs.toArray.size<2:=by rw[aN];exact h2'
  rw[if_pos c2,if_pos c2]
  apply aA;apply aK
  apply aA
  show wpAny _ _ (pure ((),SortSt.mk' general' (vs.toArray.zip vs.toArray) #[] 7 none)) _ _ _
  apply aK
  refine fin vs nss _ ?_ rfl K2 (λ_ h=>h) (sE _) ?_ (by omega)
  ·show (vs.toArray.zip vs.toArray).map (·.2)=vs.toArray
   apply GE.mp
   simp[GN]
  ·match nss,ln with
   | [],_=>exact jU
   | [x],_=>exact kH _ _
   | _::_::_,ln=>simp at ln;omega
 ·have c2:¬vs.toArray.size<2:=by rw[aN];exact h2'
  rw[if_neg c2,if_neg c2]
  obtain⟨fs,f1,f2,f3⟩:=LU vs nss K2 hn
  apply aA
  refine kat_kind (s:={ s with heap:=h2 }) (T:=.type "int") f1 (by omega) (λv hv=>?_) (by decide) ?_
  ·obtain⟨k,t,rfl⟩:=f3 v hv
   exact Looks.now
  have hT:(gE "int" != gE "tuple")=true:=by decide
  rw[hT]
  obtain⟨i1,i2,i3⟩:=Cq (O:=VW) (key:=λi=>nss.getD i []) (n:=vs.length) (by omega)
  have psz:(gA (ltK VW λi=>nss.getD i []) (sQ vs.length)).size=vs.length:=by rw[i2.size_eq];simp
  generalize hp:gA (ltK VW λi=>nss.getD i []) (sQ vs.length)=p at i2 i3 psz
  apply aA
  refine dI (kat_run (ks:=vs) (vs:=vs) (Q:=λst' s'=>s' = { s with heap:=h2 }/\arrOf st'=p.map (kas_item (vs.toArray.zip vs.toArray))/\failedOf st'=none) (G:=λp' s'=>p'=p/\s' = { s with heap:=h2 }) rfl (by omega) h64 (λp' st' s' a1 a2 a3 a4=>⟨a4.2,by rw[a2,a4.1],a3⟩) ?_) ?_ λ_ _ e=>e
  ·refine DN (lt:=ltK VW λi=>nss.getD i []) (n:=vs.length) (s:={ s with heap:=h2 }) (λi j C hi hj c=>?_) _ i1 ⟨hp,rfl⟩
   unfold kas_ask
   obtain⟨x,ex,ox,xs,nx,hx1,hx2,hx3,hx4⟩:=K2.2 i (vs.getD i eM) (by simp[hi])
   obtain⟨y,ey,oy,ys,ny,hy1,hy2,hy3,hy4⟩:=K2.2 j (vs.getD j eM) (by simp[hj])
   rw[ex,ey]
   refine kat_lt (s:={ s with heap:=h2 }) hx1 hx3 hy1 hy3 (Mt _ _ _ _ 0 hx4 hy4 (by simp) ?_)
   exact c
  ·rintro⟨⟨⟩,st'⟩ s' ⟨rfl,har,hf⟩
   have hout:=kat_snds (ks:=vs) (vs:=vs) rfl har
   refine fin (p.toList.map λi=>vs.getD i eM) (p.toList.map λi=>nss.getD i []) st' hout hf ⟨by simp,λi v e=>?_⟩ (λv hv=>?_) ?_ ?_ (by simp[psz];omega)
   ·rw[aT] at e
    cases e2:p.toList[i]? with
    | none=>rw[e2] at e;simp at e
    | some j =>
     rw[e2] at e
     simp only[jQ,jW] at e
     have hj:j<vs.length:=by
      have m:j∈p.toList:=bF e2
      have:=(CH i2).mp (fH.mp m)
      simpa using this
     obtain⟨b,hb1,hb2⟩:=K2.2 j v (by rw[<-e];simp[hj])
     refine⟨b,hb1,?_⟩
     have g:(p.toList.map λi=>nss.getD i []).getD i []=nss.getD j []:=by
      rw[bR,aT,e2];rfl
     rw[g];exact hb2
   ·obtain⟨j,m,rfl⟩:=cK.mp hv
    have hj:j<vs.length:=by
     have:=(CH i2).mp (fH.mp m)
     simpa using this
    simp[hj]
   ·have pl:p.toList.Perm (cV vs.length):=by simpa using i2.toList
    refine (pl.map _).trans ?_
    rw[ln,range_getD]
   ·refine jV.mpr (fR.mpr λi j hi hj hij=>?_)
    have:=i3 i j (by omega) (by simp at hj;omega)
    unfold kk at this
    simp only[bQ] at hi hj
    have e1:p.getD i 0=p[i]:=by simp[hU,hi]
    have e2:p.getD j 0=p[j]:=by simp[hU,hj]
    rw[e1,e2] at this
    exact this
theorem JA {S:Addr} {es:Array (Int × aB)} {Q:aB->aD->Prop} (hh:A.handled=none) (H:SetTup prog w s.heap S es) (h64:es.size<64) {nss:List (List Int)} (hn:∀ns∈nss,ns≠[])
  (hk:∀e∈es.toList,∃ns∈nss,∃a,e.2 = .ref a/\IsTupleKey (intKind prog w) s.heap ns a)
  (q:∀h' D out mss c,s.heap.objs.size<=D->h'.get? D=some (seqObj "list" (gQ out) c)->KeysAt prog w h' out mss->(∀v∈out,∃e∈es.toList,e.2=v)->(∀ns,ns∈mss↔∃e∈es.toList,∃a,e.2 = .ref a/\IsTupleKey (intKind prog w) s.heap ns a)->mss.Pairwise (λx y=>gM y x=false) ->
   mss.length=es.size->(∀b o,s.heap.get? b=some o->h'.get? b=some o)->Q (.ref D) { s with heap:=h' }) :
  wpAny (model prog w) A (call (.builtin "sorted") [.ref S]) Q E s:=by
 obtain⟨⟨ep,t,ho,T,hf,hl,hp,_⟩,els,_⟩:=H
 have wp:=IA (w:=w) S ep es
 have wl:(iT w S ep es).toList.length=es.size:=by rw[wp.length_eq,bQ]
 refine sW kind_sorted plain_sorted entry_sorted (args_sorted1 _) ?_
 unfold Builtin.«sorted»
 refine aA (m:=checkCount "sorted" 1 1 _) (aK ?_)
 apply aA;refine TV (A:=A.in1) (by simp[hh]) ho T hl hp (by omega) λh1 k1 big=>?_
 apply aA;refine uO ?_ (by rw[aS,wl,eX];omega)
 show wpAny _ _ _ _ _ { s with heap:=h1.push (seqObj "list" (gQ ((iT w S ep es).toList.map (·.2))) 0) }
 have hL:(h1.push (seqObj "list" (gQ ((iT w S ep es).toList.map (·.2))) 0)).get? h1.objs.size=some (seqObj "list" (gQ ((iT w S ep es).toList.map (·.2))) 0):=bX _ rfl
 have k2:∀b o,s.heap.get? b=some o->(h1.push (seqObj "list" (gQ ((iT w S ep es).toList.map (·.2))) 0)).get? b=some o:=λb o e=>aJ _ (k1 b o e)
 generalize h1.push (seqObj "list" (gQ ((iT w S ep es).toList.map (·.2))) 0)=h2 at hL k2
 have ex:∀(i:Nat) (v:aB),((iT w S ep es).toList.map (·.2))[i]? = some v->∃ns∈nss,∃a,v = .ref a/\IsTupleKey (intKind prog w) s.heap ns a:=by
  intro i v e
  rw[aT] at e
  cases e2:(iT w S ep es).toList[i]? with
  | none=>rw[e2] at e;simp at e
  | some x =>
   rw[e2] at e
   simp only[jQ,jW] at e
   have m:x∈es.toList:=wp.mem_iff.mp (bF e2)
   obtain⟨ns,h1,a,h2,h3⟩:=hk x m
   exact⟨ns,h1,a,by rw[<-e];exact h2,h3⟩
 obtain⟨kss,kl,kk⟩:∃kss:List (List Int),kss.length=((iT w S ep es).toList.map (·.2)).length/\∀(i:Nat) (v:aB),((iT w S ep es).toList.map (·.2))[i]? = some v->kss.getD i []∈nss/\∃a,v = .ref a/\IsTupleKey (intKind prog w) s.heap (kss.getD i []) a:=by
  generalize ((iT w S ep es).toList.map (·.2))=vs at ex
  clear hL
  induction vs with
  | nil=>exact⟨[],rfl,λi v e=>by simp at e⟩
  | cons v vs ih =>
   obtain⟨kss,k1,k2⟩:=ih λi v e=>ex (i+1) v (by simpa using e)
   obtain⟨ns,h1,a,h2,h3⟩:=ex 0 v rfl
   refine⟨ns::kss,by simp[k1],λi u e=>?_⟩
   cases i with
   | zero=>simp at e;subst e;exact⟨h1,a,h2,h3⟩
   | succ i=>exact k2 i u (by simpa using e)
 have KA:KeysAt prog w h2 ((iT w S ep es).toList.map (·.2)) kss:=by
  refine⟨kl.symm,λi v e=>?_⟩
  obtain⟨_,a,h1,o,its,m,g1,g2⟩:=kk i v e
  exact⟨a,h1,o,its,m,k2 _ _ g1,g2⟩
 have kmem:∀ns,ns∈kss↔∃e∈es.toList,∃a,e.2 = .ref a/\IsTupleKey (intKind prog w) s.heap ns a:=by
  intro ns
  constructor
  ·intro h
   obtain⟨i,hi,e⟩:=eK h
   have hi':i<((iT w S ep es).toList.map (·.2)).length:=by omega
   obtain⟨_,a,h1,h2⟩:=kk i _ (aC hi')
   have g:kss.getD i []=ns:=by simp[hi,e]
   rw[g] at h2
   simp only[pY] at h1
   exact⟨_,wp.mem_iff.mp (jF _),a,h1,h2⟩
  ·rintro⟨e,he,a,h1,h2⟩
   obtain⟨i,hi,e'⟩:=eK (wp.mem_iff.mpr he)
   obtain⟨_,b,g1,g2⟩:=kk i e.2 (by rw[aT,aC hi,e'];rfl)
   rw[h1] at g1;cases g1
   have:=g2.inj h2
   rw[<-this]
   have hi':i<kss.length:=by rw[kl];simpa using hi
   simp[hi']
 refine aA (dC (kN slot_list_sort ⟨_,hL,rfl⟩ entry_list_sort ?body (KP _)))
 case body =>
  refine Fs (s:={ s with heap:=h2 }) hL KA (λns h=>?_) (by rw[aS,wl];exact h64) λh3 out mss c g1 g2 g3 g4 g5 g6=>?_
  ·obtain⟨e,he,a,e1,e2⟩:=(kmem ns).mp h
   obtain⟨ms,m1,b,e3,e4⟩:=hk e he
   rw[e1] at e3;cases e3
   rw[e2.inj e4];exact hn ms m1
  ·refine⟨_,rfl,aK ⟨_,rfl,q h3 h1.objs.size out mss c big g1 g2 (λv hv=>?_) (λns=>(g4.mem_iff).trans (kmem ns)) g5 ?_ λb o e=>?_⟩⟩
   ·obtain⟨e,he,rfl⟩:=cK.mp (g3 v hv)
    exact⟨e,wp.mem_iff.mp he,rfl⟩
   ·rw[g4.length_eq,kl,aS,wl]
   ·have:=aO e
    exact g6 b o (by intro z;simp only[Addr] at *;omega) (k2 b o e)
end
end
section
open PySem PySem.W PyProof.Rows
theorem ZB:typeLookup (.type "list_reverseiterator") "__len__" = pure none:=by rw[xN,pT];kernel_rfl
theorem Jh:typeLookup (.type "list_reverseiterator") "__length_hint__" = pure (some (.builtin "list_reverseiterator.__length_hint__")):=by rw[xN,pT];kernel_rfl
theorem TJ:isSubtype (.type "list_reverseiterator") (.type "list_reverseiterator")=pure true:=by rw[LS];kernel_rfl
section
variable {prog:bA} {w:cA} {A:cE} {E:aB->aD->Prop} {s:aD}
theorem Ko {I:Addr} {Q:Bool->aD->Prop} (ty:s.TypeIs (.ref I) "list_reverseiterator") (q:Q false s):wpAny (model prog w) A (iX (.ref I)) Q E s:=by
 unfold iX
 apply aA;refine lC ty ZB ?_
 show wpAny _ _ (specialOf (cU I) (wJ "__length_hint__") >>= _) _ _ _
 apply aA;refine lC ty Jh ?_
 dsimp only
 have sp:splitId "list_reverseiterator.__length_hint__" = some ("list_reverseiterator","__length_hint__"):=by decide +kernel
 rw[sp]
 dsimp only
 apply aA;refine vU (b:=true) ty TJ ?_
 simp only[eS,aP,if_false]
 have key:∀(c:Bool) (X Y:Sem Bool),c=true->wpAny (model prog w) A X Q E s->wpAny (model prog w) A (if c=true then X else Y) Q E s:=λc X Y hc h=>by rw[if_pos hc];exact h
 refine key _ _ _ (by decide +kernel) ?_
 rw[if_neg (by decide +kernel)]
 exact aK q
theorem OI {I l:Addr} {items:Array aB} {Q:aB->aD->Prop} (hh:A.handled=none) (ne:l≠I) (hz:items.size<=sizeLine) (hi:s.heap.IsRevIter I l ((items.size:Int)-1)) (hl:s.heap.IsList l items)
  (q:∀h' c,h'.get? s.heap.objs.size=some (seqObj "list" items.toList.reverse.toArray c)->(∀b o,b≠I->s.heap.get? b=some o->h'.get? b=some o)->Q (.ref s.heap.objs.size) { s with heap:=h' }) :
  wpAny (model prog w) A (call (.type "list") [.ref I]) Q E s:=by
 have ltI:I<s.heap.objs.size:=by obtain⟨o,e,_⟩:=hi;exact aO e
 have ltl:l<s.heap.objs.size:=by obtain⟨o,e,_⟩:=hl;exact aO e
 refine callType_codes (Q₁:=λobj s₁=>obj = .ref s.heap.objs.size/\s₁ = { s with heap:=s.heap.push { cls:=.type "list",data:=.seq #[] } }) F.called_list (F.typeCall_list_1 _) F.entry_list_init (code_list_new _ ⟨rfl,rfl⟩) λobj s₁ h₁=>?_
 obtain⟨rfl,rfl⟩:=h₁
 have hS:(s.heap.push { cls:=.type "list",data:=.seq #[] }).get? s.heap.objs.size=some { cls:=.type "list",data:=.seq #[] }:=bX _ rfl
 refine⟨⟨_,hS,rfl⟩,F.args_list_init_2 _ _,?_⟩
 show wpAny _ _ (do let old <-vW (.ref s.heap.objs.size);oE (.ref s.heap.objs.size) (λ_=>#[]);letGo old.toList.reverse;gL (.ref s.heap.objs.size) (.ref I) .none) _ _ _
 apply aA;unfold vW
 apply aA;apply iH hS rfl;apply aK
 show wpAny _ _ (updateSeq s.heap.objs.size (λ_=>#[]) >>= λ_=>letGo (#[]:Array aB).toList.reverse >>= λ_=>gL (.ref s.heap.objs.size) (.ref I) .none) _ _ _
 apply aA;refine gB hS rfl ?_
 have hS2:=dD (cW (λ_=>(#[]:Array aB))) hS rfl
 have up2:∀b o,b≠s.heap.objs.size->s.heap.get? b=some o->((s.heap.push { cls:=.type "list",data:=.seq #[] }).update s.heap.objs.size (cW (λ_=>(#[]:Array aB)))).get? b=some o :=
  λb o hb e=>(bO _ _ (Ne.symm hb)).trans (aJ _ e)
 generalize (s.heap.push { cls:=.type "list",data:=.seq #[] }).update s.heap.objs.size (cW (λ_=>(#[]:Array aB)))=h2 at hS2 up2
 apply aA;apply kO
 have neI:I≠s.heap.objs.size:=aR ltI
 have nel:l≠s.heap.objs.size:=aR ltl
 have hi2:h2.IsRevIter I l ((items.size:Int)-1):=hi.at λo e=>up2 _ o neI e
 have hl2:h2.IsList l items:=hl.at λo e=>up2 _ o nel e
 unfold gL
 apply aA;refine pL (T:="list_reverseiterator") hi2.typeIs ?_
 have g1:kB (.ref s.heap.objs.size) (.ref I)=false:=by simp[kB,jB ltI]
 have g2:(gE "list_reverseiterator" == gE "list")=false:=by decide
 have g3:(gE "list_reverseiterator" == gE "tuple")=false:=by decide
 simp only[g1,g2,g3,AV,aP,if_false]
 apply aA;refine wpAny_pyIter_revIter hi2 ?_
 apply aA;apply dC;refine Ko hi2.typeIs ?_
 have key:∀(c:Bool) (X Y:Sem Fin) {Q':Fin->aD->Prop} {E':aB->aD->Prop} {s':aD} {A':cE},c=false->wpAny (model prog w) A' Y Q' E' s'->wpAny (model prog w) A' (if c=true then X else Y) Q' E' s':=λc X Y _ _ _ _ hc h=>by rw[hc,if_neg bS];exact h
 refine key _ _ _ (by decide +kernel) ?_
 apply aK;refine⟨fE gY _,?_⟩
 refine UU (s0:=s) (n:=items.size) (J:=λacc h=>h.IsRevIter I l ((items.size:Int)-1-(acc.length:Int))/\h.IsList l items/\acc=items.toList.reverse.take acc.length/\∀b o,b≠I->b≠s.heap.objs.size->s.heap.get? b=some o->h.get? b=some o)
  (F:=λacc h=>acc=items.toList.reverse/\∀b o,b≠I->b≠s.heap.objs.size->s.heap.get? b=some o->h.get? b=some o) .none hz ?_ ?_ ?_ (λh' acc c hsz hF hS'=>⟨rfl,?_⟩) items.size #[] h2 _ rfl (dY _) ?_ hS2
 ·rintro acc h h' ⟨J1,J2,J3,J4⟩ hSo hz up
  exact⟨J1.at λo e=>up _ o neI e,J2.at λo e=>up _ o nel e,J3,λb o n1 n2 e=>up b o n2 (J4 b o n1 n2 e)⟩
 ·rintro acc s' o Q' E' hlt ⟨J1,J2,J3,J4⟩ hSo k
  have e:items[items.size-1-acc.length]? = some (items[items.size-1-acc.length]'(by omega)):=aW _
  refine wpAny_pyNext_rev_item (i:=items.size-1-acc.length) (by rw[show ((items.size-1-acc.length:Nat):Int)=(items.size:Int)-1-(acc.length:Int) by omega];exact J1) J2 e λh' it' sb=>k _ h' ⟨?_,J2.at λo e=>?_,?_,λb o n1 n2 e=>?_⟩ ?_
  ·rw[show ((items.size-1-acc.length:Nat):Int)-1=(items.size:Int)-1-((acc++[items[items.size-1-acc.length]'(by omega)]).length:Int) by simp;omega] at it'
   exact it'
  ·rw[sb.2 _ ne];exact e
  ·rw[bV,pS,oV,<-J3]
   congr 1
   rw[aC (by simp;omega),List.getElem_reverse]
   simp
  ·rw[sb.2 b n1];exact J4 b o n1 n2 e
  ·rw[sb.2 _ (Ne.symm neI)];exact hSo
 ·rintro acc s' o Q' E' hlen ⟨J1,J2,J3,J4⟩ hSo k
  rw[hlen] at J3
  refine wpAny_pyNext_rev_end (l:=l) (by simp[hh]) (by rw[show (-1:Int)=(items.size:Int)-1-(acc.length:Int) by omega];exact J1) λh' eb=>k h' ⟨?_,λb o n1 n2 e=>eb b o n1 (J4 b o n1 n2 e)⟩ (eb _ _ (Ne.symm neI) hSo)
  rw[J3,iZ]
  simp
 ·exact⟨by simpa using hi2,hl2,rfl,λb o _ n2 e=>up2 b o n2 e⟩
 ·refine q h' c ?_ λb o n1 e=>hF.2 b o n1 (aR (aO e)) e
  rw[hS',<-hF.1]
end
end
section
open PySem PySem.Spec PyProof.Rows L2
theorem boot_sorted:bootBuiltins "sorted" = some (.builtin "sorted"):=by decide +kernel
theorem boot_set:bootBuiltins "set" = some (.type "set"):=by decide +kernel
theorem VF {prog:bA} {w:cA}:∀{ns:List Int} {us:List aB},Vals (ns.map V.int) us->ItemsAre (intKind prog w) ns us
 | [],_,h=>by cases h;exact .nil
 | n::ns,_,h=>by
  cases h with
  | cons h1 t =>
   obtain⟨t',rfl⟩:=h1
   exact .cons (intKind_is _ _ _ _) (VF t)
def NC (te:RE):RA:=λρ Q=>te ρ λx=>∃nss:List (List Int),x = .lst (nss.map lV)/\nss.length<64/\(∀ns∈nss,ns≠[])/\∀mss:List (List Int),mss.Pairwise (λx y=>gM y x=false)->(∀ns,ns∈mss↔ns∈nss)->mss.length<=nss.length->Q (mss.map lV)
def NA (te:RE):RA:=λρ Q=>te ρ λx=>∃ds:List D,x = .lst ds/\Q ds.reverse
theorem XC {K:aF} {H:Hp}:∀(out:List aB) (mss:List (List Int)),out.length=mss.length->(∀(i:Nat) (v:aB),out[i]? = some v->∃a,v = .ref a/\H a=some (.tup ((mss.getD i []).map V.int)))->∃ws:List V,Vals ws out/\Reps K H (mss.map lV) ws
 | [],[],_,_=>⟨[],.nil,.nil⟩
 | [],_::_,h,_=>by simp at h
 | _::_,[],h,_=>by simp at h
 | v::out,ms::mss,h,k=>by
  obtain⟨ws,h1,h2⟩:=XC (K:=K) (H:=H) out mss (by simpa using h) λi v e=>k (i+1) v (by simpa using e)
  obtain⟨a,rfl,ha⟩:=k 0 v rfl
  exact⟨.ref a::ws,.cons rfl h1,.cons (.tup ha Reps.ints) h2⟩
section
variable {X:Cx} {e:Expr} {te:RE} {p pz pos posz:Pos}
theorem YJ {k:Nat} (hr:Room k X.A) (hms:X.mg "sorted" = none) (hmz:X.mg "set" = none) (hc:X.calm=true) (h:DB X e te) (hgs:Gl X "sorted":=by rfl) (hgz:Gl X "set":=by rfl)
  (hs:starEach [.Call (.Name "set" pz) [e] [] posz] X.env=[(false,eval (.Call (.Name "set" pz) [e] [] posz) X.env)]:=by rfl) (hn:starEach [] X.env=[]:=by rfl) (h1:starEach [e] X.env=[(false,eval e X.env)]:=by rfl) :
  DO X (.Call (.Name "sorted" p) [.Call (.Name "set" pz) [e] [] posz] [] pos) (NC te):=by
 intro pins s σ H Q I hh_0
 obtain⟨ρ,P,st,q,kq⟩:=hh_0
 refine dM (qC I hgs hms boot_sorted ?_)
 refine hZ ?_ (by rw[hs,hn]) (by rw[hn];rfl)
 rw[hs]
 show wpAny _ _ (spliced ((false,eval (.Call (.Name "set" pz) [e] [] posz) X.env)::backTo pos [])) _ _ s
 refine sD (dM (qC I hgz hmz boot_set ?_))
 refine dZ (thn (nE h h1 hn posz pins s σ H (λvs H1=>∃(nss:List (List Int)) (v:V),vs=[v]/\Same H H1/\RepB X.K H1 (.lst (nss.map lV)) v/\nss.length<64/\(∀ns∈nss,ns≠[])/\∀mss:List (List Int),mss.Pairwise (λx y=>gM y x=false)->(∀ns,ns∈mss↔ns∈nss)->mss.length<=nss.length->P (mss.map lV)) I
  ⟨ρ,_,st,q,λx v H1 hx s1 r1=>?_⟩) λus s1 ⟨vs,H1,I1,r1,q1⟩=>?_) (by rw[h1,hn]) (by rw[hn];rfl)
 ·obtain⟨nss,rfl,a1,a2,a3⟩:=hx
  exact⟨nss,v,rfl,s1,r1,a1,a2,a3⟩
 obtain⟨nss,v,rfl,s01,rb,h64,hne,hP⟩:=q1
 obtain⟨l,vs,rfl,hq,rr⟩:=rb.lst
 obtain⟨u,rfl,rx⟩:=vals1 r1
 cases rx
 obtain⟨its,rv,pl,hz⟩:=I1.list hq
 have l1:=rr.length
 have l2:=rv.length
 rw[aS] at l1
 have each:∀(i:Nat) (u:aB),its[i]? = some u->∃ns a,nss[i]? = some ns/\vs[i]? = some (.ref a)/\u = .ref a/\IsTupleKey (intKind X.prog X.w) s1.heap ns a:=λi u e=>by
  have hi:i<nss.length:=by have:=(aX.mp e).1;omega
  obtain⟨v,e1,e2⟩:=rr.get (i:=i) (d:=lV nss[i]) (by rw[aT,aC hi];rfl)
  obtain⟨a,rfl,ha⟩:=Reps.tupI_inv e2
  obtain⟨u',f1,f2⟩:=rv.get e1
  rw[e] at f1;cases f1
  cases f2
  obtain⟨ts,g1,g2,_⟩:=I1.tuple (SqT.of (K:=X.K) ha)
  obtain⟨o,go,gc,n,gd⟩:=g2
  exact⟨_,a,aC hi,e1,rfl,o,ts.toArray,n,go,gc,gd,by simpa using VF g1⟩
 have hu:=hr.un
 refine OL (key:=λi=>nss.getD i []) (I1.ok.hd hc) (by omega) pl.isList (λi u e=>?_) (by simp;omega) λh2 tk D up=>?_
 ·obtain⟨ns,a,n1,_,rfl,hk⟩:=each i u (by simpa using e)
  refine⟨a,rfl,?_⟩
  have:nss.getD i []=ns:=by rw[bR,n1];rfl
  rw[this];exact hk
 refine tI ?_
 obtain⟨es,ST,d1,d2,d3⟩:=D
 have keyAt:∀{ns:List Int} {a:Addr},IsTupleKey (intKind X.prog X.w) s1.heap ns a->IsTupleKey (intKind X.prog X.w) h2 ns a:=λ⟨o,its,n,g1,g2⟩=>⟨o,its,n,up _ _ g1,g2⟩
 have elem:∀e∈es.toList,∃(i:Nat) (ns:List Int) (a:Addr),nss[i]? = some ns/\vs[i]? = some (.ref a)/\e.2 = .ref a/\IsTupleKey (intKind X.prog X.w) h2 ns a:=λe he=>by
  obtain⟨j,hj,ej⟩:=d1 e he
  obtain⟨ns,a,n1,n2,n3,hk⟩:=each j e.2 (by simpa using ej)
  exact⟨j,ns,a,n1,n2,n3,keyAt hk⟩
 refine JA (s:={ s1 with heap:=h2,toks:=tk }) (A:=X.A) (I1.ok.hd hc) ST (by simp at d3;omega) (nss:=nss) hne (λe he=>?_) λh3 Dd out mss c big g1 g2 g3 g4 g5 g6 up3=>?_
 ·obtain⟨i,ns,a,n1,n2,n3,hk⟩:=elem e he
  exact⟨ns,bF n1,a,n3,hk⟩
 have kp:∀b o,s1.heap.get? b=some o->h3.get? b=some o:=λb o e=>up3 b o (up b o e)
 have I3:Inv X pins σ H1 { s1 with heap:=h3,toks:=tk }:=I1.kept kp
 have szS:s1.heap.objs.size<h2.objs.size:=by obtain⟨⟨ep,t,ho,_⟩,_⟩:=ST;exact aO ho
 have big2:s1.heap.objs.size<=Dd:=by have:h2.objs.size<=Dd:=big;omega
 have hS0:H1 Dd=none:=I1.hok.fresh big2
 have tupAt:∀{i:Nat} {ns:List Int} {a:Addr},nss[i]? = some ns->vs[i]? = some (.ref a)->H1 a=some (.tup (ns.map V.int)):=λ{i ns a} n1 n2=>by
  obtain⟨w,f1,f2⟩:=rr.get (i:=i) (d:=lV ns) (by rw[aT,n1];rfl)
  rw[n2] at f1;cases f1
  obtain⟨b,e,hb⟩:=Reps.tupI_inv f2
  cases e;exact hb
 obtain⟨ws,VV,RR⟩:=XC (K:=X.K) (H:=H1) out mss g2.1 λi v e=>by
  obtain⟨x,hx,ex⟩:=g3 v (bF e)
  obtain⟨j,ns,a,n1,n2,n3,hk⟩:=elem x hx
  obtain⟨b,eb,hb⟩:=g2.2 i v e
  rw[<-ex,n3] at eb;cases eb
  refine⟨a,by rw[<-ex,n3],?_⟩
  have hk3:IsTupleKey (intKind X.prog X.w) h3 ns a:=by obtain⟨o,its,n,q1,q2⟩:=hk;exact⟨o,its,n,up3 _ _ q1,q2⟩
  rw[hb.inj hk3]
  exact tupAt n1 n2
 have lo:out.length<=64:=by rw[g2.1,g6];simp at d3;omega
 have lw:=VV.length
 have I4:=I1.trackO (a:=Dd) (w:=.lst ws) I3 big2 hS0 ⟨by rw[eX];omega,out,c,VV,g1⟩
 refine⟨.ref Dd,_,I4,rfl,kq _ _ _ H1 (hP mss g5 (λns=>?_) (by rw[g6];simp at d3;omega)) s01 hS0 RR⟩
 rw[g4 ns]
 constructor
 ·rintro⟨x,hx,a,e1,e2⟩
  obtain⟨j,ms,b,n1,n2,n3,hk⟩:=elem x hx
  rw[e1] at n3;cases n3
  rw[e2.inj hk];exact bF n1
 ·intro h
  obtain⟨j,hj,rfl⟩:=eK h
  obtain⟨y,hy,b,e1,e2⟩:=d2 j (by simp;omega)
  refine⟨y,hy,b,e1,?_⟩
  have:nss.getD j []=nss[j]:=by simp[hj]
  rw[this] at e2;exact e2
theorem YI (hml:X.mg "list" = none) (hmz:X.mg "reversed" = none) (hc:X.calm=true) (h:DB X e te) (hgl:Gl X "list":=by rfl) (hgz:Gl X "reversed":=by rfl)
  (hs:starEach [.Call (.Name "reversed" pz) [e] [] posz] X.env=[(false,eval (.Call (.Name "reversed" pz) [e] [] posz) X.env)]:=by rfl) (hn:starEach [] X.env=[]:=by rfl) (h1:starEach [e] X.env=[(false,eval e X.env)]:=by rfl) :
  DO X (.Call (.Name "list" p) [.Call (.Name "reversed" pz) [e] [] posz] [] pos) (NA te):=by
 intro pins s σ H Q I hh_0
 obtain⟨ρ,P,st,q,kq⟩:=hh_0
 refine dM (qC I hgl hml boot_list ?_)
 refine dZ ?_ (by rw[hs,hn]) (by rw[hn];rfl)
 rw[hs]
 show wpAny _ _ (spliced ((false,eval (.Call (.Name "reversed" pz) [e] [] posz) X.env)::backTo pos [])) _ _ s
 refine sD (dM (qC I hgz hmz boot_reversed ?_))
 refine dZ (thn (nE h h1 hn posz pins s σ H (λvs H1=>∃(ds:List D) (v:V),vs=[v]/\Same H H1/\RepB X.K H1 (.lst ds) v/\P ds.reverse) I
  ⟨ρ,_,st,q,λx v H1 hx s1 r1=>?_⟩) λus s1 ⟨vs,H1,I1,r1,q1⟩=>?_) (by rw[h1,hn]) (by rw[hn];rfl)
 ·obtain⟨ds,rfl,a1⟩:=hx
  exact⟨ds,v,rfl,s1,r1,a1⟩
 obtain⟨ds,v,rfl,s01,rb,hP⟩:=q1
 obtain⟨l,vs,rfl,hq,rr⟩:=rb.lst
 obtain⟨u,rfl,rx⟩:=vals1 r1
 cases rx
 obtain⟨its,rv,pl,hz⟩:=I1.list hq
 have l1:=rr.length
 have l2:=rv.length
 have lt:l<s1.heap.objs.size:=by obtain⟨o,e,_⟩:=pl.isList;exact aO e
 refine call_reversed_list pl.isList ?_
 refine tI ?_
 have g0:(s1.heap.push (revObj l ((its.toArray.size:Int)-1))).get? s1.heap.objs.size=some (revObj l ((its.toArray.size:Int)-1)):=bX _ rfl
 have k1:∀b o,s1.heap.get? b=some o->(s1.heap.push (revObj l ((its.toArray.size:Int)-1))).get? b=some o:=λb o e=>aJ _ e
 have z1:(s1.heap.push (revObj l ((its.toArray.size:Int)-1))).objs.size=s1.heap.objs.size+1:=kF ..
 generalize s1.heap.push (revObj l ((its.toArray.size:Int)-1))=h2 at g0 k1 z1
 refine OI (s:={ s1 with heap:=h2 }) (A:=X.A) (l:=l) (I1.ok.hd hc) (aR lt) (by simp;omega) ⟨_,g0,rfl,rfl⟩ (pl.isList.at λo e=>k1 _ o e) λh3 c g1 up=>?_
 show EP X pins σ Q (.ref h2.objs.size) _
 rw[show (Shared.heap { s1 with heap:=h2 }).objs.size=s1.heap.objs.size+1 from z1] at g1
 rw[z1]
 have kp:∀b o,s1.heap.get? b=some o->h3.get? b=some o:=λb o e=>up b o (aR (aO e)) (k1 b o e)
 have I3:Inv X pins σ H1 { s1 with heap:=h3 }:=I1.kept (t':=s1.toks) kp
 have hS0:H1 (s1.heap.objs.size+1)=none:=I1.hok.fresh (mF _)
 have VV:Vals vs.reverse its.reverse:=by
  clear hq pl hz l1 l2 rr g1 g0
  induction rv with
  | nil=>exact .nil
  | cons r t ih =>
   simp only[tN]
   exact Vals.append ih (.cons r .nil)
 have I4:=I1.trackO (a:=s1.heap.objs.size+1) (w:=.lst vs.reverse) I3 (mF _) hS0 ⟨by simp;omega,its.reverse,c,VV,by simpa using g1⟩
 exact⟨.ref (s1.heap.objs.size+1),_,I4,rfl,kq _ _ _ H1 hP s01 hS0 rr.reverse⟩
end
section
variable {X:Cx} {tg:Expr}
def Ul (lo:Int) (n:Nat):List D:=(cV n).map λk:Nat=>D.int (lo+(k:Int)*2)
structure StpOk (j:Int):Prop where
 lo:-(2 ^ 60)<=j
 hi:j<2 ^ 60
def Rx (t:RA):RA:=λρ Q=>t ρ λds=>match ds with
 | [.int i,.int j,.int c]=>(StpOk i/\StpOk j/\c=2)/\Q (Ul i ((j-i+1) / 2).toNat)
 | _=>False
end
end
end L2.R2
namespace L2
open PySem PySem.Spec PyProof.Rows
section
variable {κ:Type} [DecidableEq κ]
def rR (kvs:List (κ × V)) (k:κ):Option V:=(kvs.find? λkv=>decide (kv.1=k)).map (·.2)
def ZT (kvs:List (κ × V)) (k:κ) (v:V):List (κ × V) :=
 if (kvs.any λkv=>decide (kv.1=k))=true then kvs.map (λkv=>if kv.1=k then (kv.1,v) else kv) else kvs++[(k,v)]
theorem qO {p:κ × V} {r:List (κ × V)} {k:κ} (e:p.1=k):rR (p::r) k=some p.2:=by simp[rR,lA,e]
theorem pI {p:κ × V} {r:List (κ × V)} {k:κ} (e:¬p.1=k):rR (p::r) k=rR r k:=by simp[rR,lA,e]
theorem XR (k:κ):∀kvs:List (κ × V),(kvs.any λkv=>decide (kv.1=k))=(rR kvs k).isSome
 | []=>rfl
 | p::r=>by
  rw[AY]
  by_cases e:p.1=k
  ·simp only[qO e,decide_eq_true e,Bool.true_or,Option.isSome_some]
  ·rw[pI e,decide_eq_false e,NZ];exact XR k r
theorem Kb {kvs:List (κ × V)} {k:κ} (v:V) (h:rR kvs k=none):ZT kvs k v=kvs++[(k,v)]:=by
 unfold ZT
 rw[XR,h]
 exact if_neg (by decide)
theorem RelO.getD {o:Option V} {u:Option aB} {d:V} {d':aB} (r:RelO o u) (rd:RelV d d'):RelV (o.getD d) (u.getD d'):=by
 cases o with
 | none=>cases u with
  | none=>exact rd
  | some _=>exact (show False from r).elim
 | some _=>cases u with
  | none=>exact (show False from r).elim
  | some _=>exact r
theorem KV.val {kvs:List (κ × V)} {vs:List (κ × aB)} (r:KV kvs vs) (k:κ):RelO (rR kvs k) (valueAt vs k):=by
 unfold KV at r
 induction r with
 | nil=>exact jG
 | @cons p q ps qs h t ih =>
  obtain⟨h1,h2⟩:=h
  by_cases e:p.1=k
  ·have e':q.1=k:=h1.symm.trans e
   have b:valueAt (q::qs) k=some q.2:=by simp[valueAt,lA,e']
   rw[qO e,b];exact h2
  ·have e':¬q.1=k:=λz=>e (h1.trans z)
   have b:valueAt (q::qs) k=valueAt qs k:=by simp[valueAt,lA,e']
   rw[pI e,b];exact ih
theorem KV.any {kvs:List (κ × V)} {vs:List (κ × aB)} (r:KV kvs vs) (k:κ):(kvs.any λkv=>decide (kv.1=k))=vs.any λkv=>decide (kv.1=k):=by
 unfold KV at r
 induction r with
 | nil=>rfl
 | cons h t ih=>rw[AY,AY,ih,h.1]
theorem KV.repl {kvs:List (κ × V)} {vs:List (κ × aB)} (r:KV kvs vs) (k:κ) {y:V} {u:aB} (ry:RelV y u) :
  KV (kvs.map λkv=>if kv.1=k then (kv.1,y) else kv) (vs.map λkv=>if kv.1=k then (kv.1,u) else kv):=by
 unfold KV at r ⊢
 induction r with
 | nil=>exact .nil
 | @cons p q ps qs h t ih =>
  rw[aU,aU]
  refine .cons ?_ ih
  obtain⟨h1,h2⟩:=h
  by_cases e:p.1=k
  ·rw[if_pos e,if_pos (h1.symm.trans e)];exact⟨h1,ry⟩
  ·rw[if_neg e,if_neg (λz=>e (h1.trans z))];exact⟨h1,h2⟩
theorem KV.put {kvs:List (κ × V)} {vs:List (κ × aB)} (r:KV kvs vs) (k:κ) {y:V} {u:aB} (ry:RelV y u):KV (ZT kvs k y) (stored vs k u):=by
 unfold ZT stored
 rw[r.any k]
 by_cases e:(vs.any λkv=>decide (kv.1=k))=true
 ·rw[if_pos e,if_pos e];exact r.repl k ry
 ·rw[if_neg e,if_neg e];exact Paired.snoc r ⟨rfl,ry⟩
theorem KV.length {kvs:List (κ × V)} {vs:List (κ × aB)} (r:KV kvs vs):kvs.length=vs.length:=OD r
end
theorem Iq {P:bA} {w:cA} {k:Key} {u:aB} (r:RelV (kV k) u):(kY P w).is k u=true:=by
 cases k with
 | inl i=>obtain⟨t,e⟩:=(show ∃t,u=GU i t from r);subst e;exact WB P w i t
 | inr x=>obtain⟨t,e⟩:=(show ∃t,u=GV x t from r);subst e;exact WC P w x t
theorem PY {P:bA} {w:cA}:∀{ks:List Key} {us:List aB},Vals (ks.map kV) us->ItemsAre (kY P w) ks us
 | [],_,r=>by rw[cX] at r;cases r;exact .nil
 | k::ks,_,r=>by
  rw[aU] at r
  cases r with
  | cons h t=>exact .cons (Iq h) (PY t)
abbrev KT (H:Hp):List (List Key × V)->List (List Key × Addr × aB)->Prop:=Paired λp q=>p.1=q.1/\H q.2.1=some (.tup (p.1.map kV))/\RelV p.2 q.2.2
theorem KT.val {H:Hp} {kvs:List (List Key × V)} {xs:List (List Key × Addr × aB)} (r:KT H kvs xs) (k:List Key):RelO (rR kvs k) ((atKey xs k).map (·.2)):=by
 induction r with
 | nil=>exact jG
 | @cons p q ps qs h t ih =>
  obtain⟨h1,_,h2⟩:=h
  by_cases e:p.1=k
  ·have e':q.1=k:=h1.symm.trans e
   have b:atKey (q::qs) k=some q.2:=by simp[atKey,lA,e']
   rw[qO e,b];exact h2
  ·have e':¬q.1=k:=λz=>e (h1.trans z)
   have b:atKey (q::qs) k=atKey qs k:=by simp[atKey,lA,e']
   rw[pI e,b];exact ih
section
variable {P:bA} {w:cA} {H:Hp} {h:Heap} {a:Addr}
theorem Pe {u:HO} (ok:HOk P w H h) (e:Rd H a u):ObjOk P w H h a u:=e.ok ok
theorem Bb {kvs:List (Key × V)} (ok:HOk P w H h) (e:Rd H a (.dK kvs)):kvs.length<=sizeLine/\(a == sysModules)=false/\∃vs,KV kvs vs/\h.DictOf (kY P w) a vs :=
 show ObjOk P w H h a (.dK kvs) from Pe ok e
theorem Sx {kvs:List (Key × V)} (ok:HOk P w H h) (e:H a=some (.dK kvs)):kvs.length<=sizeLine/\(a == sysModules)=false/\∃vs,KV kvs vs/\h.DictOf (kY P w) a vs:=Bb ok (.inl e)
theorem Iu {ks:List Key} (ok:HOk P w H h) (e:H a=some (.tup (ks.map kV))):(tupleKind (kY P w)).is h ks a:=by
 obtain⟨_,its,r,o,h1,h2,n,h3⟩:=(show ObjOk P w H h a (.tup (ks.map kV)) from ok a _ e)
 exact⟨o,its.toArray,n,h1,h2,h3,by simpa using PY r⟩
theorem On {kvs:List (List Key × V)} (ok:HOk P w H h) (e:Rd H a (.dT kvs)):kvs.length<=sizeLine/\(a == sysModules)=false /\
  ∃xs,KT H kvs xs/\h.DictOfH (tupleKind (kY P w)) a xs:=by
 obtain⟨z,y,xs,r,o,es,ep,h1,h2,h3,h4,h5⟩:=(show ObjOk P w H h a (.dT kvs) from Pe ok e)
 refine⟨z,y,xs,r,o,es,ep,h1,h2,h3,h4,λx hx=>?_,h5⟩
 have all:∀{l:List (List Key × V)} {m:List (List Key × Addr × aB)},KT H l m->∀x∈m,(tupleKind (kY P w)).is h x.1 x.2.1:=by
  intro l m q
  induction q with
  | nil=>intro x hx;exact nomatch hx
  | @cons p q ps qs hq t ih =>
   intro x hx
   rcases aL.mp hx with e | hx
   ·subst e
    exact Iu ok (by rw[<-hq.1];exact hq.2.1)
   ·exact ih x hx
 exact all r x hx
end
def DGet (H:Hp) (a:Addr) (y:V) (r:Option V):Prop :=
 (∃kvs k,Rd H a (.dK kvs)/\y=kV k/\r=rR kvs k)\/∃kvs k b,Rd H a (.dT kvs)/\y = .ref b/\H b=some (.tup (k.map kV))/\r=rR kvs k
def DPut (H:Hp) (a:Addr) (y v:V) (H':Hp):Prop :=
 (∃kvs k,H a=some (.dK kvs)/\y=kV k/\kvs.length<sizeLine/\H'=upd H a (.dK (ZT kvs k v))) \/
 ∃kvs k b,H a=some (.dT kvs)/\y = .ref b/\H b=some (.tup (k.map kV))/\kvs.length<sizeLine/\H'=upd H a (.dT (ZT kvs k v))
theorem DGet.k {H:Hp} {a:Addr} {kvs:List (Key × V)} {k:Key} (e:H a=some (.dK kvs)):DGet H a (kV k) (rR kvs k):=.inl ⟨kvs,k,.inl e,rfl,rfl⟩
theorem DPut.k {H:Hp} {a:Addr} {kvs:List (Key × V)} {k:Key} {v:V} (e:H a=some (.dK kvs)) (hl:kvs.length<sizeLine):DPut H a (kV k) v (upd H a (.dK (ZT kvs k v))):=.inl ⟨kvs,k,e,rfl,hl,rfl⟩
section
variable {X:Cx} {pins:List (Addr × Obj)} {σ:St} {H:Hp} {s:aD} {a:Addr} {y v:V} {u r:aB} {o:Option V} {A:cE} {E:aB->aD->Prop}
theorem Inv.big (I:Inv X pins σ H s):sysModules<s.heap.objs.size:=by
 have h:mainGlobals<s.heap.objs.size:=(I.mod.glob.keeps I.bk).lt
 exact mQ (by decide) h
theorem Dr {Q:aB->aD->Prop} (hu:A.units+1<cLine) (I:Inv X pins σ H s) (g:DGet H a y (some v)) (ry:RelV y u) (h:∀w' s',Inv X pins σ H s'->RelV v w'->Q w' s') :
  wpAny (model X.prog X.w) A (getItem (.ref a) u) Q E s:=by
 rcases g with ⟨kvs,k,e,ey,l⟩ | ⟨kvs,k,b,e,ey,eb,l⟩
 ·subst ey
  obtain⟨z,hd,vs,rel,dd⟩:=Bb I.hok e
  obtain⟨w',hw,rw'⟩:=RelO.some_of (v:=v) (o:=valueAt vs k) (by rw[l];exact rel.val k)
  exact wpAny_getItem_of (Iq ry) dd.mapOf hw (h w' _ (I.tok _) rw')
 ·subst ey
  cases (show u=cU b from ry)
  obtain⟨z,hd,xs,rel,dd⟩:=On I.hok e
  obtain⟨w',hw,rw'⟩:=RelO.some_of (v:=v) (o:=(atKey xs k).map (·.2)) (by rw[l];exact rel.val k)
  obtain⟨p,hp,hp2⟩:=kR.mp hw
  refine wpAny_getItem_heap (tupleKind_room_in1 hu) (Iu I.hok eb) dd hp ?_
  rw[hp2]
  exact h w' _ (I.tok _) rw'
theorem Lk {h':Heap} {t':Nat} {ob:HO} (I:Inv X pins σ H s) (mu:Mut (H a)) (hs:kP a s.heap h') (he:∃q,h'.get? a=some q) (new:ObjOk X.prog X.w (upd H a ob) h' a ob) :
  Inv X pins σ (upd H a ob) { s with heap:=h',toks:=t' } :=
 I.write (x:=a) (e:=a) mu (.inl rfl) (λb q hb z=>(hs.2 b hb).trans z) he new
theorem Pp {P:bA} {w:cA} {H':Hp} {h':Heap} {kvs:List (Key × V)} {vs:List (Key × aB)} (z:kvs.length<=sizeLine) (hd:(a == sysModules)=false) (rel:KV kvs vs) (dd:h'.DictOf (kY P w) a vs) :
  ObjOk P w H' h' a (.dK kvs):=⟨z,hd,vs,rel,dd⟩
end
section
variable {X:Cx} {pins:List (Addr × Obj)} {σ:St} {H:Hp} {s:aD} {a:Addr} {kvs:List (Key × V)} {k:Key} {u:aB} {A:cE} {E:aB->aD->Prop}
end
def Pg (i:Expr):Prop:=∀ov iv,subscripted i false ov iv=operate [ov,iv] (getItem ov iv)
theorem Oe {prog:bA} {w:cA} {A:cE} {E:aB->aD->Prop} {s:aD} {env:Env} {value slice:Expr} {pos:Pos} {T id:String} {Q:aB->aD->Prop}
  (hl:typeLookup (.type T) "__getitem__" = pure (some (.builtin id))) (hs:Pg slice)
  (h:wpAny (model prog w) A (eval value env) (λo s₁=>wpAny (model prog w) A (eval slice env) (λi s₂=>s₂.TypeIs o T/\wpAny (model prog w) A (getItem o i) Q E s₂) E s₁) E s) :
  wpAny (model prog w) A (eval (.Subscript value slice pos) env) Q E s:=by
 refine Subscript_ (dI h (λo s₁ h₁=>dI h₁ (λi s₂ h₂=>?_) λ_ _ x=>x) λ_ _ x=>x)
 obtain⟨hT,h₂⟩:=h₂
 unfold subscriptTail
 refine aA ?_
 rw[getitemInPython_of_ne hT.not_modules]
 refine aA (lC hT hl ?_)
 have fin:wpAny (model prog w) A (subscripted slice false o i) (λr s₃=>wpAny (model prog w) A (letTemporaryGo value o r >>= λ_=>pure r) Q E s₃) E s₂:=by
  rw[hs o i]
  exact wpAny_operating (dI h₂ (λr s₃ h₃=>aA (wpAny_letTemporaryGo (aK h₃))) λ_ _ x=>x)
 first
  | exact aK (aA fin)
  | exact aA (aK (aA fin))
  | exact aA fin
theorem UG {X:Cx} {pins:List (Addr × Obj)} {σ:St} {H:Hp} {s:aD} {a:Addr} {y:V} {o:Option V} (I:Inv X pins σ H s) (g:DGet H a y o):s.TypeIs (.ref a) "dict":=by
 rcases g with ⟨kvs,k,e,_,_⟩ | ⟨kvs,k,b,e,_,_,_⟩
 ·obtain⟨_,_,vs,_,dd⟩:=Bb I.hok e
  exact dd.typeIs
 ·obtain⟨_,_,xs,_,dd⟩:=On I.hok e
  exact dd.typeIs
def Us (td ty:TE):TE:=λσ H Q=>td σ H λx H1=>ty σ H1 λy H2=>∃a v,x = .ref a/\DGet H2 a y (some v)/\Q v H2
section
variable {X:Cx} {o i e value:Expr} {pos pos' tpos:Pos} {td ty tv:TE}
theorem Np (hu:X.A.units+1<cLine) (ho:PE X o td) (hi:PE X i ty) (hs:Pg i):PE X (.Subscript o i pos) (Us td ty):=by
 intro pins s σ H Q I h
 refine Oe PySem.F.slot_dict_getitem.lookup hs (thn (ho pins s σ H _ I h) λu s1 ⟨x,H1,I1,rx,q1⟩=>thn (hi pins s1 σ H1 _ I1 q1) λiv s2 ⟨y,H2,I2,ry,a,v,ex,g,q2⟩=>?_)
 subst ex
 obtain rfl:u=cU a:=rx
 exact⟨UG I2 g,Dr hu I2 g ry λw' s3 I3 rw'=>⟨v,H2,I3,rw',q2⟩⟩
end
theorem Hl {P:bA} {w:cA} {H:Hp} (h:Heap) (hb:sysModules<h.objs.size):ObjOk P w H (h.push { cls:=.type "dict",data:=.dict #[] }) h.objs.size (.dK []) :=
 ⟨dY _,beq_eq_false_iff_ne.mpr (Ne.symm (aR hb)),[],.nil,Heap.DictOf.new h⟩
def Sf:TE:=λ_ H Q=>∀p,H p=none->Q (.ref p) (upd H p (.dK []))
section
variable {X:Cx} {pos:Pos}
theorem Jq:PE X (.Dict [] [] pos) Sf:=λpins s σ H Q I h =>
 wpAny_Dict_empty ⟨.ref s.heap.objs.size,_,I.laid (a:=s.heap.objs.size) (o:=.dK []) (t':=s.toks) (λ_ _ q=>aJ _ q) (aZ _) (Hl s.heap I.big),rfl,h _ (I.hok.fresh (aZ _))⟩
end
abbrev VV:List (V × V)->List (aB × aB)->Prop:=Paired λp q=>RelV p.1 q.1/\RelV p.2 q.2
section
variable {X:Cx} {pins:List (Addr × Obj)} {σ:St} {H:Hp} {s:aD} {a:Addr} {y d:V} {u r:aB} {o:Option V} {A:cE} {E:aB->aD->Prop}
end
section
variable {X:Cx} {o e f:Expr} {apos cpos:Pos} {td ty tx:TE}
end
section
variable {X:Cx} {pins:List (Addr × Obj)} {σ:St} {H:Hp} {s:aD} {a:Addr} {kvs:List (Key × V)} {A:cE} {E:aB->aD->Prop}
end
section
variable {X:Cx} {pins:List (Addr × Obj)} {σ:St} {H:Hp} {s:aD} {a:Addr} {y:V} {u:aB} {A:cE} {E:aB->aD->Prop}
end
end L2
namespace L2.R2
section
open PySem PySem.Spec PyProof.Rows L2
def Nw:V->List V->Hp->VK->Prop:=λx vs H Q=>∃a kvs k y,x = .ref a/\vs=[kV k,y]/\H a=some (.dK kvs)/\kvs.length<sizeLine /\
 (∀v,rR kvs k=some v->Q v H)/\(rR kvs k=none->Q y (upd H a (.dK (kvs++[(k,y)]))))
section
variable {X:Cx}
theorem Eu:MtR X "dict.setdefault" Nw:=by
 intro pins s σ H x vs v us Q I rx rv h
 obtain⟨a,kvs,k,y,rfl,rfl,hH,hz,h1,h2⟩:=h
 cases rx
 obtain⟨u,w,rfl,ru,rw'⟩:=rv.two
 obtain⟨z,hd,ws,rel,dd⟩:=Sx I.hok hH
 have val:=rel.val k
 refine call_meetsIn qR dd.typeIs PySem.F.entry_dict_setdefault (PySem.F.args_dict_setdefault_3 _ _ _) (kt_meets_setdefault (kY X.prog X.w) a (Iq ru) hd w)
  ⟨ws,dd,by rw[<-rel.length];exact z,λv hv=>?_,λhn h' dd' hs=>?_⟩
 ·rw[hv] at val
  cases e:rR kvs k with
  | none=>rw[e] at val;exact (show False from val).elim
  | some v'=>rw[e] at val;exact⟨v',H,I.tok _,val,h1 v' e⟩
 ·rw[hn] at val
  cases e:rR kvs k with
  | some _=>rw[e] at val;exact (show False from val).elim
  | none =>
   have he:∃q,h'.get? a=some q:=let ⟨q,_,_,hq,_⟩:=dd';⟨q,hq⟩
   have r2:=rel.put k rw'
   rw[Kb y e] at r2
   exact⟨y,_,Lk I (by rw[hH];exact jG) hs he (Pp (by rw[bV];exact hz) hd r2 dd'),rw',h2 e⟩
end
def yB:List (Int × List D)->Int->List (Int × List D)
 | [],k=>[(k,[])]
 | (k',ds)::r,k=>if k'=k then (k',ds)::r else (k',ds)::yB r k
def putL:List (Int × List D)->Int->D->List (Int × List D)
 | [],k,d=>[(k,[d])]
 | (k',ds)::r,k,d=>if k'=k then (k',ds++[d])::r else (k',ds)::putL r k d
section
variable {K:aF} {H₀ H H':Hp} {kvs:List (Int × List D)} {kws:List (Key × V)} {as:List Addr} {k:Int}
theorem ZS {v:V} (t:Dcl K H₀ H kvs kws as) (e:rR kws (fG k)=some v):yB kvs k=kvs:=by
 induction t with
 | nil=>cases e
 | @cons k' b vs ds kvs kws as h h0 r n t ih =>
  unfold yB
  by_cases hk:k'=k
  ·rw[if_pos hk]
  ·rw[if_neg hk,ih (by rw[pI (λz=>hk (by cases z;rfl))] at e;exact e)]
theorem Dcl.there {v:V} (t:Dcl K H₀ H kvs kws as) (e:rR kws (fG k)=some v):∃b vs ds,v = .ref b/\b∈as/\H b=some (.lst vs)/\Reps K H ds vs/\(∃p∈kvs,p.2=ds) /\
  ∀(H':Hp) (d:D) (w:V),Keep H H'->H' b=some (.lst (vs++[w]))->(∀a o,a∈as->a≠b->H a=some o->H' a=some o)->Rep K H' d w->Dcl K H₀ H' (putL kvs k d) kws as:=by
 induction t with
 | nil=>cases e
 | @cons k' b vs ds kvs kws as h h0 r n t ih =>
  by_cases hk:k'=k
  ·subst hk
   rw[qO rfl] at e
   cases e
   refine⟨b,vs,ds,rfl,.head _,h,r,⟨_,.head _,rfl⟩,λH' d w kp hb ho rd=>?_⟩
   unfold putL
   rw[if_pos rfl]
   exact .cons hb h0 ((r.keep kp).append (.cons rd .nil)) n (t.keep kp λa m o e=>ho a o (.tail _ m) (by rintro rfl;exact n m) e)
  ·rw[pI (λz=>hk (by cases z;rfl))] at e
   obtain⟨c,us,es,e1,m,g1,g2,⟨p,pm,pe⟩,g3⟩:=ih e
   refine⟨c,us,es,e1,.tail _ m,g1,g2,⟨p,.tail _ pm,pe⟩,λH' d w kp hb ho rd=>?_⟩
   unfold putL
   rw[if_neg hk]
   exact .cons (ho b _ (.head _) (by rintro rfl;exact n m) h) h0 (r.keep kp) n (g3 H' d w kp hb (λa o q=>ho a o (.tail _ q)) rd)
theorem Dcl.fresh {p:Addr} (t:Dcl K H₀ H kvs kws as) (e:rR kws (fG k)=none) (kp:Keep H H') (ho:∀a o,a∈as->H a=some o->H' a=some o) (hp:H' p=some (.lst [])) (h0:H₀ p=none) (np:p ∉ as) :
  Dcl K H₀ H' (yB kvs k) (kws++[(fG k,.ref p)]) (as++[p]):=by
 induction t with
 | nil=>exact .cons hp h0 .nil (by simp) .nil
 | @cons k' b vs ds kvs kws as h h1 r n t ih =>
  have hk:¬k'=k:=λz=>by rw[qO (by rw[z])] at e;cases e
  rw[pI (λz=>hk (by cases z;rfl))] at e
  unfold yB
  rw[if_neg hk]
  rw[aL,not_or] at np
  exact .cons (ho b _ (.head _) h) h1 (r.keep kp) (λz=>(cH.mp (show b∈as++[p] from z)).elim n λz=>np.1 (cG.mp z).symm) (ih e (λa o q=>ho a o (.tail _ q)) np.2)
theorem Fz {p:V} (t:Dcl K H₀ H kvs kws as) (e:rR kws (fG k)=none):rR (kws++[(fG k,p)]) (fG k)=some p:=by
 induction t with
 | nil=>exact qO rfl
 | @cons k' b vs ds kvs kws as h h1 r n t ih =>
  have hk:¬(fG k':Key)=fG k:=λz=>by rw[qO z] at e;cases e
  rw[pI hk] at e
  rw[cD,pI hk]
  exact ih e
theorem Kc:∀(kvs:List (Int × List D)) (k:Int) (d:D),putL (yB kvs k) k d=putL kvs k d
 | [],k,d=>by simp[yB,putL]
 | (k',ds)::r,k,d=>by
  unfold yB
  by_cases hk:k'=k
  ·rw[if_pos hk]
  ·rw[if_neg hk];simp only[putL,if_neg hk];rw[Kc r k d]
theorem WU:∀(kvs:List (Int × List D)) (k:Int) {p:Int × List D},p∈yB kvs k->p∈kvs\/p.2=[]
 | [],k,p,h=>by rw[yB,cG] at h;subst h;exact .inr rfl
 | (k',ds)::r,k,p,h=>by
  unfold yB at h
  by_cases hk:k'=k
  ·rw[if_pos hk] at h;exact .inl h
  ·rw[if_neg hk] at h
   rcases aL.mp h with h | h
   ·exact .inl (h ▸ .head _)
   ·exact (WU r k h).imp (.tail _) id
theorem Dcl.len (t:Dcl K H₀ H kvs kws as):kvs.length=kws.length:=by
 induction t with
 | nil=>rfl
 | cons _ _ _ _ _ ih=>simp[ih]
end
section
variable {X:Cx} {e k:Expr} {pos pos' p apos cpos npos spos dpos lpos:Pos} {te tk:RE} {x:Str}
def Kh (i:Nat):RS:=λE ρ=>E.nx (ρ.set i (some (.dcl [])))
theorem Lx {i:Nat} (hN:X.N.Nodup) (hi:X.N[i]? = some x:=by rfl) (hx:Loc X.env.scope x:=by walk_at "vis") (hs:swapsWith (.Dict [] [] p) (some (.Name x pos')) pos.line X.env=pure false:=by rfl)
  (hf:X.fn x=true\/X.env.scope.names.lookup x=some .local:=by walk_at "loc"):DS X (.Assign [.Name x pos'] (.Dict [] [] p) pos) (Kh i) :=
 PS.mono (MP hN hi hx Jq hs hf) λDe σ H hh=>kL hh λρ E st q n r b c=>λa ha=>by
  have sm:Same H (upd H a (.dK [])):=Same.fn λb o h=>by rw[bM (cB h ha)];exact h
  refine n _ _ _ q (.of sm) (st.put sm ⟨a,[],[],rfl,cR,st.same.free ha,.nil⟩ λc o=>?_)
  obtain⟨p,kws,e1,e2,e3⟩:=o
  cases e1
  rw[cR] at e2;cases e2
  rcases e3 with rfl | ⟨_,z⟩
  ·exact ha
  ·cases z
def Cj (i:Nat) (tk te:RE):RS:=λE ρ=>match ρ[i]? with
 | some (some (.dcl kvs))=>tk ρ λkd=>match kd with
  | .int k=>Sz (kvs.length+1)/\te (ρ.set i (some (.dcl (yB kvs k)))) λd=>(∀p∈kvs,Sz (p.2.length+1))/\E.nx (ρ.set i (some (.dcl (putL kvs k d))))
  | _=>False
 | _=>False
theorem Lw (i:Nat) (hk:DE X k tk) (he:DE X e te) (hN:X.N[i]? = some x:=by rfl) (hv:Vis X.env.scope x:=by walk_at "vis") (hd:(x == ("__debug__":Str))=false:=by decide) (hcd:(x == ("__classdict__":Str))=false:=by decide)
  (hbase:attributeBase (.Name x npos) "setdefault" X.env (eval (.Name x npos) X.env)=eval (.Name x npos) X.env:=by rfl)
  (hfew:((backTo dpos (starEach [k,.List [] lpos] X.env)).all (λx=>!x.1) && (backToKw dpos (keywordEach [] X.env)).all (λx=>x.1.isSome) && decide (([k,.List [] lpos]:List Expr).length+([]:List lP).length+(if ([]:List lP).isEmpty then 0 else 1)<30))=true:=by rfl)
  (hline:(spos.endLine == dpos.line)=true:=by rfl) (hs1:starEach [k,.List [] lpos] X.env=(false,eval k X.env)::starEach [.List [] lpos] X.env:=by rfl) (hs2:starEach [.List [] lpos] X.env=(false,eval (.List [] lpos) X.env)::starEach [] X.env:=by rfl)
  (hpl:(backTo dpos (starEach [.List [] lpos] X.env)).any (·.1)=false:=by rfl)
  (hbase':attributeBase (.Call (.Attribute (.Name x npos) "setdefault" spos) [k,.List [] lpos] [] dpos) "append" X.env (eval (.Call (.Attribute (.Name x npos) "setdefault" spos) [k,.List [] lpos] [] dpos) X.env)=eval (.Call (.Attribute (.Name x npos) "setdefault" spos) [k,.List [] lpos] [] dpos) X.env:=by rfl)
  (hfew':((backTo cpos (starEach [e] X.env)).all (λx=>!x.1) && (backToKw cpos (keywordEach [] X.env)).all (λx=>x.1.isSome) && decide (([e]:List Expr).length+([]:List lP).length+(if ([]:List lP).isEmpty then 0 else 1)<30))=true:=by rfl)
  (hline':(apos.endLine == cpos.line)=true:=by rfl) (hs:starEach [e] X.env=[(false,eval e X.env)]:=by rfl) (hn:starEach [] X.env=[]:=by rfl)
  (hsw:swapsWith (.Call (.Attribute (.Call (.Attribute (.Name x npos) "setdefault" spos) [k,.List [] lpos] [] dpos) "append" apos) [e] [] cpos) none pos.line X.env=pure false:=by rfl) :
  DS X (.Expr (.Call (.Attribute (.Call (.Attribute (.Name x npos) "setdefault" spos) [k,.List [] lpos] [] dpos) "append" apos) [e] [] cpos) pos) (Cj i tk te):=by
 have inner:=QF (apos:=spos) (cpos:=dpos) PySem.F.plainAttrs_dict qR PySem.F.type_dict_setdefault Eu (pv (pos:=npos) i hN hv hd hcd) (jN hk (jN (MM (pos:=lpos) qF) qF hs2) hs1) hbase hfew hline hs1 hpl
 refine PS.mono (wS (QF gJ nG nH HJ inner (nE he hs hn) hbase' hfew' hline' (by rw[hs,hn]) (by rw[hn];rfl)) hsw) λDe σ H hh=>kL hh λρ E so q n r bk ct=>?_
 unfold Cj at q
 split at q
 ·rename_i kvs ex
  obtain⟨v,h1,a,kws,as,ev,ha,h0,t⟩:=so.rel i _ ex
  subst ev
  refine⟨.ref a,h1,.inr (.inr (.inl ⟨rfl,.inl ⟨kws,ha⟩⟩)),ρ,_,so,q,λkd kv H1 hkd s1 rk=>?_⟩
  cases kd with
  | int k =>
   obtain⟨z1,q1⟩:=hkd
   have z1:kvs.length+1<=sizeLine:=z1.ok
   rw[rk.int_inv]
   have so1:=so.ext s1
   have ha1:=s1.get _ _ ha trivial
   have t1:Dcl X.K X.H₀ H1 kvs kws as:=t.same s1
   refine⟨dY _,λp hp=>?_⟩
   have sm2:Same H1 (upd H1 p (.lst [])):=Same.fn λb o h=>by rw[bM (cB h hp)];exact h
   have kl:=t1.len
   have go:∀(b:Addr) (H2:Hp) (kws2:List (Key × V)),StOk X (ρ.set i (some (.dcl (yB kvs k)))) σ H2->H2 a=some (.dK kws2)->rR kws2 (fG k)=some (.ref b)->Keep H H2 ->
     tyV X.K "list" (.ref b) H2/\Jg X te σ H2 λw H3=>Cg (.ref b) [w] H3 λ_ H4=>De.nx σ H4:=λb H2 kws2 so2 ha2 hv2 kp2=>by
    have e2:(ρ.set i (some (.dcl (yB kvs k))))[i]? = some (some (.dcl (yB kvs k))):=cY (aX.mp ex).1
    obtain⟨v2,g1,a',kws',as2,ev2,ha',g0,t2⟩:=so2.rel i _ e2
    rw[h1] at g1;cases g1;cases ev2
    rw[ha2] at ha';cases ha'
    obtain⟨b',us,ds',eb,_,hb,_,_,_⟩:=t2.there hv2
    cases eb
    refine⟨.inl ⟨rfl,us,SqL.of hb⟩,_,_,so2,q1,λd w H3 ⟨z2,hd⟩ s3 rd=>?_⟩
    have t3:Dcl X.K X.H₀ H3 (yB kvs k) kws2 as2:=t2.same s3
    obtain⟨b',us3,ds3,eb,mb,hb3,rb3,⟨pp,pm,pe⟩,fin⟩:=t3.there hv2
    cases eb
    have ha3:=s3.get _ _ ha2 trivial
    have ne:a≠b:=by rintro rfl;rw[ha3] at hb3;cases hb3
    have sz:us3.length<sizeLine:=by
     rw[<-rb3.length,<-pe]
     rcases WU kvs k pm with h | h
     ·exact (z2 pp h).ok
     ·rw[h];exact aV (Nat.succ_pos _) z1
    refine⟨b,us3,w,rfl,rfl,hb3,sz,?_⟩
    have kpU:Keep H3 (upd H3 b (.lst (us3++[w]))):=Keep.chg1 hb3 (.inl ⟨_,rfl⟩)
    have ow:∀c,Ow H3 (.dcl (yB kvs k)) (.ref a) c↔(c=a\/∃k,(k,V.ref c)∈kws2):=λc=>⟨λ⟨p',kw',e1,e2,e3⟩=>by cases e1;rw[ha3] at e2;cases e2;exact e3,λh=>⟨a,kws2,rfl,ha3,h⟩⟩
    have haU:upd H3 b (.lst (us3++[w])) a=some (.dK kws2):=by rw[bM ne];exact ha3
    obtain⟨so4,k4⟩:=(so2.ext s3).updW (x':=.dcl (putL kvs k d)) (v':=.ref a) e2 h1 (H':=upd H3 b (.lst (us3++[w])))
     (λc o h w'=>by rw[bM (by rintro rfl;exact w' ((ow _).mpr (.inr (t3.mem.mp mb))))];exact h)
     ⟨a,kws2,as2,rfl,haU,h0,by
      rw[<-Kc]
      exact fin _ d w kpU cR (λc o _ nc h=>by rw[bM nc];exact h) (rd.keep kpU)⟩
     (λc o=>.inl ((ow c).mpr (by
      obtain⟨p',kw',e1,e2,e3⟩:=o
      cases e1;rw[haU] at e2;cases e2;exact e3)))
    rw[jZ h1,List.set_set] at so4
    exact n _ _ _ hd ((kp2.trans (.of s3)).trans k4) so4
   refine⟨a,kws,fG k,.ref p,rfl,rfl,sm2.get _ _ ha1 trivial,by omega,λv hv=>?_,λhv=>?_⟩
   ·obtain⟨b,_,_,eb,_⟩:=t1.there hv
    subst eb
    refine go b _ kws ?_ (sm2.get _ _ ha1 trivial) hv (.of (s1.trans sm2))
    rw[ZS t1 hv,jZ ex]
    exact so1.ext sm2
   ·have pa:p≠a:=by rintro rfl;rw[hp] at ha1;cases ha1
    have np:p ∉ as:=λm=>by obtain⟨_,us,q'⟩:=t1.at m;rw[hp] at q';cases q'
    have ow:∀c,Ow H1 (.dcl kvs) (.ref a) c↔(c=a\/∃k,(k,V.ref c)∈kws):=λc=>⟨λ⟨p',kw',e1,e2,e3⟩=>by cases e1;rw[ha1] at e2;cases e2;exact e3,λh=>⟨a,kws,rfl,ha1,h⟩⟩
    have st1:∀c o,c≠a->H1 c=some o->upd (upd H1 p (.lst [])) a (.dK (kws++[(fG k,.ref p)])) c=some o:=λc o nc h=>by rw[bM nc,bM (cB h hp)];exact h
    have kpU:Keep H1 (upd (upd H1 p (.lst [])) a (.dK (kws++[(fG k,.ref p)]))):=(Keep.of sm2).trans (Keep.chg1 (sm2.get _ _ ha1 trivial) (.inr (.inl ⟨_,rfl⟩)))
    obtain⟨so2,k2⟩:=so1.updW (x':=.dcl (yB kvs k)) (v':=.ref a) ex h1 (H':=upd (upd H1 p (.lst [])) a (.dK (kws++[(fG k,.ref p)])))
     (λc o h w'=>st1 c o (by rintro rfl;exact w' ((ow _).mpr (.inl rfl))) h)
     ⟨a,_,_,rfl,cR,h0,t1.fresh hv kpU (λc o m h=>st1 c o (by rintro rfl;obtain⟨_,us,q'⟩:=t1.at m;rw[ha1] at q';cases q') h) (by rw[bM pa];exact cR) (so1.same.free hp) np⟩
     (λc o=>by
      obtain⟨p',kw',e1,e2,e3⟩:=o
      cases e1;rw[cR] at e2;cases e2
      rcases e3 with rfl | ⟨k',m⟩
      ·exact .inl ((ow _).mpr (.inl rfl))
      ·rcases cH.mp m with m | m
       ·exact .inl ((ow _).mpr (.inr ⟨k',m⟩))
       ·rw[cG] at m;cases m;exact .inr hp)
    rw[jZ h1] at so2
    exact go p _ _ so2 cR (Fz t1 hv) ((Keep.of s1).trans k2)
  | _=>exact hkd.elim
 ·exact q.elim
def tQ:List Int->List D->Int->Option D
 | k'::ks,d::ds,k=>if k'=k then some d else tQ ks ds k
 | _,_,_=>none
def Dp:R22:=λx y Q=>match x,y with
 | .dct ks ds,.int k=>∃d,tQ ks ds k=some d/\Q d
 | _,_=>False
theorem Hc {K:aF} {H:Hp} {k:Int}:∀{ks:List Int} {ds:List D} {vs:List V} {d:D},Reps K H ds vs->tQ ks ds k=some d->∃v,rR (vF ks vs) (fG k)=some v/\Rep K H d v
 | [],_,_,_,_,e=>by simp[tQ] at e
 | k'::ks,_,_,_,.nil,e=>by simp[tQ] at e
 | k'::ks,_,_,d,.cons (v:=v) (vs:=vs) h t,e=>by
  unfold tQ at e
  by_cases hk:k'=k
  ·rw[if_pos hk] at e;cases e
   exact⟨v,qO (by rw[hk]),h⟩
  ·rw[if_neg hk] at e
   obtain⟨u,g1,g2⟩:=Hc t e
   exact⟨u,by show rR ((fG k',v)::vF ks vs) _=_;rw[pI (λz=>hk (by cases z;rfl))];exact g1,g2⟩
theorem Hf {kk:Nat} {a b:Expr} {ta tb:RE} (hr:Room kk X.A) (ha:DE X a ta) (hb:DE X b tb) (hs:Pg b:=by intro _ _;rfl):DE X (.Subscript a b pos) (r2 Dp ta tb):=by
 refine PE.mono (Np (by have:=hr.un;omega) ha hb hs) λσ H Q h=>?_
 obtain⟨ρ,P,st,ht,hP⟩:=h
 refine⟨ρ,_,st,ht,λx v H1 h1 s1 r1=>⟨ρ,_,st.ext s1,h1,λy u H2 h2 s2 r2=>?_⟩⟩
 unfold Dp at h2
 split at h2
 ·rename_i ks ds k
  obtain⟨d,e,h2⟩:=h2
  rw[r2.int_inv]
  have r1':=Rep.keep (.of s2) r1
  cases r1' with
  | @dct a vs _ _ o hh hl rr =>
   obtain⟨w,g1,g2⟩:=Hc rr e
   exact⟨a,w,rfl,.inl ⟨_,fG k,.inr ⟨o,hh⟩,rfl,g1.symm⟩,hP d w H2 h2 (s1.trans s2) g2⟩
 ·exact h2.elim
end
end
section
open PySem PySem.Spec PyProof.Rows L2 PySem.W
theorem vS:∀{ns:List Int} {us:List aB},IntsAre us ns->Vals (ns.map V.int) us
 | [],[],_=>.nil
 | n::ns,u::us,h=>by
  cases h with
  | cons _ t h=>exact .cons ⟨_,rfl⟩ (vS h)
theorem Ee (ks:List Int) (vs:List V):(vF ks vs).length=min ks.length vs.length:=List.length_zipWith
theorem QW {P:bA} {w:cA}:∀(ks:List Int) (vs:List V) (ws:List (Key × aB)),ks.length=vs.length->KV (vF ks vs) ws->∀us:List aB,us.length=ks.length ->
  (∀(j:Nat) (v:aB),us[j]? = some v->∃k x,ws[j]? = some (k,x)/\(kY P w).is k v=true)->Vals (ks.map V.int) us
 | [],_,_,_,_,us,h,_=>by rw[iM.mp h];exact .nil
 | k::ks,[],_,h,_,_,_,_=>by cases h
 | k::ks,v::vs,ws,hl,r,us,h,q=>by
  cases us with
  | nil=>cases h
  | cons u us =>
   cases r with
   | @cons _ b _ bs h1 t =>
    refine .cons ?_ (QW ks vs bs (by simpa using hl) t us (by simpa using h) λj v e=>q (j+1) v (by simpa using e))
    obtain⟨k',x,e,i⟩:=q 0 u rfl
    cases e
    rw[<-show (fG k:Key)=k' from h1.1] at i
    rcases jD (show LV (fG k) u=true from i) with ⟨i',t',e1,e2⟩ | ⟨y,t',e1,e2⟩
    ·cases e1;exact⟨t',e2⟩
    ·cases e1
def NB (te:RE):RA:=λρ Q=>te ρ λx=>∃ns:List Int,x = .lst (ns.map .int)/\ns.length<64/\∀ms:List Int,ms.Perm ns->ms.Pairwise (·<=·)->Q (ms.map .int)
def Wa (te:RE):RA:=λρ Q=>te ρ λx=>∃nss:List (List Int),x = .lst (nss.map lV)/\nss.length<64/\(∀ns∈nss,ns≠[])/\∀mss:List (List Int),mss.Perm nss->mss.Pairwise (λx y=>gM y x=false)->Q (mss.map lV)
def MZ (te:RE):RA:=λρ Q=>te ρ λx=>∃(ks:List Int) (ds:List D),x = .dct ks ds/\ks.length=ds.length/\Q (ks.map .int)
section
variable {X:Cx} {e:Expr} {te:RE} {p pos:Pos}
theorem UM (hms:X.mg "sorted" = none) (h:DB X e te) (hgs:Gl X "sorted":=by rfl) (hs:starEach [e] X.env=[(false,eval e X.env)]:=by rfl) (hn:starEach [] X.env=[]:=by rfl) :
  DO X (.Call (.Name "sorted" p) [e] [] pos) (NB te):=by
 intro pins s σ H Q I hh_0
 obtain⟨ρ,P,st,q,kq⟩:=hh_0
 refine dM (qC I hgs hms boot_sorted ?_)
 refine hZ (thn (nE h hs hn pos pins s σ H (λvs H1=>∃(ns:List Int) (v:V),vs=[v]/\Same H H1/\RepB X.K H1 (.lst (ns.map .int)) v/\ns.length<64/\∀ms:List Int,ms.Perm ns->ms.Pairwise (·<=·)->P (ms.map .int)) I
  ⟨ρ,_,st,q,λx v H1 hx s1 r1=>?_⟩) λus s1 ⟨vs,H1,I1,r1,q1⟩=>?_) (by rw[hs,hn]) (by rw[hn];rfl)
 ·obtain⟨ns,rfl,a1,a2⟩:=hx
  exact⟨ns,v,rfl,s1,r1,a1,a2⟩
 obtain⟨ns,v,rfl,s01,rb,h64,hP⟩:=q1
 obtain⟨l,vs,rfl,hq,rr⟩:=rb.lst
 obtain⟨u,rfl,rx⟩:=vals1 r1
 cases rx
 obtain⟨its,rv,pl,hz⟩:=I1.list hq
 have l2:=rv.length
 rw[rr.ints_inv] at rv l2
 rw[aS] at l2
 refine sorted_ints pl.isList (intsAre_of rv) (by omega) λout ms a1 a2 a3=>?_
 obtain⟨c,he⟩:=sortedAll_at s1.heap its out
 have VV:=vS a1
 have lw:ms.length=ns.length:=a2.length_eq
 have I4:=I1.laid (a:=s1.heap.objs.size+1) (o:=.lst (ms.map V.int)) (h':=sortedAll s1.heap its out) (t':=s1.toks) (λb o=>sortedAll_old) (mF _) ⟨by rw[aS,eX];omega,out.toList,c,VV,by simpa using he⟩
 exact⟨.ref (s1.heap.objs.size+1),_,I4,rfl,kq _ _ _ H1 (hP ms a2 a3) s01 (I1.hok.fresh (mF _)) Reps.ints⟩
theorem UL (hml:X.mg "list" = none) (hc:X.calm=true) (h:DE X e te) (hgl:Gl X "list":=by rfl) (hs:starEach [e] X.env=[(false,eval e X.env)]:=by rfl) (hn:starEach [] X.env=[]:=by rfl) :
  DO X (.Call (.Name "list" p) [e] [] pos) (MZ te):=by
 intro pins s σ H Q I hh_0
 obtain⟨ρ,P,st,q,kq⟩:=hh_0
 refine dM (qC I hgl hml boot_list ?_)
 refine dZ (thn (nE h hs hn pos pins s σ H (λvs H1=>∃(ks:List Int) (ds:List D) (v:V),vs=[v]/\Same H H1/\Rep X.K H1 (.dct ks ds) v/\P (ks.map .int)) I
  ⟨ρ,_,st,q,λx v H1 hx s1 r1=>?_⟩) λus s1 ⟨vs,H1,I1,r1,q1⟩=>?_) (by rw[hs,hn]) (by rw[hn];rfl)
 ·obtain⟨ks,ds,rfl,a1,a2⟩:=hx
  exact⟨ks,ds,v,rfl,s1,r1,a2⟩
 obtain⟨ks,ds,v,rfl,s01,rd,hP⟩:=q1
 obtain⟨u,rfl,rx⟩:=vals1 r1
 cases rd with
 | @dct a vs _ _ o ha hl rr =>
  cases rx
  obtain⟨z,hd,ws,rel,dd⟩:=Bb I1.hok (.inr ⟨o,ha⟩)
  have le:=rel.length
  obtain⟨ep,da⟩:=dd.dictAt
  refine kdl_call (kdl_dict (knd:=kY X.prog X.w) (kvs:=ws) (ep:=ep) hd) (I1.ok.hd hc) da (by rw[<-le];exact z) λh' tk acc c kp g1 it=>?_
  have lk:ks.length=ws.length:=by rw[<-le,Ee,<-hl,Nat.min_self]
  have VV:Vals (ks.map V.int) acc.toList:=QW ks vs ws hl rel acc.toList (by rw[bQ,it.1];exact lk.symm) λj v e=>it.2 j v (by simpa using e)
  have I4:=I1.laid (a:=s1.heap.objs.size) (o:=.lst (ks.map V.int)) (h':=h') (t':=tk) kp (aZ _) ⟨by rw[aS,lk,<-le];exact z,acc.toList,c,VV,by simpa using g1⟩
  exact⟨.ref s1.heap.objs.size,_,I4,rfl,kq _ _ _ H1 hP s01 (I1.hok.fresh (aZ _)) Reps.ints⟩
end
end
section
open PySem PySem.Spec PyProof.Rows L2
section
variable {X:Cx} {e:Expr} {pos apos cpos npos p2 p3 p4:Pos} {te:RE} {x:Str}
def Ub (i:Nat) (te:RE):RS:=λE ρ=>match ρ[i]? with
 | some (some (.own xs))=>te ρ λd=>match d with
  | .lst ys=>Sz (xs.length+ys.length)/\E.nx (ρ.set i (some (.own (xs++ys))))
  | _=>False
 | _=>False
def alt {α:Type}:List α->List α
 | []=>[]
 | [x]=>[x]
 | x::_::r=>x::alt r
theorem RB {α:Type}:∀(l:List α) (i:Nat),(alt l)[i]? = l[2*i]?
 | [],i=>by simp[alt]
 | [x],0=>rfl
 | [x],i+1=>by simp[alt]
 | x::y::r,0=>rfl
 | x::y::r,i+1=>by
  rw[alt,aI,RB r i,show 2*(i+1)=2*i+1+1 by omega,aI,aI]
theorem JO {α:Type}:∀(l:List α),(alt l).length=(l.length+1) / 2
 | []=>by simp[alt]
 | [x]=>by simp[alt]
 | x::y::r=>by rw[alt,bJ,JO r];simp only[bJ];omega
theorem Ph {α:Type} (l:List α):(alt l).length<=l.length:=by rw[JO];omega
theorem Reps.alt {K:aF} {H:Hp}:∀{ds:List D} {vs:List V},Reps K H ds vs->Reps K H (alt ds) (L2.R2.alt vs)
 | _,_,.nil=>.nil
 | _,_,.cons h .nil=>.cons h .nil
 | _,_,.cons h (.cons _ t)=>.cons h (Reps.alt t)
theorem Vals.alt:∀{vs:List V} {us:List aB},Vals vs us->Vals (alt vs) (L2.R2.alt us)
 | _,_,.nil=>.nil
 | _,_,.cons h .nil=>.cons h .nil
 | _,_,.cons h (.cons _ t)=>.cons h (Vals.alt t)
theorem Jw (its:List aB) (k:Nat) (lo:Option Int) (hk:(lo=none/\k=0)\/(lo=some 1/\k=1)):slicePick its.toArray lo none (some 2)=(alt (its.drop k)).toArray:=by
 have e:(sliceBounds lo none (some 2) its.toArray.size)=(((min k its.length:Nat):Int),(its.length:Int),2):=by
  rcases hk with ⟨rfl,rfl⟩ | ⟨rfl,rfl⟩
  ·simp[sliceBounds]
  ·simp[sliceBounds];omega
 unfold slicePick
 rw[e]
 congr 1
 dsimp only
 have c:(if (2:Int) > 0 then (if ((min k its.length:Nat):Int)<(its.length:Int) then ((its.length:Int)-(min k its.length:Nat)+2-1) / 2 else 0) else (if ((min k its.length:Nat):Int) > (its.length:Int) then (((min k its.length:Nat):Int)-(its.length:Int)-2-1) / (-2) else 0)).toNat=(alt (its.drop k)).length:=by
  rw[JO,hV,if_pos (by decide)]
  split <;> omega
 unfold sliceRange
 dsimp only
 rw[c]
 refine tL λi=>?_
 have key:∀(n:Nat),n<=(alt (its.drop k)).length->((cV n).map λ(j:Nat)=>(((min k its.length:Nat):Int)+2*(j:Int)).toNat).filterMap (its.toArray[·]?)=(alt (its.drop k)).take n:=by
  intro n
  induction n with
  | zero=>intro _;rfl
  | succ n ih =>
   intro h
   have hn:n<(alt (its.drop k)).length:=h
   rw[wZ,dN,xS,ih (jA hn),oV]
   congr 1
   have hl:2*n<(its.drop k).length:=by rw[JO] at hn;omega
   rw[hV] at hl
   have:(((min k its.length:Nat):Int)+2*(n:Int)).toNat=k+2*n:=by omega
   simp only[aU,cX,this]
   rw[RB,sG]
   have hh:k+2*n<its.length:=by omega
   simp[hh]
 rw[key _ (aZ _),uV]
def Fo (k:Nat) (te:RE):RA:=λρ Q=>te ρ λx=>match x with
 | .lst ds=>Q (alt (ds.drop k))
 | _=>False
theorem Hq {k:Nat} {lo:Option Expr} {l:Option Int} {j:Nat} (h:DB X e te) (hl:∀(H:Hp),PO X lo (λσ H Q=>Q l H)) (hk:(l=none/\k=0)\/(l=some 1/\k=1)) :
  DO X (.Subscript e (.Slice lo none (some (.Constant (.int 2) j p3)) p2) pos) (Fo k te):=by
 intro pins s σ H Q I hh
 obtain⟨ρ,P,st,q,kq⟩:=hh
 refine Subscript_ (thn (h pins s σ H (λv H1=>∃ds,Same H H1/\RepB X.K H1 (.lst ds) v/\P (alt (ds.drop k))) I ⟨ρ,_,st,q,λx v H1 hx s1 r1=>?_⟩) λv s1 ⟨x,H1,I1,r1,q1⟩=>?_)
 ·cases x with
  | lst ds=>exact⟨ds,s1,r1,hx⟩
  | _=>exact hx.elim
 obtain⟨ds,sm,rb,hP⟩:=q1
 obtain⟨a,vs,rfl,hq,rr⟩:=rb.lst
 cases r1
 refine wpAny_Slice (thn (hl H1 pins s1 σ H1 (λo H2=>o=l/\H2=H1) I1 ⟨rfl,rfl⟩) λvl s2 ⟨l',H2,I2,pl,e1,e2⟩=>?_)
 subst e1 e2
 rw[BG]
 refine aK ?_
 refine thn (SV (ZK (X:=X) (i:=2) (j:=j) (pos:=p3)) pins s2 σ H2 (λo H3=>o=some 2/\H3=H2) I2 ⟨2,rfl,rfl,rfl⟩) λvst s3 ⟨o3,H3,I3,pst,e3,e4⟩=>?_
 subst e3 e4
 have I4:Inv X pins σ H3 { s3 with heap:=s3.heap.push { cls:=.type "slice",data:=.fields #[vl,.none,vst] } }:=I3.kept (t':=s3.toks) λb ob q=>aJ _ q
 obtain⟨its,rv,pll,hz⟩:=I4.list hq
 have hlen:=rv.length
 show wpAny (model X.prog X.w) X.A (subscriptTail e (.Slice lo none (some (.Constant (.int 2) j p3)) p2) (.ref a) (.ref s3.heap.objs.size)) (EP X pins σ Q) X.xe { s3 with heap:=s3.heap.push { cls:=.type "slice",data:=.fields #[vl,.none,vst] } }
 refine tail_any (ops:=[.ref a,.ref s3.heap.objs.size]) pll.isList.typeIs PySem.slot_list_getitem.lookup ?_ (by with_unfolding_all rfl)
 refine uN pll.isList (CM ..) pl .none pst (by decide) ?_ (by rw[aN,<-hlen];exact hz)
 rw[Jw its k l' hk]
 have VV:Vals (alt (vs.drop k)) (alt (its.drop k)):=Vals.alt (Vals.drop k rv)
 have I5:=I4.lnew (t':=s3.toks) VV (dQ (Ph _) (by rw[hV];omega))
 exact⟨.ref _,_,I5,rfl,kq _ _ _ H3 hP sm I4.fresh (Reps.alt (rr.drop k))⟩
theorem Ls {j:Nat} (h:DB X e te):DO X (.Subscript e (.Slice none none (some (.Constant (.int 2) j p3)) p2) pos) (Fo 0 te) :=
 Hq h (λH pins s σ H' Q I q=>Cc pins s σ H' Q I q) (.inl ⟨rfl,rfl⟩)
theorem Lu {j j':Nat} (h:DB X e te):DO X (.Subscript e (.Slice (some (.Constant (.int 1) j' p4)) none (some (.Constant (.int 2) j p3)) p2) pos) (Fo 1 te) :=
 Hq h (λH pins s σ H' Q I q=>SV (ZK (X:=X) (i:=1) (j:=j') (pos:=p4)) pins s σ H' Q I ⟨1,rfl,q⟩) (.inr ⟨rfl,rfl⟩)
end
section
variable {X:Cx} {tg:Expr}
def riFar (t:RA):RA:=λρ Q=>t ρ λds=>match ds with
 | [.int i,.int j]=>Q (qW i (j-i).toNat)
 | _=>False
def Sv:R22:=λx y Q=>match x,y with
 | .bl a,.bl b=>Q (.int ((if a then 1 else 0)-(if b then 1 else 0)))
 | _,_=>False
end
end
end L2.R2
namespace HT
open PySem PyProof.Rows
section
open PySem.SeqAt
open PySem.AutoSeq1 (wpAny_loadPart')
open PySem.MeetsSeq PySem.MeetsSeq2 PySem.MeetsSeq3
end
section
variable {prog:bA} {w:cA} {A:cE} {E:aB->aD->Prop} {s:aD}
end
end HT
namespace L2.R2
section
open PySem PySem.Spec PyProof.Rows L2
section
variable {prog:bA} {w:cA} {A:cE} {E:aB->aD->Prop} {s:aD}
end
section
variable {X:Cx}
def Vi:List D->(D->Prop)->Prop:=λds Q=>∃ns ms,ds=[lV ns,lV ms]/\Q (lV (if HT.lexLt ms ns=true then ms else ns))
def Vh:List D->(D->Prop)->Prop:=λds Q=>∃ns ms,ds=[lV ns,lV ms]/\Q (lV (if HT.lexLt ns ms=true then ms else ns))
end
section
variable {X:Cx} {pins:List (Addr × Obj)} {σ:St} {H:Hp} {s:aD}
end
section
variable {X:Cx} {e:Expr} {t:RT}
def Vr (i:Nat) (ρ:En):En:=match ρ[i]? with
 | some (some (.own ds))=>ρ.set i (some (.d (.lst ds)))
 | _=>ρ
end
def rSeqN (t u:RS):RS:=λE ρ=>t { nx:=u E,rt:=λ_=>False } ρ
def rRetO (i:Nat):RS:=λE ρ=>match ρ[i]? with
 | some (some (.own xs))=>E.rt (.lst xs)
 | _=>False
section
variable {X:Cx} {st:Stmt} {rest:List Stmt} {t u:RS} {x:Str} {p pos:Pos}
end
section
variable {P:bA} {w:cA} {K:aF} {mg:Str->Option aB} {base:Heap}
end
def Vs (F:FD) (t:RA):RA:=λρ Q=>t ρ λds=>F ds λd=>match d with
 | .lst xs=>Q xs
 | _=>False
section
variable {X:Cx} {k:Nat} {ps:List Str} {F:FD} {x:Str} {p pos:Pos} {e:Expr} {es:List Expr} {t:RA}
end
section
variable {prog:bA} {w:cA} {A:cE} {E:aB->aD->Prop} {s:aD}
end
section
variable {X:Cx} {tg a:Expr} {t:RA} {pos p pos2 p2:Pos}
structure RvOk (j:Int):Prop where
 lo:0<=j
 hi:j<2 ^ 62
def Wh (t:RA):RA:=λρ Q=>t ρ λds=>match ds with
 | [.int j]=>RvOk j/\Q (qW 0 j.toNat).reverse
 | _=>False
end
def dNeL:R22:=λx y Q=>match x,y with
 | .lst xs,.lst ys=>xs.length=ys.length/\match eqL (eqF 5) xs ys with
  | some b=>Q (.bl !b)
  | none=>False
 | _,_=>False
section
variable {X:Cx}
end
section
variable {K:aF} {H₀ H:Hp}
theorem Dcl.ix {kvs:List (Int × List D)} {kws:List (Key × V)} {as:List Addr} (t:Dcl K H₀ H kvs kws as):∀{j:Nat} {k:Int} {ds:List D},kvs[j]? = some (k,ds) ->
  ∃b vs,as[j]? = some b/\H b=some (.lst vs)/\Reps K H ds vs/\∀(H':Hp) (ds':List D) (vs':List V),Keep H H'->H' b=some (.lst vs')->(∀c∈as,c≠b->∀o,H c=some o->H' c=some o)->Reps K H' ds' vs'->Dcl K H₀ H' (kvs.set j (k,ds')) kws as:=by
 induction t with
 | nil=>intro j k ds e;simp at e
 | @cons k b vs ds kvs kws as h h0 r n t ih =>
  intro j k' ds' e
  cases j with
  | zero =>
   simp at e
   obtain⟨rfl,rfl⟩:=e
   refine⟨b,vs,rfl,h,r,λH' ds' vs' kp hb hc rr=>?_⟩
   exact .cons hb h0 rr n (t.keep kp λa m o e=>hc a (.tail _ m) (by rintro rfl;exact n m) o e)
  | succ j =>
   obtain⟨b',vs',e1,e2,e3,e4⟩:=ih (by simpa using e)
   refine⟨b',vs',by simpa using e1,e2,e3,λH' ds'' vs'' kp hb hc rr=>?_⟩
   have nb:b≠b':=by rintro rfl;exact n (bF e1)
   exact .cons (hc b (.head _) nb _ h) h0 (r.keep kp) n (e4 H' ds'' vs'' kp hb (λc m nc o e=>hc c (.tail _ m) nc o e) rr)
end
theorem JQ {xss:List (List D)} {j:Nat} {ds:List D} (e:xss[j]? = some ds):(xss.map λx=>((0:Int),x))[j]? = some (0,ds):=by rw[aT,e];rfl
theorem As {xss:List (List D)} {j:Nat} {ds:List D}:(xss.map λx=>((0:Int),x)).set j (0,ds)=(xss.set j ds).map λx=>((0:Int),x):=by rw[List.map_set]
section
variable {X:Cx} {e k:Expr} {pos pos' p p1 p2 apos cpos npos spos:Pos} {te tk:RE} {x:Str}
def Kf (i:Nat):RS:=λE ρ=>E.nx (ρ.set i (some (.box false [[],[]])))
theorem Lv {i:Nat} (hN:X.N.Nodup) (hi:X.N[i]? = some x:=by rfl) (hx:Loc X.env.scope x:=by walk_at "vis") (hs:swapsWith (.List [.List [] p1,.List [] p2] p) (some (.Name x pos')) pos.line X.env=pure false:=by rfl)
  (hf:X.fn x=true\/X.env.scope.names.lookup x=some .local:=by walk_at "loc")
  (h1:starEach [.List [] p1,.List [] p2] X.env=(false,eval (.List [] p1) X.env)::starEach [.List [] p2] X.env:=by rfl) (h2:starEach [.List [] p2] X.env=(false,eval (.List [] p2) X.env)::starEach [] X.env:=by rfl) :
  DS X (.Assign [.Name x pos'] (.List [.List [] p1,.List [] p2] p) pos) (Kf i) :=
 PS.mono (MP hN hi hx (MM (jN (MM (pos:=p1) qF) (jN (MM (pos:=p2) qF) qF h2) h1)) hs hf) λDe σ H hh=>kL hh λρ E st q n r b c=>by
  refine⟨dY _,λa ha=>⟨dY _,λa2 ha2=>⟨(by decide:2<=sizeLine),λa3 ha3=>?_⟩⟩⟩
  have na:H a2=none/\a2≠a:=by
   have ne:a2≠a:=by rintro rfl;rw[cR] at ha2;cases ha2
   rw[bM ne] at ha2;exact⟨ha2,ne⟩
  have n3:H a3=none/\a3≠a/\a3≠a2:=by
   have ne2:a3≠a2:=by rintro rfl;rw[cR] at ha3;cases ha3
   rw[bM ne2] at ha3
   have ne:a3≠a:=by rintro rfl;rw[cR] at ha3;cases ha3
   rw[bM ne] at ha3;exact⟨ha3,ne,ne2⟩
  have sm:Same H (upd (upd (upd H a (.lst [])) a2 (.lst [])) a3 (.lst [.ref a,.ref a2])):=Same.fn λb o h=>by
   rw[bM (cB h n3.1),bM (cB h na.1),bM (cB h ha)];exact h
  have g1:upd (upd (upd H a (.lst [])) a2 (.lst [])) a3 (.lst [.ref a,.ref a2]) a=some (.lst []):=by rw[bM (Ne.symm n3.2.1),bM (Ne.symm na.2)];exact cR
  have g2:upd (upd (upd H a (.lst [])) a2 (.lst [])) a3 (.lst [.ref a,.ref a2]) a2=some (.lst []):=by rw[bM (Ne.symm n3.2.2)];exact cR
  refine n _ _ _ q (.of sm) (st.put sm (x':=.box false [[],[]]) ⟨a3,_,[a,a2],rfl,cR,st.same.free n3.1,by simp[n3.2.1,n3.2.2],.cons g1 (st.same.free ha) .nil (by simp[Ne.symm na.2]) (.cons g2 (st.same.free na.1) .nil (by simp) .nil)⟩ λc o=>?_)
  obtain⟨p,vs,e1,e2,e3⟩:=o
  cases e1
  rw[cR] at e2;cases e2
  rcases e3 with rfl | m
  ·exact n3.1
  ·simp only[aL,eB,or_false,V.ref.injEq] at m
   rcases m with rfl | rfl
   ·exact ha
   ·exact na.1
def QM (i:Nat) (tk te:RE):RS:=λE ρ=>match ρ[i]? with
 | some (some (.box false xss))=>tk ρ λkd=>match kd with
  | .int k=>∃(j:Nat) (ds:List D),(k=(j:Int)/\xss[j]? = some ds/\Sz (ds.length+1))/\te ρ λd=>E.nx (ρ.set i (some (.box false (xss.set j (ds++[d])))))
  | _=>False
 | _=>False
theorem Bc (i:Nat) (hk:DE X k tk) (he:DE X e te) (hN:X.N[i]? = some x:=by rfl) (hv:Vis X.env.scope x:=by walk_at "vis") (hd:(x == ("__debug__":Str))=false:=by decide) (hcd:(x == ("__classdict__":Str))=false:=by decide)
  (hpi:JN k:=by intro _ _;rfl)
  (hbase:attributeBase (.Subscript (.Name x npos) k spos) "append" X.env (eval (.Subscript (.Name x npos) k spos) X.env)=eval (.Subscript (.Name x npos) k spos) X.env:=by rfl)
  (hfew:((backTo cpos (starEach [e] X.env)).all (λx=>!x.1) && (backToKw cpos (keywordEach [] X.env)).all (λx=>x.1.isSome) && decide (([e]:List Expr).length+([]:List lP).length+(if ([]:List lP).isEmpty then 0 else 1)<30))=true:=by rfl)
  (hline:(apos.endLine == cpos.line)=true:=by rfl) (hs:starEach [e] X.env=[(false,eval e X.env)]:=by rfl) (hn:starEach [] X.env=[]:=by rfl)
  (hsw:swapsWith (.Call (.Attribute (.Subscript (.Name x npos) k spos) "append" apos) [e] [] cpos) none pos.line X.env=pure false:=by rfl) :
  DS X (.Expr (.Call (.Attribute (.Subscript (.Name x npos) k spos) "append" apos) [e] [] cpos) pos) (QM i tk te):=by
 refine PS.mono (wS (QF gJ nG nH HJ (Jr SG (pv (pos:=npos) i hN hv hd hcd) hk hpi) (nE he hs hn) hbase hfew hline (by rw[hs,hn]) (by rw[hn];rfl)) hsw) λDe σ H hh=>kL hh λρ E so q n r bk ct=>?_
 unfold QM at q
 split at q
 ·rename_i xss ex
  obtain⟨v,h1,a,kws,as,ev,ha,h0,na,t⟩:=so.rel i _ ex
  subst ev
  refine⟨.ref a,h1,ρ,_,so,q,λkd kv H1 hkd s1 rk=>?_⟩
  cases kd with
  | int k =>
   obtain⟨j,ds,⟨ej,hj,z1⟩,q1⟩:=hkd
   subst ej
   rw[rk.int_inv]
   have so1:=so.ext s1
   have ha1:=s1.get _ _ ha trivial
   have t1:Dcl X.K X.H₀ H1 (xss.map λx=>(0,x)) kws as:=t.same s1
   obtain⟨b,vs,eb,hb,_,_⟩:=t1.ix (JQ hj)
   refine⟨a,as.map V.ref,j,.ref b,rfl,rfl,SqL.of ha1,JP (by rw[aT,eb];rfl),.inl ⟨rfl,vs,SqL.of hb⟩,ρ,_,so1,q1,λd w H2 hd s2 rd=>?_⟩
   have t2:Dcl X.K X.H₀ H2 (xss.map λx=>(0,x)) kws as:=t1.same s2
   have ha2:=s2.get _ _ ha1 trivial
   obtain⟨b',vs',eb',hb2,rb2,fin⟩:=t2.ix (JQ hj)
   rw[eb] at eb';cases eb'
   have mb:b∈as:=bF eb
   have ne:a≠b:=by rintro rfl;exact na mb
   have sz:vs'.length<sizeLine:=by rw[<-rb2.length];exact Nat.lt_of_succ_le z1.ok
   refine⟨b,vs',w,rfl,rfl,hb2,sz,?_⟩
   have kpU:Keep H2 (upd H2 b (.lst (vs'++[w]))):=Keep.chg1 hb2 (.inl ⟨_,rfl⟩)
   have haU:upd H2 b (.lst (vs'++[w])) a=some (.lst (as.map V.ref)):=by rw[bM ne];exact ha2
   obtain⟨so4,k4⟩:=(so1.ext s2).updW (x':=.box false (xss.set j (ds++[d]))) (v':=.ref a) ex h1 (H':=upd H2 b (.lst (vs'++[w])))
    (λc o h w'=>by rw[bM (by rintro rfl;exact w' ⟨a,_,rfl,ha2,.inr (fS mb)⟩)];exact h)
    ⟨a,kws,as,rfl,haU,h0,na,by
     rw[<-As]
     exact fin _ _ _ kpU cR (λc _ nc o h=>by rw[bM nc];exact h) ((rb2.keep kpU).append (.cons (rd.keep kpU) .nil))⟩
    (λc o=>.inl (by
     obtain⟨p',vs0,e1,e2,e3⟩:=o
     cases e1;rw[haU] at e2;cases e2
     exact⟨a,_,rfl,ha2,e3⟩))
   rw[jZ h1] at so4
   exact n _ _ _ hd (((Keep.of s1).trans (.of s2)).trans k4) so4
  | _=>exact hkd.elim
 ·exact q.elim
end
section
variable {X:Cx} {st:Stmt} {rest:List Stmt} {t u:RS} {x:Str} {p pos tp:Pos} {j:Nat} {e1 e2:Expr} {ta tb:RA}
end
section
variable {P:bA} {w:cA} {K:aF} {mg:Str->Option aB} {base:Heap}
end
def rSetB (j:Nat) (F:FD) (t:RA):RS:=λE ρ=>t ρ λds=>F ds λd=>∃xss:List (List D),d = .tup (xss.map .lst)/\E.nx (ρ.set j (some (.box true xss)))
section
variable {X:Cx} {k j:Nat} {ps:List Str} {F:FD} {x y:Str} {p pos pos' cpos:Pos} {e:Expr} {es:List Expr} {t:RA}
end
section
variable {X:Cx} {pins:List (Addr × Obj)} {σ:St} {s:aD}
end
section
variable {K:aF} {H₀ H H':Hp}
end
def lendB (i:Nat) (ρ:En):En:=match ρ[i]? with
 | some (some (.box true xss))=>ρ.set i (some (.d (.tup (xss.map .lst))))
 | _=>ρ
section
variable {X:Cx} {e:Expr} {t:RT}
end
section
variable {X:Cx} {ρ:En} {σ:St} {H:Hp}
theorem StOk.any (so:StOk X ρ σ H) {j:Nat} (hj:∀x,ρ[j]?≠some (some x)) (v:Option V):StOk X ρ (σ.set j v) H:=by
 refine⟨by simp[so.len],so.same,λi x e=>?_,λi k x y v' u a e1 e2 e3 e4 o1 o2=>?_,so.t0⟩
 ·obtain⟨w,h1,h2⟩:=so.rel i x e
  have ne:j≠i:=by rintro rfl;exact hj x e
  exact⟨w,by rw[bG ne];exact h1,h2⟩
 ·have n1:j≠i:=by rintro rfl;exact hj x e1
  have n2:j≠k:=by rintro rfl;exact hj y e2
  rw[bG n1] at e3
  rw[bG n2] at e4
  exact so.sep i k x y v' u a e1 e2 e3 e4 o1 o2
end
def rBFor (i j:Nat):RS:=λE ρ=>match ρ[i]? with
 | some (some (.box true xss))=>(j<ρ.length/\∀ds∈xss,Sz (ds.length+1))/\E.nx ((ρ.set j none).set i (some (.box true (xss.map (· ++ [.non])))))
 | _=>False
section
variable {X:Cx} {x y:Str} {pos cpos apos npos pos' xpos epos:Pos} {jn:Nat}
end
def rGet2 (ta tk tf:RE):RE:=λρ Q=>ta ρ λx=>match x with
 | .dct ks ds=>tk ρ λy=>match y with
  | .int k=>tf ρ λz=>Q ((tQ ks ds k).getD z)
  | _=>False
 | _=>False
section
variable {X:Cx} {a k f:Expr} {ta tk tf:RE} {apos cpos:Pos}
end
def dInI:R22:=λx y Q=>match x,y with
 | .int i,.lst ds=>∃ns:List Int,ds=ns.map .int/\Q (.bl (decide (i∈ns)))
 | _,_=>False
section
variable {X:Cx}
end
section
variable {prog:bA} {w:cA} {A:cE} {E:aB->aD->Prop} {s:aD}
theorem PQ {it t:Addr} {items:Array aB} (hne:t≠it):∀(n i:Nat) (s:aD) (Q:List aB->aD->Prop),s.heap.IsListIter it t i->s.heap.IsList t items->i+n<=items.size ->
  (∀h',h'.IsListIter it t (i+n)->kP it s.heap h'->Q ((items.toList.drop i).take n) { s with heap:=h' })->wpAny (model prog w) A (draw (.ref it) n) Q E s
 | 0,i,s,Q,hit,_,_,hQ=>by
  show wpAny _ _ (pure []) Q E s
  exact aK (by simpa using hQ s.heap hit (Heap.SameBut.refl ..))
 | n+1,i,s,Q,hit,ht,hle,hQ=>by
  have hlt:i<items.size:=by omega
  show wpAny _ _ (pyNext (.ref it) >>= _) Q E s
  refine aA (wV hit ht (x:=items[i]) (by simp[hlt]) λh₁ hit₁ hs₁=>?_)
  refine aA (dC (PQ hne n (i+1) _ _ hit₁ (ht.at λo e=>(hs₁.2 _ hne).trans e) (by omega) λh₂ hit₂ hs₂=>aK ?_))
  have hd:items.toList.drop i=items[i]::items.toList.drop (i+1):=by simp[fQ,hlt]
  have:=hQ h₂ (by rw[show i+(n+1)=i+1+n by omega];exact hit₂) (hs₁.trans hs₂)
  rw[hd,AQ] at this
  exact this
theorem HZ {t:Addr} {items:Array aB} {Q:List aB->aD->Prop} (hh:A.handled=none) (ht:s.heap.IsList t items)
  (hQ:∀h',IC s.heap.objs.size s.heap h'->Q items.toList { s with heap:=h' }):wpAny (model prog w) A (unpackItems (.ref t) items.size none) Q E s:=by
 have hlt:t≠s.heap.objs.size:=by obtain⟨o,ho,_⟩:=ht;exact aR (aO ho)
 unfold unpackItems
 refine aA ?_
 ·unfold notIterableAtAll
  refine aA (lC ht.typeIs slot_list_iter.lookup ?_)
  refine aK ?_
  simp only[aP,if_false]
  refine aA (dC (pK ht ?_))
  have ht0:(s.heap.push { cls:=.type "list_iterator",data:=.fields #[.ref t,.int 0 0] }).IsList t items:=ht.at λo e=>aJ _ e
  refine aA (dC (PQ hlt items.size 0 _ _ ⟨_,bX _ rfl,rfl,rfl⟩ ht0 (by omega) λh₁ hit₁ hs₁=>?_))
  have hall:List.take items.size (List.drop 0 items.toList)=items.toList:=by
   rw[sF];exact iZ (by simp)
  rw[hall]
  rw[if_neg (by simp)]
  have ht₁:h₁.IsList t items:=ht0.at λo e=>(hs₁.2 _ hlt).trans e
  refine aA (dC (yD hh hit₁ ht₁ (by simp) λh₂ he₂=>?_))
  simp only[Option.isSome_none,aP,if_false]
  refine aK (hQ h₂ λb o hb e=>he₂ b o hb (hs₁.extBut b o hb (aJ _ e)))
theorem FC {env:Env} {elts:List Expr} {x1:Nat} {pos:Pos} {t:Addr} {items:Array aB} {Q:Unit->aD->Prop} (hh:A.handled=none) (ht:s.heap.IsList t items)
  (hn:(assignEach elts env).length=items.size) (hstar:(assignEach elts env).findIdx? (·.1)=none)
  (h:∀h',IC s.heap.objs.size s.heap h'->wpAny (model prog w) A (assignInOrder ((assignEach elts env).map (·.2)) items.toList) Q E { s with heap:=h' }) :
  wpAny (model prog w) A (assign (.Tuple elts x1 pos) env (.ref t)) Q E s:=by
 rw[assign_Tuple]
 refine aA (nQ ?_)
 unfold unpack
 rw[hn,hstar]
 exact aA (dC (HZ hh ht h))
end
def Kp (n:Nat) (g:RGs):RG:=λd ρ Q=>match d with
 | .lst ds=>ds.length=n/\g ds ρ Q
 | _=>False
section
variable {X:Cx} {pos:Pos}
theorem Pn {es:List Expr} {k:Nat} {g:RGs} {n:Nat} (hc:X.calm=true) (h:DGs X es g) (hn:(assignEach es X.env).length=n:=by rfl) (hst:(assignEach es X.env).findIdx? (·.1)=none:=by rfl):DG X (.Tuple es k pos) (Kp n g):=by
 intro pins s σ H v u Q I r hh
 obtain⟨d,ρ,P,rr,st,q,kk⟩:=hh
 cases d with
 | lst ds =>
  cases rr with
  | @lst a vs _ hz rr =>
   obtain rfl:u=cU a:=r
   obtain⟨its,rv,ht,hz'⟩:=I.list hz.sq
   refine FC (I.ok.hd hc) ht.isList (by simp[hn,<-rv.length,<-rr.length,q.1]) hst λh' hx=>?_
   have I1:Inv X pins σ H { s with heap:=h' }:=I.kept (t':=s.toks) λb o e=>hx b o (aR (aO e)) e
   exact h pins _ σ H vs _ Q I1 (by simpa using rv) ⟨ds,ρ,P,rr,st,q.2,kk⟩
 | _=>exact q.elim
end
def GX:R22:=λx y Q=>match eqF 9 x y with
 | some b=>Q (.bl b)
 | none=>False
section
variable {X:Cx}
theorem MJ {k:Nat} (hr:Room k X.A):OpD X (compareOp .Eq) GX:=by
 intro pins s σ H x y v u Q I rx ry hh_0
 obtain⟨d,e,P,r1,r2,q,kk⟩:=hh_0
 unfold GX at q
 split at q
 ·rename_i b hb
  have hu:=hr.units
  have:sK X.A s v u b:=by
   by_cases hl:∃xs ys,d = .lst xs/\e = .lst ys
   ·obtain⟨xs,ys,rfl,rfl⟩:=hl
    obtain⟨a,vs,rfl,h1,q1⟩:=r1.lst
    obtain⟨c,ws,rfl,h2,q2⟩:=r2.lst
    cases rx;cases ry
    exact (LL I (A:=X.A) (n:=8) hb h1 q1 h2 q2 (by omega) λ{d e v u x y b} hk f2 f4 g4 g6=>(sO I 8 hk f2 f4 g4 g6 (by show X.A.units+1+8<cLine;omega)).2).1
   ·have p1:Rep X.K H d x:=by
     rcases r1 with r | ⟨ds,a,vs,e1,_⟩
     ·exact r
     ·subst e1;cases e <;> first | (cases hb;done) | exact absurd ⟨_,_,rfl,rfl⟩ hl
    have p2:Rep X.K H e y:=by
     rcases r2 with r | ⟨ds,a,vs,e1,_⟩
     ·exact r
     ·subst e1;cases d <;> first | (cases hb;done) | exact absurd ⟨_,_,rfl,rfl⟩ hl
    exact (sO I (A:=X.A) 9 hb p1 p2 rx ry (by omega)).1
  exact this _ _ _ _ ⟨.bl b,H,I,rfl,kk _ _ H q (Same.refl H) (.bl b)⟩
 ·exact q.elim
end
structure ExcK (K:aF) (C:Addr):Prop where
 ga:fI K (.ref C) "__getattribute__" = some (some (.builtin "BaseException.__getattribute__"))
 hk:fI K (.ref C) "__getattr__" = some none
 ca:fI K (.ref C) "__class__" = some (some (.builtin "object.__class__"))
 mo:nJ K C (.type "object")=some true
 mb:nJ K C (.type "BaseException")=some true
 cl:(BB K C).isSome=true
theorem Qq (K:aF):pA K (.builtin "object.__class__") "__get__" = some (some (.builtin "getset_descriptor.__get__")):=by rfl
theorem Qr (K:aF):IZ K (.builtin "object.__class__")=some true:=by rfl
open PySem.W in
theorem Nd {K:aF} {M:Model} {h:Heap} {x C:Addr} (X:K.In h) (Z:ExcK K C) :
  Looks M h (Builtin.ObjectAttr.find (.ref x) (.ref C) "__class__") (.bind (.builtin "getset_descriptor.__get__") (.builtin "object.__class__")):=by
 have L1:=mU (M:=M) X Z.ca
 have L2:Looks M h (Builtin.ObjectAttr.getOf (some (.builtin "object.__class__"))) (some (.builtin "getset_descriptor.__get__")):=looks_specialIn X (Qq K)
 have L3:=looks_takesIn (M:=M) X (Qr K)
 refine L1.andThen (L2.andThen ?_)
 refine BA (a:=some (nK "getset_descriptor.__get__",nK "object.__class__")) ?_ (Looks.tag .now)
 refine L3.andThen ?_
 exact .now
section
variable {K:aF} {prog:bA} {w:cA} {A:cE} {E:aB->aD->Prop} {s:aD} {x C:Addr} {o:Obj}
open PySem.W Builtin Builtin.ObjectAttr Builtin.Getset_descriptor
theorem Nc {R:Result->aD->Prop} {tp:aB} (Z:ExcK K C) (X:K.In s.heap) (hx:s.heap.get? x=some o) (hc:o.cls = .ref C) (h:R (.ok (.ret (.ref C))) s) :
  codeAny (model prog w) A (.call (.builtin "getset_descriptor.__get__") ⟨[.builtin "object.__class__",.ref x,tp],[]⟩) R s:=by
 obtain⟨hh,g,dr,t,os⟩:=s
 have a0:Looks (model prog w) hh (typeOf (.ref x)) (.ref C):=hc ▸ (uW hx).andThen .now
 have a1:=IK (M:=model prog w) X Z.mo
 refine iE KF.slot_gs.plain KF.entry_gs ?_
 refine KF.slot_gs.check _ _ _ _ _ _ _ _ KF.type_class (KF.args_gs _ _ _) ?_
 unfold Builtin.«getset_descriptor.__get__» descrGet
 rw[dga_obj]
 refine aA (aK ?_)
 unfold descrGetter descrCheckInstance descrNameAndClass isInstance
 simp only[KF.owner_class]
 repeat lk
 refine⟨nX _ (by decide +kernel),eF KF.entry_class ?_⟩
 unfold Builtin.«object.__class__» shownTypeOf
 repeat lk
 exact h
theorem WF {nameV:aB} {Q:Unit->aD->Prop} (Z:ExcK K C) (X:K.In s.heap) (hx:s.heap.get? x=some o) (hc:o.cls = .ref C) (h:Q () s) :
  wpAny (model prog w) A (checkBuiltinCall "BaseException.__getattribute__" ⟨[.ref x,nameV],[]⟩) Q E s:=by
 obtain⟨hh,g,dr,t,os⟩:=s
 have b0:Looks (model prog w) hh (typeOf (.ref x)) (.ref C):=hc ▸ (uW hx).andThen .now
 have b1:=IK (M:=model prog w) X Z.mb
 have kd:builtinKind "BaseException.__getattribute__" = some .slot:=by decide +kernel
 have sp:splitId "BaseException.__getattribute__" = some ("BaseException","__getattribute__"):=by decide +kernel
 have ha:=F.args_bexc_ga (.ref x) nameV
 simp only[checkBuiltinCall,kd,sp]
 refine aA ?_
 unfold isInstance
 repeat (first | lk | wp_step)
 exact h
theorem Jm {tk:Tok} {Q:Fin->aD->Prop} (Z:ExcK K C) (X:K.In s.heap) (hx:s.heap.get? x=some o) (hc:o.cls = .ref C) (h:Q (.done (.ret (.ref C))) s) :
  wpAny (model prog w) A (Builtin.«object.__getattribute__» ⟨[.ref x,.str "__class__" tk],[]⟩) Q E s:=by
 obtain⟨hh,g,dr,t,os⟩:=s
 have b0:Looks (model prog w) hh (typeOf (.ref x)) (.ref C):=hc ▸ (uW hx).andThen .now
 have b1:=Nd (M:=model prog w) (x:=x) X Z
 repeat (any_goals (first | assumption | with_reducible refine Looks.at (by assumption) ?_ | wp_step))
 refine Nc Z X hx hc ?_
 repeat (any_goals (first | assumption | wp_step))
theorem Dv {Q:Option aB->aD->Prop} (Z:ExcK K C) (X:K.In s.heap) (hx:s.heap.get? x=some o) (hc:o.cls = .ref C) (h:Q (some (.ref C)) { s with toks:=s.toks+1 }) :
  wpAny (model prog w) A (getAttr? (.ref x) "__class__") Q E s:=by
 obtain⟨hh,g,dr,t,os⟩:=s
 have b0:Looks (model prog w) hh (typeOf (.ref x)) (.ref C):=hc ▸ (uW hx).andThen .now
 have b1:=mU (M:=model prog w) X Z.ga
 have b2:=mU (M:=model prog w) X Z.hk
 have f3:=F.attr_ValueError.ga.bind (.ref x)
 have ne:(nK "BaseException.__getattribute__" == nK "object.__getattribute__")=false:=by decide +kernel
 unfold getAttr? getAttrBy? getAttrBy
 refine aA (wpAny_mkText (aA (CG (dC (aA (b0.at (aA (b1.at ?_))))))))
 show wpAny _ _ (getAttrByItsOwn _ _ _ _ _ _) _ _ _
 refine aA (b2.at ?_)
 have hx0:(false && onTheHeap (nK "BaseException.__getattribute__"))=false:=rfl
 repeat (any_goals (first | assumption | with_reducible refine Looks.at (by assumption) ?_ | wp_step))
 refine iE F.attr_ValueError.ga.plain F.entry_bexc_ga (WF Z X hx hc (Jm Z X hx hc ?_))
 repeat (any_goals (first | assumption | wp_step))
end
def frH (fs:List Addr):Hp:=λb=>if b∈fs then some (.tup []) else none
def MF (h:Heap) (fs:List Addr):Heap:=ON h (frH fs)
theorem MG {h:Heap} {fs:List Addr} {b:Addr} {o:Obj} (e:h.get? b=some o) (n:b ∉ fs):(MF h fs).get? b=some o:=VB e (if_neg n)
theorem Bw {h:Heap} {fs:List Addr} {b:Addr} {o:Obj} (e:(MF h fs).get? b=some o):h.get? b=some o/\b ∉ fs:=by
 obtain⟨h1,h2⟩:=Bv e
 refine⟨h1,λz=>?_⟩
 have h3:frH fs b=some (.tup []):=if_pos z
 rw[h3] at h2;cases h2
theorem HM {h:Heap} {fs:List Addr} {b:Addr} (z:h.get? b=none\/b∈fs):(MF h fs).get? b=none:=by
 cases e:(MF h fs).get? b with
 | none=>rfl
 | some o =>
  obtain⟨h1,h2⟩:=Bw e
  rcases z with z | z
  ·rw[z] at h1;cases h1
  ·exact (h2 z).elim
theorem Co {h base g:Heap} {fs:List Addr}:∀{l:List Env},h.FunFrames base l->(∀b∈frs l,b∈fs)->h.FunFrames (MF g fs) l
 | [],_,_=>trivial
 | env::r,⟨hk,⟨L,o,hf,hn,ho,hd⟩,hr⟩,hs=>by
  have hL:L∈frs (env::r):=by unfold frs;rw[cL,hf];exact cI
  exact⟨hk,⟨L,o,hf,HM (.inr (hs L hL)),ho,hd⟩,Co hr λb hb=>hs b (by unfold frs;rw[cL,hf];exact bD _ hb)⟩
section
variable {P:bA} {w:cA} {H H':Hp} {h h':Heap} {a:Addr} {u:HO}
theorem HN (x:ObjOk P w H h a u):∃o,h.get? a=some o:=by
 cases u with
 | lst xs=>obtain⟨_,_,_,_,e⟩:=x;exact⟨_,e⟩
 | tup xs=>obtain⟨_,_,_,_,e,_⟩:=x;exact⟨_,e⟩
 | dK kvs=>obtain⟨_,_,_,_,o,_,_,e,_⟩:=x;exact⟨_,e⟩
 | dT kvs=>obtain⟨_,_,_,_,o,_,_,e,_⟩:=x;exact⟨_,e⟩
 | set S n=>obtain⟨o,_,_,_,e,_⟩:=x;exact⟨_,e⟩
 | ins C dx fs=>obtain⟨_,_,_,e,_⟩:=x;exact⟨_,e⟩
 | own y=>exact x
 | xd fs=>obtain⟨_,⟨_,_,_,e,_⟩,_⟩:=x;exact⟨_,e⟩
 | rng lo hi=>obtain⟨_,_,_,e⟩:=x;exact⟨_,e⟩
 | frz ob u=>obtain⟨e,_⟩:=x;exact⟨_,e⟩
 | tbl ps=>exact⟨_,show h.get? a=some _ from x⟩
 | met f y=>exact⟨_,show h.get? a=some _ from x⟩
 | ext φ=>obtain⟨_,e,_⟩:=x;exact e
end
structure FlyAt (P:bA) (w:cA) (C:Addr) (outer:List Env) (H:Hp) (s:aD) (a:Addr) (B:Heap) (a0:aB) (H':Hp) (s':aD):Prop where
 os:s'.os=s.os
 bare:AllBare s'.gens
 same:Same H H'
 free:∀b o,s.heap.get? b=some o->H b=none->H' b=none
 bT:∀b u,H' b=some u->∀o,s'.heap.get? b=some o->B.get? b=some o
 bU:∀b o,s.heap.get? b=some o->H b=none->b ∉ frs outer->B.get? b=some o
 thr:∀b o,s.heap.get? b=some o->∃o',s'.heap.get? b=some o'
 fr:∀b∈frs outer,∀o,s.heap.get? b=some o->∃sl,s'.heap.get? b=some { o with slots:=sl }
 frn:∀b∈frs outer,H b=none/\∀o,s.heap.get? b=some o->∀vs,o.data≠.fields vs
 hok:HOk P w H' s'.heap
 fly:vX B outer a (.ref C) a0 s'.heap
section
variable {P:bA} {w:cA} {C:Addr} {outer:List Env} {H H':Hp} {s s':aD} {a:Addr} {B:Heap} {a0:aB} {h6:Heap}
theorem Ig (ok:HOk P w H' s'.heap) (bT:∀b u,H' b=some u->∀o,s'.heap.get? b=some o->B.get? b=some o) (k:B.StaysIn h6):HOk P w H' h6:=λb u e =>
 (ok b u e).stay (λc v hc q=>by
  rcases hc with rfl | hc
  ·exact k _ _ (bT _ _ e v q)
  ·exact k _ _ (bT _ _ hc v q)) (λ_ q=>q) λ_ _ q=>q
theorem FlyAt.step (F:FlyAt P w C outer H s a B a0 H' s') (k:B.StaysIn h6) (up:s'.heap.UpToSlots h6):Un (frs outer) [] H H' s.heap h6/\HOk P w H' h6:=by
 have sl:∀b o,s.heap.get? b=some o->b∈frs outer->∃sl,h6.get? b=some { o with slots:=sl }:=λb o e hb=>by
  obtain⟨l1,q⟩:=F.fr b hb o e
  exact up b { o with slots:=l1 } q λvs z=>(F.frn b hb).2 o e vs z
 refine⟨⟨λb o e n hb _=>k _ _ (F.bU b o e n hb),λb o e n hb _=>sl b o e hb,λb o e n _=>F.free b o e n,λb o e _=>?_,λb xs e=>F.same.get b _ e trivial,λb o u e=>F.same.get b _ e trivial,λb ps e=>F.same.tbl e⟩,Ig F.hok F.bT k⟩
 cases q:H b with
 | some u =>
  obtain⟨o',e'⟩:=F.thr b o e
  obtain⟨u',q'⟩:=F.same.there q
  exact⟨o',k _ _ (F.bT b u' q' o' e')⟩
 | none =>
  by_cases hb:b∈frs outer
  ·obtain⟨l,z⟩:=sl b o e hb;exact⟨_,z⟩
  ·exact⟨o,k _ _ (F.bU b o e q hb)⟩
theorem FlyAt.at (F:FlyAt P w C outer H s a B a0 H' s'):∃oe vs,s'.heap.get? a=some oe/\oe.cls = .ref C/\oe.data = .fields vs:=by
 obtain⟨_,_,_,oe,vs,_,_,_,h1,h2,h3,_⟩:=F.fly
 exact⟨oe,vs,h1,h2.1,h3⟩
theorem FlyAt.new (F:FlyAt P w C outer H s a B a0 H' s'):H' a=none:=by
 cases q:H' a with
 | none=>rfl
 | some u =>
  obtain⟨oe,vs,h1,_⟩:=F.at
  have:=F.bT a u q oe h1
  rw[F.fly.2.1] at this;cases this
theorem FlyAt.nofr (F:FlyAt P w C outer H s a B a0 H' s'):a ∉ frs outer:=λz=>by
 obtain⟨_,o,h1,h2⟩:=F.fly.2.2.1.mem z
 obtain⟨oe,vs,h3,_,h4⟩:=F.at
 rw[h1] at h3;cases h3
 exact h2 vs h4
end
structure Top1 (X:Cx):Prop where
 stk:X.stack=X.env::X.outer
 fr:X.env.frame=some X.env.locals
 ex:X.ex=[]
section
variable {X:Cx} {pins:List (Addr × Obj)} {σ:St} {H H1:Hp} {s s1:aD} {C e:Addr} {E:XK} {EE:aB->aD->Prop}
theorem Top1.sub (T:Top1 X) {b:Addr}:b∈frs X.stack↔b=X.env.locals\/b∈frs X.outer:=by
 rw[T.stk]
 unfold frs
 rw[cL,T.fr]
 exact aL
end
open PySem.W in
section
variable {X:Cx} {C:Addr} {x:Str} {np cpos pos:Pos} {msg:Str} {j:Nat} {p:Pos}
end
section
variable {X:Cx} {C:Addr} {k:Nat} {ps:List Str} {F:List D->Prop} {x:Str} {p pos:Pos} {e:Expr} {es:List Expr} {t:RA}
end
section
variable {X:Cx} {pins:List (Addr × Obj)} {σ:St} {H:Hp} {s:aD}
theorem Ii {i:Nat} {x:Str} {h':Heap} {v:Option aB} {m:Str->Option aB} {t:Nat} (I:Inv X pins σ H s) (hN:X.N.Nodup) (hi:X.N[i]? = some x)
  (hl:∀(i:Nat) (x:Str) (v:V),X.N[i]? = some x->σ[i]? = some (some v)->Vis X.env.scope x->∃u,RelV v u/\Look X.env s.heap m x u)
  (hn:h'.Ns X.env.locals (λy=>if y=x then v else m y)) (hs:kP X.env.locals s.heap h'):Inv X pins (σ.set i none) H { s with heap:=h',toks:=t }:=by
 have keep:∀b,b≠X.env.locals->h'.get? b=s.heap.get? b:=λb hb=>hs.2 b hb
 have nb:∀b o,X.s₀.heap.get? b=some o->b≠X.env.locals:=λb o e=>aR (aV (aO e) I.ok.above)
 refine⟨I.ok,I.os,I.bare,⟨λb o e n hb hx=>?_,λb o e n hb hx=>?_,I.base.free,λb o e hx=>?_,I.base.tups,I.base.frzs,I.base.tbls⟩,⟨_,hn,λj y w e1 e2 e3=>?_⟩,λy c e=>?_,I.free,I.freeC,λp hp=>?_,λb u e=>?_,by simpa using I.len⟩
 ·exact (keep b (nb b o e)).trans (I.base.keep b o e n hb hx)
 ·obtain⟨sl,e1⟩:=I.base.slot b o e n hb hx
  exact⟨sl,(keep b (nb b o e)).trans e1⟩
 ·obtain⟨o',e1⟩:=I.base.there b o e hx
  exact⟨o',(keep b (nb b o e)).trans e1⟩
 ·by_cases hj:j=i
  ·subst hj
   by_cases hlt:j<σ.length
   ·rw[cY hlt] at e2;cases e2
   ·rw[uC (by omega),gZ (by omega)] at e2;cases e2
  ·rw[bG (Ne.symm hj)] at e2
   obtain⟨u,r,q⟩:=hl j y w e1 e2 e3
   refine⟨u,r,?_⟩
   rcases q with ⟨k,q⟩ | ⟨k,c,q,z⟩
   ·refine .inl ⟨k,?_⟩
    have:y≠x:=λe=>hj (MH hN e1 (e ▸ hi))
    simp[this,q]
   ·exact .inr ⟨k,c,q,z.sameBut hs (I.cne y c q)⟩
 ·obtain⟨w,z⟩:=I.cell y c e
  exact⟨w,z.sameBut hs (I.cne y c e)⟩
 ·obtain⟨e,n,ne,nf,d⟩:=I.pin p hp
  exact⟨(keep p.1 ne).trans e,n,ne,nf,d⟩
 ·have nL:∀c z,H c=some z->c≠X.env.locals:=λc z q r=>by rw[r,I.free] at q;cases q
  refine (I.hok b u e).stay (λc v hc q=>(keep c ?_).trans q) (λ_ q=>q) λ_ _ q=>q
  rcases hc with rfl | hc
  ·exact nL _ _ e
  ·exact nL _ _ hc
abbrev DJ (X:Cx) (v:aB):Cx:={ X with A:=X.A.mark (some v),calm:=false }
theorem VD (I:Inv X pins σ H s) (v:aB):Inv (DJ X v) pins σ H s :=
 ⟨⟨I.ok.mod,I.ok.kind,I.ok.glob,I.ok.blt,I.ok.above,I.ok.inj,I.ok.has,I.ok.cab,λz=>Bool.noConfusion z,I.ok.frames,I.ok.stk,I.ok.exf,I.ok.bs,I.ok.bsz,I.ok.noex,I.ok.exfs,I.ok.funs,I.ok.frf⟩,I.os,I.bare,I.base,I.loc,I.cell,I.free,I.freeC,I.pin,I.hok,I.len⟩
theorem YO {v:aB} (ok:X.Ok) (I:Inv (DJ X v) pins σ H s):Inv X pins σ H s:=⟨ok,I.os,I.bare,I.base,I.loc,I.cell,I.free,I.freeC,I.pin,I.hok,I.len⟩
end
section
variable {K:aF}
open PySem.W in
theorem VH {x C:Addr} (Z:ExcK K C):KitX K (.ref x) (.ref C) (λh=>∃o,h.get? x=some o/\o.cls = .ref C) where
 ty:=λ_ _ _ ⟨_,h1,h2⟩=>h2 ▸ (uW h1).andThen .now
 it:=λ_ _ X _=>by
  have z:=Z.cl
  unfold clsIn at z
  split at z
  ·rename_i c d cd sl lk
   intro A Q E s k q
   unfold isType loadHead
   exact aA (wpAny_loadPart (k _ _ (X _ _ lk)) (aK q))
  ·cases z
 ne:=λh tp dd its n sl X htp=>by
  have z:=Z.cl
  refine Bool.eq_false_iff.mpr λq=>?_
  have e:C=tp:=Value.ref.inj (beq_iff_eq.mp q)
  subst e
  unfold clsIn at z
  split at z
  ·rename_i c d cd sl' lk
   have y:=(X _ _ lk).symm.trans htp
   cases y
  ·cases z
 ca:=λX ⟨_,h1,h2⟩ k=>Dv Z X h1 h2 k
end
section
variable {X:Cx} {C e:Addr} {oe:Obj} {b:Bool}
end
theorem Le:bootBuiltins "ValueError" = some (.type "ValueError"):=by decide +kernel
section
variable {X:Cx} {C:Addr} {k:Nat} {ps:List Str} {F:List D->Prop} {g:Str} {ea:Expr} {es:List Expr} {t:RA} {q1 q2 q3 q4 q5 q6 q7 q8 q9 q10 q11 q12 q13 q14 q15 q16 q17 q18 q19 q20 q21 q22 q23 q24 q25 q26 q27 q28 q29 q30 q31:Pos} {j1 j2 j3:Nat}
end
section
variable {P:bA} {w:cA} {K:aF} {mg:Str->Option aB} {base:Heap}
end
section
variable {X:Cx} {C:Addr} {c:Expr} {tc:RT} {x:Str} {np cpos pos pos2 p:Pos} {msg:Str} {j:Nat} {rest:List Stmt}
end
section
variable {prog:bA} {w:cA} {A:cE} {E:aB->aD->Prop} {h:Heap} {g:Array GenState} {d:Drawn} {t:Nat} {os:OsState}
variable {nm qn:Str} {C N:Addr} {bs bm bB:List aB} {hd:Bool} {sn:List Str} {sub:List aB} {ab:Bool} {col:Option Bool} {dd:Option Addr} {k0 k1 k2 k3 k5:Option aB} {B nI iI:String}
abbrev pB (C z:Addr):Obj:={ cls:=.ref C,data:=.fields #[.ref z,.none,.none,.none,.bool false,.none] }
abbrev JY (h:Heap) (C:Addr) (us:List aB):Heap:=(h.push { cls:=.type "tuple",data:=.seq us.toArray }).push (pB C h.objs.size)
theorem SM (F:ExcBaseFacts B nI iI bB) (T:OwnTail h bB bm) {mN:Str->Option aB} {us:List aB} {f:Addr} {oF:Obj} {Q:Fin->aD->Prop}
  (hC:h.get? C=some (excClassObj nm qn C N bs bm hd sn sub ab col dd k0 k1 k2 k3 k5 nI)) (hN:h.Ns N mN) (hi:mN "__init__" = some (.ref f)) (hf:h.get? f=some oF) (hfc:oF.cls = .type "function") (hl:us.length<=sizeLine)
  (k:∀h' e,h.objs.size<=e->yK h h' e (.ref C) us->wpAny (model prog w) A (call (.ref f) (.ref e::us)) (λr s'=>r = .none/\Q (.done (.ret (.ref e))) s') E ⟨h',g,d,t,os⟩) :
  wpAny (model prog w) A (Builtin.«type.__call__» ⟨.ref C::us,[]⟩) Q E ⟨h,g,d,t,os⟩:=by
 have up:∀b o,h.get? b=some o->(JY h C us).get? b=some o:=λb o z=>aJ _ (aJ _ z)
 repeat (first | with_reducible refine kA hC ?_ | with_reducible refine wpAny_madeBy_exc hC ?_ | wp_step)
 refine codeAny_call_builtin_code (nX _ F.quiet) (wpAny_check_new_subT F T hC ?_)
 refine codeAny_exc_new_subT F T hC ?_ hl
 show wpAny _ _ _ _ _ (⟨JY h C us,g,d,t,os⟩:aD)
 have he:(JY h C us).get? (h.objs.size+1)=some (pB C h.objs.size):=by heap_get
 have isC:(cU C::bm).contains (.ref C)=true:=xR.mpr (.head _)
 unfold isInstance
 repeat (first | with_reducible refine kA he ?_ | (with_reducible refine AU (up _ _ hC) ?_;rw[isC]) | wp_step)
 show wpAny _ _ (typeLookup (.ref C) _) _ _ _
 refine wpAny_typeLookup_tail (up _ _ hC) (hN.keeps up) (T.keeps up) F.mroIs F.init.lookup ?_
 rw[hi]
 refine dC (aA ?_)
 unfold bindSpecial
 refine aA (pL (T:="function") ⟨_,up _ _ hf,hfc⟩ ?_)
 rw[if_pos (by decide)]
 have made:yK h (JY h C us) (h.objs.size+1) (.ref C) us:=⟨up,lY (mF _),h.objs.size,he,lY (aZ _),aJ _ (tJ rfl rfl)⟩
 refine aK (aA (dI (k _ _ (mF _) made) (λr s' z=>?_) λ_ _ z=>z))
 obtain⟨rfl,z⟩:=z
 wp_walk
 exact z
theorem RD (F:ExcBaseFacts B nI iI bB) (T:OwnTail h bB bm) {mN:Str->Option aB} {us:List aB} {f:Addr} {oF:Obj} {Q:aB->aD->Prop}
  (hC:h.get? C=some (excClassObj nm qn C N bs bm hd sn sub ab col dd k0 k1 k2 k3 k5 nI)) (hN:h.Ns N mN) (hi:mN "__init__" = some (.ref f)) (hf:h.get? f=some oF) (hfc:oF.cls = .type "function") (hl:us.length<=sizeLine)
  (k:∀h' e,h.objs.size<=e->yK h h' e (.ref C) us->wpAny (model prog w) (A.under (.builtin "type.__call__" ⟨.ref C::us,[]⟩)) (call (.ref f) (.ref e::us)) (λr s'=>r = .none/\Q (.ref e) s') E ⟨h',g,d,t,os⟩) :
  wpAny (model prog w) A (call (.ref C) us) Q E ⟨h,g,d,t,os⟩:=by
 have z1:=tc_lookup
 have z2:=tc_bind (.ref C)
 have z3:(⟨h,g,d,t,os⟩:aD).TypeIs (.ref C) "type":=⟨_,hC,rfl⟩
 refine qH (xG ?_)
 show wpAny _ _ (callAny (.ref C) _) _ _ _
 repeat (any_goals (first | assumption | with_reducible refine kA hC ?_ | wp_step))
 refine⟨rfl,codeAny_call_builtin_at (nX _ (by decide +kernel)) entry_typeCall (wpAny_check_type_call_sub hC (SM F T hC hN hi hf hfc hl λh' e z0 z=>?_))⟩
 exact k h' e z0 z
end
abbrev XS:List aB:=[.type "ValueError",.type "Exception",.type "BaseException",.type "object"]
structure ExcA (K:aF) (C:Addr) (x:Str):Prop where
 sa:fI K (.ref C) "__setattr__" = some (some (.builtin "object.__setattr__"))
 cl:∃cd B,BB K C=some cd/\cd.mro = .ref C :: .ref B::XS/\cd.hasDict=true
 mo:nJ K C (.type "object")=some true
 no:fI K (.ref C) x=some none
section
variable {K:aF} {prog:bA} {w:cA} {A:cE} {E:aB->aD->Prop} {s:aD} {e C:Addr} {oe:Obj} {x:Str} {v:aB}
open PySem.W Builtin Builtin.ObjectAttr
theorem Dx {Q:Unit->aD->Prop} (Z:ExcA K C x) (X:K.In s.heap) (he:s.heap.get? e=some oe) (hc:oe.cls = .ref C) (hnd:oe.dict=none) (hnc:∀c,oe.data≠.cls c)
  (k:∀h' dx tk,dx=s.heap.objs.size->dx≠e->h'.get? e=some { oe with dict:=some dx }->h'.Ns1 dx (λy=>if y=x then some v else none)->(∀b o,b≠e->s.heap.get? b=some o->h'.get? b=some o)->Q () { s with heap:=h',toks:=tk }) :
  wpAny (model prog w) A (setAttr (.ref e) x v) Q E s:=by
 obtain⟨hh,g,dr,tk0,os⟩:=s
 obtain⟨cd,B1,hcd,hmro,hhd⟩:=Z.cl
 have SF:=PySem.F.store_ValueError
 have J:yU hh e oe C none:=⟨he,hc,by unfold notCls;split <;> first | rfl | (rename_i c q;exact absurd q (hnc c)),by rw[hnd];exact jG⟩
 refine PySem.W.set_plain X J Z.sa ?_
 have sub:Looks (model prog w) hh (isInstance (.ref e) (.type "object")) true:=J.type.andThen (IK X Z.mo)
 refine iE SF.slot.plain SF.entry (@check_slot (model prog w) _ _ ⟨hh,g,dr,tk0+1,os⟩ "object.__setattr__" "object" "__setattr__" (.ref e) [.str x tk0,v] [] _ SF.kind SF.split sub (SF.args (.ref e) (.str x tk0) v) ?_)
 have hm:Looks (model prog w) hh (mroOf (.ref C)) cd.mro:=(looks_clsIn X hcd).andThen .now
 rw[osa_eq,refuse_eq]
 refine aA (aA (J.type.at (aA (hm.at ?_))))
 rw[hmro,NI,NI,SF.passes]
 refine aK (aA (J.type.at (aA ((mU X Z.no).at (aA (aK ?_))))))
 show wpAny _ _ (storeInOwnDict (.ref e) (.ref C) (.str x tk0) x v false) _ _ _
 unfold storeInOwnDict
 refine aA (aK ?_)
 have hcl:Looks (model prog w) hh (classData C) cd:=looks_clsIn X hcd
 repeat (first | (with_reducible refine kA he ?_;rw[hc]) | with_reducible refine hcl.at ?_ | wp_step)
 rw[hnd]
 dsimp only
 rw[if_neg (by simp[typeHasDict])]
 split
 ·rename_i c q
  exact absurd q (hnc c)
 have ne:e≠hh.objs.size:=aR (aO he)
 have he1:(hh.push { cls:=.type "dict",data:=.dict #[] }).get? e=some oe:=aJ _ he
 refine aA (wpAny_alloc' (aA (wpAny_update' he1 (aK ?_))))
 generalize hg:(hh.push { cls:=.type "dict",data:=.dict #[] }).update e (λo=>{ cls:=o.cls,dict:=some hh.objs.size,data:=o.data,slots:=o.slots })=h2
 have hd2:h2.get? hh.objs.size=some { cls:=.type "dict",data:=.dict #[] }:=by rw[<-hg];exact (rA _ _ _ _ ne.symm).trans (tJ rfl rfl)
 have he2:h2.get? e=some { oe with dict:=some hh.objs.size }:=by
  rw[<-hg]
  refine dD _ he1 ?_
  have fr:=(nY.mp he).2
  obtain⟨oc,od,odt,osl⟩:=oe
  cases odt <;> first | rfl | exact fr
 have kp:∀b o,b≠e->hh.get? b=some o->h2.get? b=some o:=λb o nb q=>by rw[<-hg];exact (rA _ _ _ _ nb).trans (aJ _ q)
 have n2:h2.Ns hh.objs.size (λ_=>none):=⟨_,#[],_,hd2,rfl,λ_ z=>absurd z (by simp),λ_=>rfl⟩
 show wpAny _ _ (storeInDict hh.objs.size (.str x tk0) x v) _ _ _
 unfold storeInDict newKeyGuard
 refine aA (aK (aA (wpAny_nsSet1 (Heap.Ns1.of_empty n2) λh3 n3 sb=>?_)))
 obtain⟨oD,esD,epD,hoD,hdD,hcD⟩:=n3.count (Within.cons x v Within.nil)
 refine aA (wpAny_lookBehind hoD (by rw[hdD];exact pastItsLine_dict (dQ hcD (by rw[bJ,dU,eX];omega))) ?_)
 refine aK ?_
 exact k h3 hh.objs.size _ rfl ne.symm ((sb.2 e ne).trans he2) n3 λb o nb q=>(sb.2 b (aR (aO q))).trans (kp b o nb q)
theorem Hy {M:Model} {h:Heap} {dx:Addr} {mA:Str->Option aB} (Z:ExcA K C x) (X:K.In h) (he:h.get? e=some oe) (hc:oe.cls = .ref C) (hnc:∀c,oe.data≠.cls c) (hd:oe.dict=some dx) (hn:h.Ns1 dx mA) (hv:mA x=some v) :
  Looks M h (find (.ref e) (.ref C) x) (.value v):=by
 obtain⟨cd,B1,hcd,hmro,hhd⟩:=Z.cl
 obtain⟨od,ho,hl⟩:=QB hn
 have J:yU h e oe C (some od):=⟨he,hc,by unfold notCls;split <;> first | rfl | (rename_i c q;exact absurd q (hnc c)),by rw[hd];exact ho⟩
 have L1:=mU (M:=M) X Z.no
 have L2:Looks M h (inOwnDict x (.ref e)) (some v):=looks_own X J hcd (by unfold PySem.W.ownOf;rw[hhd,if_pos rfl,<-hv];exact hl x)
 refine L1.andThen (BA (a:=none) .now (BA (a:=none) .now ?_))
 show Looks M h (ownThenClass (.ref e) x none none) _
 unfold ownThenClass
 exact L2.andThen (Looks.tag .now)
theorem Dw {tk:Tok} {Q:Fin->aD->Prop} {dx:Addr} {mA:Str->Option aB} (Z:ExcA K C x) (X:K.In s.heap) (he:s.heap.get? e=some oe) (hc:oe.cls = .ref C) (hnc:∀c,oe.data≠.cls c) (hd:oe.dict=some dx) (hn:s.heap.Ns1 dx mA) (hv:mA x=some v) (h:Q (.done (.ret v)) s) :
  wpAny (model prog w) A (Builtin.«object.__getattribute__» ⟨[.ref e,.str x tk],[]⟩) Q E s:=by
 obtain⟨hh,g,dr,t,os⟩:=s
 have b0:Looks (model prog w) hh (typeOf (.ref e)) (.ref C):=hc ▸ (uW he).andThen .now
 have b1:=Hy (M:=model prog w) Z X he hc hnc hd hn hv
 repeat (any_goals (first | assumption | with_reducible refine Looks.at (by assumption) ?_ | wp_step))
theorem UT {b:Bool} {Q:aB->aD->Prop} {dx:Addr} {mA:Str->Option aB} (Y:ExcK K C) (Z:ExcA K C x) (X:K.In s.heap) (he:s.heap.get? e=some oe) (hc:oe.cls = .ref C) (hnc:∀c,oe.data≠.cls c) (hd:oe.dict=some dx) (hn:s.heap.Ns1 dx mA) (hv:mA x=some v)
  (hi:∃n z,v = .int n z) (h:Q v { s with toks:=s.toks+1 }):wpAny (model prog w) A (getAttr (.ref e) x b) Q E s:=by
 obtain⟨hp,g,dr,t,os⟩:=s
 have b0:Looks (model prog w) hp (typeOf (.ref e)) (.ref C):=hc ▸ (uW he).andThen .now
 have b1:=mU (M:=model prog w) X Y.ga
 have b2:=mU (M:=model prog w) X Y.hk
 have f3:=F.attr_ValueError.ga.bind (.ref e)
 unfold getAttr getAttrBy
 refine aA (wpAny_mkText (dC (aA (b0.at (aA (b1.at ?_))))))
 show wpAny _ _ (getAttrByItsOwn _ _ _ _ _ _) _ _ _
 refine aA (b2.at ?_)
 have hx0:(b && onTheHeap (nK "BaseException.__getattribute__"))=false:=by cases b <;> rfl
 repeat (any_goals (first | assumption | with_reducible refine Looks.at (by assumption) ?_ | wp_step))
 refine iE F.attr_ValueError.ga.plain F.entry_bexc_ga (WF Y X he hc (Dw Z X he hc hnc hd hn hv ?_))
 repeat (any_goals (first | assumption | wp_step))
 obtain⟨n,z,rfl⟩:=hi
 exact aK h
end
section
variable {prog:bA} {w:cA} {A:cE} {E:aB->aD->Prop} {h:Heap} {g:Array GenState} {d:Drawn} {t:Nat} {os:OsState}
variable {nm qn:Str} {C N:Addr} {bs bm:List aB} {hd:Bool} {sn:List Str} {sub:List aB} {ab:Bool} {col:Option Bool} {dd:Option Addr} {k0 k1 k2 k3 k5:Option aB} {nI:String}
theorem Hz {e y:Addr} {us:List aB} {Q:aB->aD->Prop} (T:OwnTail h XS bm) (hC:h.get? C=some (excClassObj nm qn C N bs bm hd sn sub ab col dd k0 k1 k2 k3 k5 "ValueError.__new__"))
  (he:h.get? e=some (pB C y)) (hl:us.length<=sizeLine)
  (k:∀h' z,h.get? z=none->h'.get? e=some (pB C z)->(∀b o,b≠e->h.get? b=some o->h'.get? b=some o)->Q .none ⟨h',g,d,t,os⟩) :
  wpAny (model prog w) A (call (.builtin "ValueError.__init__") (.ref e::us)) Q E ⟨h,g,d,t,os⟩:=by
 have F:=sI
 refine qH (iE F.init.plain F.initEntry (wpAny_check_init_subT F T hC he rfl ?_))
 wp_walk
 have he1:(h.push { cls:=.type "tuple",data:=.seq us.toArray }).get? e=some (pB C y):=aJ _ he
 refine k _ h.objs.size (lY (aZ _)) ?_ λb o nb q=>?_
 ·rw[dD _ he1 rfl]
  rfl
 ·rw[bO _ _ (Ne.symm nb)]
  exact aJ _ q
end
def DK {α:Type}:Sem α->Prop
 | .pure _=>True
 | .raise _=>True
 | .unsupported _=>True
 | .finish _=>True
 | .rule _ k=>DK (k ())
 | .at _ k=>DK (k ())
 | .load _ _ k=>∀o,DK (k o)
 | .update _ _ f k=>(∀o,(f o).dict=o.dict)/\DK (k ())
 | .alloc _ k=>∀n,DK (k n)
 | .loadIfAlive _ k=>∀o,DK (k o)
 | .point _ k=>DK (k ())
 | .fresh k=>∀t,DK (k t)
 | .ask k=>∀x,DK (k x)
 | .handled _ k=>∀x,DK (k x)
 | .stack k=>∀x,DK (k x)
 | .thread k=>∀x,DK (k x)
 | _=>False
def Kd (e:Addr) (d:Option Addr) (h:Heap):Prop:=e<h.objs.size/\∀o,h.get? e=some o->o.dict=d
theorem Kd.push {e:Addr} {d:Option Addr} {h:Heap} {o:Obj} (k:Kd e d h):Kd e d (h.push o) :=
 ⟨by rw[kF];exact fA k.1,λo' z=>k.2 o' (by rw[EI _ _ _ (aR k.1)] at z;exact z)⟩
theorem Kd.update {e a:Addr} {d:Option Addr} {h:Heap} {f:Obj->Obj} (k:Kd e d h) (ha:(h.get? a).isSome) (hf:∀o,(f o).dict=o.dict):Kd e d (h.update a f):=by
 refine⟨by rw[GH];exact k.1,λo' z=>?_⟩
 by_cases ea:a=e
 ·subst ea
  obtain⟨o,ho⟩:=uE.mp ha
  have z1:=(nY.mp z).1
  have z2:=(nY.mp ho).1
  have:(h.update a f).objs[a]? = some (f o):=by
   show (h.objs.modify a f)[a]? = some (f o)
   rw[Array.getElem?_modify,if_pos rfl,z2];rfl
  rw[this] at z1
  cases z1
  rw[hf o]
  exact k.2 o ho
 ·rw[bO _ _ ea] at z
  exact k.2 o' z
theorem DK.bind {α β:Type} {f:α->Sem β} (hf:∀a,DK (f a)):∀{t:Sem α},DK t->DK (t.bind f):=by
 intro t
 induction t with
 | pure a=>intro _;exact hf a
 | raise=>intro _;trivial
 | unsupported=>intro _;trivial
 | finish=>intro _;trivial
 | rule _ k ih=>intro h;exact ih () h
 | «at» _ k ih=>intro h;exact ih () h
 | load _ _ k ih=>intro h o;exact ih o (h o)
 | update _ _ g k ih=>intro h;exact⟨h.1,ih () h.2⟩
 | alloc _ k ih=>intro h o;exact ih o (h o)
 | loadIfAlive _ k ih=>intro h o;exact ih o (h o)
 | point _ k ih=>intro h;exact ih () h
 | fresh k ih=>intro h o;exact ih o (h o)
 | ask k ih=>intro h o;exact ih o (h o)
 | handled _ k ih=>intro h o;exact ih o (h o)
 | stack k ih=>intro h o;exact ih o (h o)
 | thread k ih=>intro h o;exact ih o (h o)
 | _=>intro h;exact eG h
theorem DK.wp {α:Type} {M:Model} {Γ:PySem.Ctx} {e:Addr} {d:Option Addr} {Q:α->Pos->aD->Prop} {E:aB->Pos->aD->Prop}:∀{t:Sem α} {p:Pos} {s:aD},DK t->Kd e d s.heap->Sem.wp M Γ t Q E p s ->
  Sem.wp M Γ t (λa p s'=>Q a p s'/\Kd e d s'.heap) (λa p s'=>E a p s'/\Kd e d s'.heap) p s:=by
 intro t
 induction t with
 | pure a=>intro p s _ k h;exact⟨h,k⟩
 | raise=>intro p s _ k h;exact⟨h,k⟩
 | unsupported=>intro p s _ _ h;exact h
 | finish=>intro p s _ _ h;exact h
 | rule _ k ih=>intro p s h;exact ih () h
 | «at» _ k ih=>intro p s h;exact ih () h
 | load _ _ k ih=>intro p s h kd w;obtain⟨o,h1,h2⟩:=w;exact⟨o,h1,ih o (h o) kd h2⟩
 | update a _ g k ih=>intro p s h kd w;exact⟨w.1,ih () h.2 (Kd.update kd w.1 h.1) w.2⟩
 | alloc o k ih=>intro p s h kd w;exact ih _ (h _) (Kd.push kd) w
 | loadIfAlive _ k ih=>intro p s h kd w;exact ih _ (h _) kd w
 | point _ k ih=>intro p s h kd w;exact ih () h kd w
 | fresh k ih=>intro p s h kd w;exact ih _ (h _) kd w
 | ask k ih=>intro p s h kd w;exact ih _ (h _) kd w
 | handled _ k ih=>intro p s h kd w;exact ih _ (h _) kd w
 | stack k ih=>intro p s h kd w;exact ih _ (h _) kd w
 | thread k ih=>intro p s h kd w;exact ih _ (h _) kd w
 | _=>intro p s h;exact eG h
theorem LE {α:Type} {M:Model} {A:cE} {s:aD} {t:Sem α} {e:Addr} {d:Option Addr} {Q:α->aD->Prop} {E:aB->aD->Prop} (h:DK t) (k:Kd e d s.heap) (w:wpAny M A t Q E s) :
  wpAny M A t (λa s'=>Q a s'/\Kd e d s'.heap) (λa s'=>E a s'/\Kd e d s'.heap) s:=λ Γ p hΓ=>h.wp k (w Γ p hΓ)
theorem DK.bind' {α β:Type} {t:Sem α} {f:α->Sem β} (h:DK t) (hf:∀a,DK (f a)):DK (t >>= f):=DK.bind hf h
theorem Pq {α:Type} (w:String):DK (unsupported w:Sem α):=trivial
theorem RP (a:Addr):DK (load a):=λ_=>trivial
theorem Ho (a:Addr) (f:Obj->Obj) (h:∀o,(f o).dict=o.dict):DK (update a f):=⟨h,trivial⟩
theorem LG:DK stack:=λ_=>trivial
theorem UI (v:aB):DK (fieldsOf v):=by
 unfold fieldsOf
 split
 ·refine (RP _).bind' λo=>?_
  split <;> trivial
 ·trivial
theorem FJ (v:aB) (i:Nat):DK (field v i):=by
 unfold field
 refine (UI v).bind' λvs=>?_
 split <;> trivial
theorem Hj (g:Array aB->Array aB) (o:Obj):(OC g o).dict=o.dict:=by
 obtain⟨c,d,dt,sl⟩:=o
 cases dt <;> rfl
theorem zD (v:aB) (i:Nat) (x:aB):DK (setField v i x):=by
 unfold setField updateField
 split
 ·refine (RP _).bind' λo=>?_
  split
  ·split
   ·exact Ho _ _ λo=>Hj _ o
   ·trivial
  ·trivial
 ·trivial
theorem HA (v:aB):DK (setFlight v none):=by
 unfold setFlight
 refine (FJ v 1).bind' λtb=>?_
 split
 ·exact zD _ _ _
 ·trivial
theorem Hn (f:Addr) (b:Bool):DK (entryPlaceOf f b):=by
 unfold entryPlaceOf
 refine LG.bind' λacts=>?_
 split <;> trivial
theorem Dt (env:Env) (outer:List Env):DK (behindIsImport env outer):=by
 unfold behindIsImport
 split
 ·trivial
 ·split
  ·trivial
  ·exact (FJ _ _).bind' λ_=>trivial
theorem Lr (env:Env) (b:Bool) (outer:List Env):DK (keptBack env b outer):=by
 unfold keptBack
 split
 ·split
  ·trivial
  ·exact DK.bind' (LG.bind' λ_=>trivial) λ_=>trivial
 ·trivial
theorem UJ:∀l:List Env,DK (readyFrames l)
 | []=>trivial
 | env::outer=>by
  unfold readyFrames
  split
  ·refine (RP _).bind' λo=>?_
   split
   ·trivial
   ·refine (Dt _ _).bind' λb=>(Lr _ _ _).bind' λv=>?_
    refine DK.bind' (Ho _ _ λo=>rfl) λ_=>UJ outer
  ·trivial
theorem YH (env:Env):DK (BC env):=by
 unfold BC frameEnvs
 refine DK.bind' (LG.bind' λ_=>trivial) λl=>?_
 refine DK.bind' ?_ λo=>?_
 ·unfold frameObject
  split
  ·trivial
  ·exact (UJ _).bind' λ_=>trivial
 ·split <;> trivial
theorem Hm (a b c d e:aB) (l:List aB):DK (qZ a b c d e l):=by
 unfold qZ newFields newObj
 generalize [a,b,c,d,e]++(if l.isEmpty=true then dG 6 eM else l)=vs
 dsimp only
 have z:DK (newObjAsIs (.type "traceback") (.fields vs.toArray)):=by
  intro n
  trivial
 split
 ·exact DK.bind' (Pq _) λ_=>z
 ·exact z
theorem Ba (v:aB) (env:Env):DK (noteFrame v env):=by
 unfold noteFrame
 split
 ·refine (FJ _ _).bind' λhd=>?_
  have z:∀f,DK (do setField v 1 (<-qZ hd (<-BC env) .none (rawInt f) .none (<-entryPlaceOf f (hd != .none)))):=λf =>
   (YH env).bind' λ_=>(Hn _ _).bind' λ_=>(Hm _ _ _ _ _ _).bind' λ_=>zD _ _ _
  dsimp only
  split
  ·refine (FJ _ _).bind' λy=>?_
   split
   ·trivial
   ·exact (zD _ _ _).bind' λ_=>z _
  ·exact z _
 ·trivial
theorem LF (v:aB) (env:Env):DK (leaving env v):=by
 unfold leaving
 exact (Ba _ _).bind' λ_=>HA _
open PySem.W in
def SA (K:Frag) (C f:Addr):Bool:=match K.lookup C with
 | some ⟨.type "type",_,.cls cd,sl⟩=>(match cd.mro,sl.toList with
  | .ref C'::bm,[_,_,_,_,some (.builtin n),_]=>(C' == C && n == "ValueError.__new__") && ((!cd.hasDel && tailIn K XS bm) && (nsOkIn K cd.ns && nsIn K cd.ns "__init__" == some (some (.ref f))))
  | _,_=>false)
 | _=>false
structure ExcI (K:aF) (C Cb f:Addr) (x:Str):Prop where
 k:ExcK K C
 a:ExcA K C x
 own:SA K C f=true
 fn:KI K (.ref f)=some (.type "function")
 sp:pA K (.ref Cb) "__getattribute__" = some (some (.builtin "type.__getattribute__"))
 rd:IY K Cb (.type "type")=true
 fc:IX K (.ref Cb) (.type "type") "__init__" = some (.val (.builtin "ValueError.__init__"))
open PySem.W in
theorem Na {K:aF} {h:Heap} {N:Addr} {m:Str->Option aB} {n:Str} {v:aB} (X:K.In h) (G:h.Ns N m) (z:nsIn K N n=some (some v)):m n=some v:=by
 obtain⟨o,es,ep,go,gd,_,gf⟩:=G
 unfold nsIn at z
 split at z
 ·rename_i q
  have y:=X _ _ q
  rw[go] at y;cases y;cases gd
  split at z
  ·rename_i en y
   cases z
   rw[<-gf];unfold nsFind findBy
   rw[<-CJ,y];rfl
  ·split at z <;> cases z
 ·cases z
open PySem.W in
theorem SS {K:aF} {h:Heap} {C f:Addr} (X:K.In h) (z:SA K C f=true):∃bm N nm q bs hd sn sub ab col dd k0 k1 k2 k3 k5 mN,
  h.get? C=some (excClassObj nm q C N bs bm hd sn sub ab col dd k0 k1 k2 k3 k5 "ValueError.__new__")/\h.Ns N mN/\mN "__init__" = some (.ref f)/\OwnTail h XS bm:=by
 unfold SA at z
 split at z
 ·rename_i dd cd sl lk
  split at z
  ·rename_i C' bm k0 k1 k2 k3 n k5 e1 e2
   simp only[jE,beq_iff_eq,Bool.not_eq_true'] at z
   obtain⟨⟨y1,y2⟩,⟨y3,z4⟩,z5,z6⟩:=z
   obtain⟨nm,bs,mro,ns,qn,hd,sn,sub,ab,col,del⟩:=cd
   obtain⟨l⟩:=sl
   dsimp only at e1 e2 z5 z6 y3
   subst e1 e2 y1 y2 y3
   refine⟨bm,ns,nm,qn,bs,hd,sn,sub,ab,col,dd,k0,k1,k2,k3,k5,_,X _ _ lk,.of_isNs (isNs_of_in X z5),?_,tail_of_in X z4⟩
   exact Na X (.of_isNs (isNs_of_in X z5)) z6
  ·cases z
 ·cases z
abbrev DZ (C e:Addr):HO:=.ext λh=>∃z,h.get? e=some (pB C z)
abbrev oP (C e dx:Addr):HO:=.ext λh=>∃z,h.get? e=some { pB C z with dict:=some dx }
section
variable {P:bA} {w:cA} {H:Hp} {h:Heap} {C e dx:Addr}
theorem Ao {z:Addr} (he:h.get? e=some (pB C z)):ObjOk P w H h e (DZ C e):=⟨⟨z,he⟩,⟨_,he⟩,λh1 h2 ⟨z,q⟩ k=>⟨z,k _ q⟩⟩
theorem Md {z:Addr} (he:h.get? e=some { pB C z with dict:=some dx }):ObjOk P w H h e (oP C e dx):=⟨⟨z,he⟩,⟨_,he⟩,λh1 h2 ⟨z,q⟩ k=>⟨z,k _ q⟩⟩
end
section
variable {X:Cx} {C Cb f:Addr} {x y self:Str} {p p0 p1 p2 apos pos pos':Pos} {msg:Str} {j i:Nat}
theorem Jt {pl:Sem Bool} (Z:ExcI X.K C Cb f y) (hg:Gl X x) (hm:X.mg x=some (.ref Cb)) (hs:PE X (.Name self p1) (λσ H Q=>∃v,σ[i]? = some (some v)/\Q v H))
  (hdb:(x == ("__debug__":Str))=false:=by decide)
  (s2:starEach [.Name self p1,.Constant (.str msg) j p2] X.env=(false,eval (.Name self p1) X.env)::starEach [.Constant (.str msg) j p2] X.env:=by rfl)
  (s1:starEach [.Constant (.str msg) j p2] X.env=[(false,eval (.Constant (.str msg) j p2) X.env)]:=by rfl)
  (ht:eval (.Call (.Attribute (.Name x p0) "__init__" apos) [.Name self p1,.Constant (.str msg) j p2] [] pos) X.env=(do
   let ov <-eval (.Name x p0) X.env
   standAt apos.atName
   let (f,first) <-holding [ov] (getMethod ov "__init__" pl)
   callWith pos f first (backTo pos (starEach [.Name self p1,.Constant (.str msg) j p2] X.env)) (backToKw pos (keywordEach [] X.env))):=by rfl) :
  PE X (.Call (.Attribute (.Name x p0) "__init__" apos) [.Name self p1,.Constant (.str msg) j p2] [] pos) (λσ H Q=>∃e,σ[i]? = some (some (.ref e))/\H e=some (DZ C e)/\Q .non H):=by
 intro pins s σ H Q I hh
 obtain⟨e,he,hH,q⟩:=hh
 refine PySem.W.methodCall_KW (pl:=pl) (tS I hg hm ?_ hdb) ht
 refine PySem.W.method_cls I.kIn Z.sp (PySem.W.cls_value I.kIn Z.rd Z.fc rfl ?_)
 have I1:Inv X pins σ H { s with toks:=s.toks+1 }:=I.tok _
 have pa:=jN hs (jN (X:=X) (Ra (X:=X) (x:=msg) (j:=j) (pos:=p2)) qF (by rw[s1];rfl)) s2
 have qa:=pa pos pins _ σ H (λvs H1=>H1=H/\∃v,vs=[.ref e,v]) I1 ⟨.ref e,he,rfl,_,rfl⟩
 refine oN (first:=[]) (by rw[s2,s1];rfl) ?_
 rw[s2] at qa ⊢
 refine yI (thn qa λus s2' ⟨vs,H1,I2,r,e1,v,e2⟩=>?_)
 subst e1 e2
 obtain⟨u,rest,rfl,r1,r2⟩:∃u rest,us=u::rest/\RelV (.ref e) u/\rest.length<=sizeLine:=by
  cases r with
  | cons a b=>exact⟨_,_,rfl,a,by rw[<-b.length];exact (by decide:1<=sizeLine)⟩
 obtain rfl:u=cU e:=r1
 obtain⟨bm,N,nm,q0,bs,hd',sn,sub,ab,col,dd,k0,k1,k2,k3,k5,mN,hC,hN,hni,T⟩:=SS I2.kIn Z.own
 obtain⟨⟨z,hz⟩,_⟩:=I2.hok e _ hH
 obtain⟨hh,g,dr,tk,os⟩:=s2'
 refine Hz (us:=rest) T hC hz r2 λh' z' n1 n2 n3=>?_
 have I3:=I2.write (x:=e) (e:=e) (o:=DZ C e) (h':=h') (t':=tk) (by rw[hH];exact jG) (.inl rfl) (λb u nb q=>n3 b u nb q) ⟨_,n2⟩ (Ao n2)
 have same:upd H1 e (DZ C e)=H1:=by
  funext b
  unfold upd
  split
  ·rename_i eb;rw[eb,hH]
  ·rfl
 rw[same] at I3
 exact⟨.non,H1,I3,rfl,q⟩
theorem Rg {k:Nat} {c:Str} (Z:ExcI X.K C Cb f y) (hs:PE X (.Name self p1) (λσ H Q=>∃v,σ[i]? = some (some v)/\Q v H)) (hv:PE X (.Name c p2) (λσ H Q=>∃v,σ[k]? = some (some v)/\Q v H))
  (hsw:swapsWith (.Name c p2) (some (.Attribute (.Name self p1) y pos')) pos.line X.env=pure false:=by rfl) :
  PS X (.Assign [.Attribute (.Name self p1) y pos'] (.Name c p2) pos) (λD σ H=>∃e v,σ[i]? = some (some (.ref e))/\σ[k]? = some (some v)/\H e=some (DZ C e)/\∀dx,H dx=none->dx≠e->D.nx σ (upd (upd H dx (.xd [(y,v)])) e (oP C e dx))):=by
 intro pins s σ H D I hh
 obtain⟨e,v,he,hk,hH,q⟩:=hh
 refine plainObj_wpAny_Assign_Attribute (thn (hv pins s σ H (λw H1=>w=v/\H1=H) I ⟨v,hk,rfl,rfl⟩) λu s1 ⟨w,H1,I1,ru,e1,e2⟩=>?_) hsw
 subst e1 e2
 refine thn (hs pins s1 σ H1 (λz H2=>z = .ref e/\H2=H1) I1 ⟨.ref e,he,rfl,rfl⟩) λov s2 ⟨z,H2,I2,rz,e3,e4⟩=>?_
 subst e3 e4
 obtain rfl:ov=cU e:=rz
 obtain⟨⟨z,hz⟩,_⟩:=I2.hok e _ hH
 refine Dx Z.a I2.kIn hz rfl rfl (λc z=>by cases z) λh' dx tk n0 n1 n2 n3 n4=>?_
 obtain⟨oD,es,ep,g1,g2,g3,g4,g5⟩:=id n3
 have g1':(s2.heap.push oD).get? dx=some oD:=by
  rw[n0]
  exact tJ rfl (nY.mp g1).2
 have I3:=I2.laid (a:=dx) (o:=.xd [(y,w)]) (h':=s2.heap.push oD) (t':=tk) (λb u z=>aJ _ z) (by rw[n0];exact aZ _) ⟨_,⟨oD,es,ep,g1',g2,g3,g4,g5⟩,λf=>by
  by_cases ef:f=y
  ·subst ef
   simp only[yM,beq_self_eq_true,if_true]
   exact ru
  ·have:(f == y)=false:=by simpa using ef
   simp only[yM,this,if_neg ef]
   exact jG⟩
 have hne:(upd H2 dx (.xd [(y,w)])) e=some (DZ C e):=by rw[bM (Ne.symm n1)];exact hH
 have I4:=I3.write (x:=e) (e:=e) (o:=oP C e dx) (h':=h') (t':=tk) (by rw[hne];exact jG) (.inl rfl) (λb u nb z=>?_) ⟨_,n2⟩ (Md n2)
 ·have fr:H2 dx=none:=I2.hok.fresh (by rw[n0];exact aZ _)
  exact⟨σ,_,I4,q dx fr n1⟩
 ·by_cases eb:b=dx
  ·rw[eb] at z ⊢
   rw[g1'] at z;cases z;exact g1
  ·refine n4 b u nb ?_
   rw[EI _ _ _ (by rw[<-n0];exact eb)] at z
   exact z
end
def spI (C:Addr) (y:Str):Sp:=λvs H Q _=>∃e v,vs=[.ref e,v]/\H e=some (DZ C e)/\∀dx,H dx=none->dx≠e->Q .non (upd (upd H dx (.xd [(y,v)])) e (oP C e dx))
structure FnI (P:bA) (w:cA) (K:aF) (mg:Str->Option aB) (base:Heap) (C f:Addr) (y:Str) (k:Nat):Prop where
 ex:∃fd,FnOk P w K mg base CX0 k f fd ["self",y] (spI C y)/\Binds K fd ["self",y] []
section
variable {X:Cx} {C Cb f:Addr} {y x:Str} {k:Nat} {p pos:Pos} {a:Expr} {ta:TE}
theorem QT {pins:List (Addr × Obj)} {σ:St} {H:Hp} {s:aD} {Q:VK} {E':aB->aD->Prop} {u:aB} {v:V} (Z:ExcI X.K C Cb f y) (G:FnI X.prog X.w X.K X.mg X.base C f y k) (hr:Room (k+1) X.A) (I:Inv X pins σ H s) (r:RelV v u)
  (h:∀e dx,s.heap.objs.size<=e->H e=none->H dx=none->dx≠e->Q (.ref e) (upd (upd H dx (.xd [(y,v)])) e (oP C e dx))):wpAny (model X.prog X.w) X.A (call (.ref C) [u]) (EP X pins σ Q) E' s:=by
 obtain⟨fd,F,hb⟩:=G.ex
 obtain⟨bm,N,nm,q0,bs,hd',sn,sub,ab,col,dd,k0,k1,k2,k3,k5,mN,hC,hN,hni,T⟩:=SS I.kIn Z.own
 obtain⟨oF,lf,tf⟩:=kR.mp (show KH (λo:Obj=>o.cls) (X.K.lookup f)=some (.type "function") from Z.fn)
 have fresh:∀b,s.heap.objs.size<=b->H b=none:=λb z=>I.hok.fresh z
 obtain⟨hp,g,dr,tk,os⟩:=s
 refine RD sI T hC hN hni (I.kIn _ _ lf) tf (by decide:1<=sizeLine) λh' e ge made=>?_
 obtain⟨t,he,_,_⟩:=made.there
 have I1:=I.laid (a:=e) (o:=DZ C e) (h':=h') (t':=tk) made.keeps ge (Ao he)
 have r2:Vals [.ref e,v] [.ref e,u]:=.cons rfl (.cons r .nil)
 refine qH (jX (F.run (X.A.under (.builtin "type.__call__" ⟨.ref C::[u],[]⟩)) X.stack _ _ ⟨[.ref e,u],[]⟩ [.ref e,u] [.ref e,v] (λw H'=>w = .non/\∃dx,H dx=none/\dx≠e/\H'=upd (upd H dx (.xd [(y,v)])) e (oP C e dx)) E0 (hr.make C [u] []) (I1.env0.make C [u] []) (by
  have:=hb ⟨h',g,dr,tk,os⟩ [.ref e,u] I1.kIn rfl
  rwa [dL] at this) r2 ⟨e,v,rfl,cR,λdx n ne=>⟨rfl,dx,?_,ne,?_⟩⟩) λr s' hq=>?_)
 ·rwa [bM ne] at n
 ·funext b
  unfold upd
  by_cases eb:b=e
  ·rw[if_pos eb,if_pos eb]
  ·rw[if_neg eb,if_neg eb,if_neg eb]
 ·cases r with
  | error v=>exact eG hq
  | ok fl =>
   cases fl with
   | ret w =>
    obtain⟨v',H',I2,rv,e1,dx,n,ne,e2⟩:=I1.after hq
    subst e1 e2
    exact⟨rv,.ref e,_,I2,rfl,h e dx ge (fresh e ge) n ne⟩
   | next=>exact eG hq
   | brk=>exact eG hq
   | cont=>exact eG hq
end
def CXD (P:bA) (w:cA) (C:Addr):CXT:=λouter H s E e s'=>∃a B a0 H' dx,e = .ref a/\FlyAt P w C outer H s a B a0 H' s'/\(Kd a (some dx) s'.heap/\H dx=none)/\E (.ref C) (some dx) H'
def EX (C:Addr) (y:Str) (PP:Int->Prop):XK:=λv od H'=>v = .ref C/\∃c dx,PP c/\od=some dx/\H' dx=some (.xd [(y,.int c)])
section
variable {X:Cx} {pins:List (Addr × Obj)} {σ:St} {H H1:Hp} {s s1:aD} {C e dx:Addr} {E:XK} {EE:aB->aD->Prop}
def II (e:Addr) (H:Hp):Hp:=λb=>if b=e then none else H b
theorem LO {b:Addr} {u:HO} (h:II e H b=some u):b≠e/\H b=some u:=by
 unfold II at h
 split at h
 ·cases h
 ·rename_i n;exact⟨n,h⟩
theorem sP {b:Addr} (h:b≠e):II e H b=H b:=if_neg h
theorem Ie {P:bA} {w:cA} {h:Heap} {φ:Heap->Prop} (ok:HOk P w H h) (he:H e=some (.ext φ)):HOk P w (II e H) h:=λb u q=>by
 obtain⟨_,q'⟩:=LO q
 exact (ok b u q').stay (λ_ _ _ z=>z) (λc z=>by rw[sP];exact z;rintro rfl;rw[he] at z;cases z) λc xs z=>by rw[sP];exact z;rintro rfl;rw[he] at z;cases z
theorem VL (T:Top1 X) (I:Inv X pins σ H s) (sm:Same X.H₀ H) (hH:H e=some (oP C e dx)) (n0:X.H₀ e=none) (nd:X.H₀ dx=none) (n1:X.s₀.heap.get? e=none) (hE:E (.ref C) (some dx) (II e H)) :
  wpAny (model X.prog X.w) X.A (leaving X.env (.ref e)) (λ_ s''=>CXD X.prog X.w C X.outer X.H₀ X.s₀ E (.ref e) s'') (λv s'=>EE v s') s:=by
 obtain⟨⟨t,he⟩,_⟩:=I.hok e _ hH
 have hfr:X.A.frames=some (X.env::X.outer):=by rw[<-T.stk];exact I.ok.frames
 have efr:e ∉ frs X.stack:=λz=>by rw[I.stkFree e z] at hH;cases hH
 have hl:s.heap.FunFrames (MF s.heap (e::frs X.stack)) (X.env::X.outer):=by rw[<-T.stk];exact Co I.stack λ_ z=>.tail _ z
 have kb:∀b o,(MF s.heap (e::frs X.stack)).get? b=some o->s.heap.get? b=some o:=λb o q=>(Bw q).1
 have ne:∀b o,X.s₀.heap.get? b=some o->b≠X.env.locals:=λb o q=>aR (aV (aO q) I.ok.above)
 have nx:∀b,b ∉ X.ex:=λb z=>by rw[T.ex] at z;cases z
 have kd:Kd e (some dx) s.heap:=⟨aO he,λo q=>by rw[he] at q;cases q;rfl⟩
 refine dI (LE (E:=EE) (LF (.ref e) X.env) kd (wpAny_leaving_firstW (base:=MF s.heap (e::frs X.stack)) (a0:=.ref t) (Q:=λ_ s''=>Heap.LeftW (MF s.heap (e::frs X.stack)) (X.env::X.outer) e (.ref C) (.ref t) s.heap s''.heap/\s'' = { s with heap:=s''.heap }) hfr hl T.fr he kb (HM (.inr (.head _))) rfl rfl rfl λh2 hL=>⟨hL,rfl⟩)) (λ_ s2 z=>?_) λ_ _ z=>z.1
 obtain⟨⟨⟨k1,⟨_,_,k2⟩,k3,k4⟩,e2⟩,kd2⟩:=z
 generalize s2.heap=h2 at *
 subst e2
 have nf:∀b∈frs X.outer,∀o,X.s₀.heap.get? b=some o->∀vs,o.data≠.fields vs:=λb hb o q vs z=>by
  obtain⟨_,o',q',d⟩:=I.ok.funs.mem hb
  rw[q] at q';cases q'
  exact d vs z
 have sl:∀b∈frs X.outer,∀o,X.s₀.heap.get? b=some o->∃sl,h2.get? b=some { o with slots:=sl }:=λb hb o q=>by
  obtain⟨l1,q1⟩:=I.base.slot b o q (I.ok.frf b hb) hb (nx b)
  exact k4 b { o with slots:=l1 } q1 λvs z=>nf b hb o q vs z
 have tr:∀b u,II e H b=some u->∀o,s.heap.get? b=some o->(MF s.heap (e::frs X.stack)).get? b=some o:=λb u q o z=>MG z λhb=>by
  obtain⟨n,q⟩:=LO q
  rcases aL.mp hb with hb | hb
  ·exact n hb
  ·rw[I.stkFree b hb] at q;cases q
 have hk:=Ie I.hok hH
 refine⟨e,MF s.heap (e::frs X.stack),.ref t,II e H,dx,rfl,⟨I.os,I.bare,⟨λb o q nt=>?_,λb ps q=>?_⟩,λb o q n=>?_,λb u q o z=>?_,λb o q n hb=>?_,λb o q=>?_,sl,λb hb=>⟨I.ok.frf b hb,nf b hb⟩,?_,k1,HM (.inr (.head _)),k2,k3⟩,⟨kd2,nd⟩,hE⟩
 ·rw[sP]
  ·exact sm.get b o q nt
  ·rintro rfl;rw[n0] at q;cases q
 ·obtain⟨more,e1,e2⟩:=sm.tbls b ps q
  refine⟨more,by rw[sP (by rintro rfl;rw[n0] at q;cases q)];exact e1,λx=>⟨(e2 x).ok,λpos cv z=>?_⟩⟩
  obtain⟨c,ec,hc⟩:=(e2 x).code pos cv z
  refine⟨c,ec,?_⟩
  rw[sP]
  ·exact hc
  ·rintro rfl
   obtain⟨⟨oc,vs,tq,z1,z2,z3⟩,_⟩:=I.hok _ _ hc
   rw[he] at z1;cases z1
   cases z2
   cases z3
 ·by_cases eb:b=e
  ·rw[eb];unfold II;rw[if_pos rfl]
  ·rw[sP eb];exact I.base.free b o q n (nx b)
 ·obtain⟨o1,z1⟩:=HN (hk b u q)
  have z2:=tr b u q o1 z1
  have z3:h2.get? b=some o1:=k1 b o1 z2
  have z4:h2.get? b=some o:=z
  rw[z3] at z4;cases z4
  exact z2
 ·refine MG (I.base.keep b o q n hb (nx b)) λz=>?_
  rcases aL.mp z with z | z
  ·rw[z,n1] at q;cases q
  rcases T.sub.mp z with z | z
  ·exact ne b o q z
  ·exact hb z
 ·obtain⟨o1,q1⟩:=I.base.there b o q (nx b)
  by_cases hb:b∈e::frs X.stack
  ·rcases aL.mp hb with z | z
   ·rw[z,n1] at q;cases q
   rcases T.sub.mp z with z | z
   ·exact (ne b o q z).elim
   ·obtain⟨l,z2⟩:=sl b z o q;exact⟨_,z2⟩
  ·exact⟨o1,k1 b o1 (MG q1 hb)⟩
 ·exact Ig hk tr k1
theorem Eg (T:Top1 X) (I:Inv X pins σ H s) (sm:Same X.H₀ H) {v:aB} {s':aD} (h:CXD X.prog X.w C X.stack H s E v s') :
  wpAny (model X.prog X.w) X.A (leaving X.env v) (λ_ s''=>CXD X.prog X.w C X.outer X.H₀ X.s₀ E v s'') EE s':=by
 obtain⟨a,B,a0,H',dx,rfl,F,⟨kd,nd⟩,hE⟩:=h
 have hfr:X.A.frames=some (X.env::X.outer):=by rw[<-T.stk];exact I.ok.frames
 have nx:∀b,b ∉ X.ex:=λb z=>by rw[T.ex] at z;cases z
 have ne:∀b o,X.s₀.heap.get? b=some o->b≠X.env.locals:=λb o q=>aR (aV (aO q) I.ok.above)
 refine dI (LE (E:=EE) (LF (.ref a) X.env) kd (wpAny_leaves_onW (base:=B) (a0:=a0) (Q:=λ_ s''=>(vX B X.outer a (.ref C) a0 s''.heap/\s'.heap.UpToSlots s''.heap)/\s'' = { s' with heap:=s''.heap }) hfr T.fr (by rw[<-T.stk];exact F.fly) λh2 fl up=>⟨⟨fl,up⟩,rfl⟩)) (λ_ s2 z=>?_) λ_ _ z=>z.1
 obtain⟨⟨⟨fl,up⟩,e2⟩,kd2⟩:=z
 generalize s2.heap=h2 at *
 subst e2
 obtain⟨un,ok⟩:=F.step fl.1 up
 have nf:∀b∈frs X.outer,∀o,X.s₀.heap.get? b=some o->∀vs,o.data≠.fields vs:=λb hb o q vs z=>by
  obtain⟨_,o',q',d⟩:=I.ok.funs.mem hb
  rw[q] at q';cases q'
  exact d vs z
 refine⟨a,B,a0,H',dx,rfl,⟨F.os.trans I.os,F.bare,sm.trans F.same,λb o q n=>?_,λb u q o z=>?_,λb o q n hb=>?_,λb o q=>?_,λb hb o q=>?_,λb hb=>⟨I.ok.frf b hb,nf b hb⟩,ok,fl⟩,⟨kd2,sm.free nd⟩,hE⟩
 ·obtain⟨o1,q1⟩:=I.base.there b o q (nx b)
  exact F.free b o1 q1 (I.base.free b o q n (nx b))
 ·obtain⟨o1,z1⟩:=HN (F.hok b u q)
  have z2:=F.bT b u q o1 z1
  have z3:h2.get? b=some o1:=fl.1 b o1 z2
  have z4:h2.get? b=some o:=z
  rw[z3] at z4;cases z4
  exact z2
 ·refine F.bU b o (I.base.keep b o q n hb (nx b)) (I.base.free b o q n (nx b)) λz=>?_
  rcases T.sub.mp z with z | z
  ·exact ne b o q z
  ·exact hb z
 ·obtain⟨o1,q1⟩:=I.base.there b o q (nx b)
  exact un.there b o1 q1 (by simp)
 ·obtain⟨l1,q1⟩:=I.base.slot b o q (I.ok.frf b hb) hb (nx b)
  obtain⟨l2,q2⟩:=un.slot b _ q1 (I.base.free b o q (I.ok.frf b hb) (nx b)) (T.sub.mpr (.inr hb)) (by simp)
  exact⟨l2,q2⟩
end
section
variable {M:Model} {A:cE} {E:aB->aD->Prop} {env:Env} {nm q:Str} {C N:Addr} {bs bm:List aB} {hd:Bool} {sn:List Str} {sub:List aB} {ab:Bool} {col:Option Bool} {dd:Option Addr} {k0 k1 k2 k3 k5:Option aB} {nI:String}
theorem ZX {s:aD} {x:Sem aB} {Q:Flow->aD->Prop} (hb:bm.contains (.type "BaseException")=true) (hh:A.handled=none)
  (h:wpAny M A x (λv s1=>∃e z dx,v = .ref e/\s1.heap.get? C=some (excClassObj nm q C N bs bm hd sn sub ab col dd k0 k1 k2 k3 k5 nI)/\s1.heap.get? e=some { pB C z with dict:=some dx }/\E (.ref e) s1) E s) :
  wpAny M A (raiseStmt env (some x) none) Q E s:=by
 have isB:(cU C::bm).contains (.type "BaseException")=true:=by rw[List.contains_cons,hb,Bool.or_true]
 unfold raiseStmt
 refine aA (dI h (λv s1 h1=>?_) λ_ _ z=>z)
 obtain⟨e,z,dx,rfl,hC,he,hE⟩:=h1
 obtain⟨hp,g,d,tk,os⟩:=s1
 repeat (first | with_reducible refine kA he ?_ | with_reducible refine kA hC ?_ | (with_reducible refine AU hC ?_;rw[isB]) | wp_step)
 exact wpAny_raiseNew_none hh hE
end
structure XAcc (X:Cx) (C:Addr) (y:Str) (PP:Int->Prop):Prop where
 here:∀(pins:List (Addr × Obj)) (σ:St) (H:Hp) (s:aD) (e dx:Addr) (c:Int),Inv X pins σ H s->Same X.H₀ H->H e=some (oP C e dx)->H dx=some (.xd [(y,.int c)])->dx≠e->X.H₀ e=none->X.H₀ dx=none->X.s₀.heap.get? e=none->PP c->X.xe (.ref e) s
 on:∀(pins:List (Addr × Obj)) (σ:St) (H:Hp) (s:aD) (v:aB) (s':aD),Inv X pins σ H s->Same X.H₀ H->CXD X.prog X.w C X.stack H s (EX C y PP) v s'->X.xe v s'
theorem CXD.mono {P:bA} {w:cA} {C:Addr} {outer:List Env} {H:Hp} {s s':aD} {E E':XK} {v:aB} (h:CXD P w C outer H s E v s') (k:∀u d H',E u d H'->E' u d H'):CXD P w C outer H s E' v s':=by
 obtain⟨a,B,a0,H',dx,e1,F,kd,hE⟩:=h
 exact⟨a,B,a0,H',dx,e1,F,kd,k _ _ _ hE⟩
theorem Oj {P:bA} {w:cA} {K:aF} {mg:Str->Option aB} {base:Heap} {N:List Str} {qual:Str} {scope:Scope} {f C:Addr} {cd:aB} {A:cE} {outer:List Env} {s:aD} {H:Hp} {E:XK} {y:Str} {PP:Int->Prop}
  (k:∀c dx H',PP c->H' dx=some (.xd [(y,.int c)])->E (.ref C) (some dx) H'):XAcc (yA (CXD P w C) P w K mg base N qual scope f cd A outer s H E) C y PP:=by
 refine⟨λpins σ H1 s1 e dx c I sm h1 h2 ne n0 nd n1 hp=>?_,λpins σ H1 s1 v s' I sm h=>?_⟩
 ·exact VL ⟨rfl,rfl,rfl⟩ I sm h1 n0 nd n1 (k c dx _ hp (by rw[sP ne];exact h2))
 ·exact Eg ⟨rfl,rfl,rfl⟩ I sm (h.mono λu d H' ⟨e1,c,dx,hp,e2,h3⟩=>by subst e1 e2;exact k c dx H' hp h3)
def ZW (PP:Int->Prop) (te:RE):RS:=λ_ ρ=>te ρ λd=>match d with
 | .int c=>PP c
 | _=>False
section
variable {X:Cx} {C Cb f:Addr} {y x:Str} {k:Nat} {p np cpos pos:Pos} {a:Expr} {te:RE} {PP:Int->Prop}
theorem Hs (acc:XAcc X C y PP) (Z:ExcI X.K C Cb f y) (G:FnI X.prog X.w X.K X.mg X.base C f y k) (hr:Room (k+1) X.A) (hk:fJ X.K (.ref C)=true) (hc:X.calm=true) (hex:X.ex=[]) (hg:Gl X x) (hm:X.mg x=some (.ref C)) (ha:DE X a te)
  (hd:(x == ("__debug__":Str))=false:=by decide) (he:starEach [a] X.env=[(false,eval a X.env)]:=by rfl) (hn:starEach [] X.env=[]:=by rfl):DS X (.Raise (some (.Call (.Name x np) [a] [] cpos)) none pos) (ZW PP te):=by
 intro pins s σ H De I hh
 refine kL hh λρ E so q _ _ _ _=>?_
 obtain⟨bm,N,nm,q0,bs,hd',sn,sub,ab,col,dd,k0,k1,k2,k3,k5,mN,hC,hN,hni,T⟩:=SS I.mod.kin Z.own
 have hB:bm.contains (.type "BaseException")=true:=T.hasType (X:="BaseException") rfl
 rw[arm_exec_Raise]
 refine aA (nQ (ZX (C:=C) (nm:=nm) (q:=q0) (N:=N) (bs:=bs) (bm:=bm) (hd:=hd') (sn:=sn) (sub:=sub) (ab:=ab) (col:=col) (dd:=dd) (k0:=k0) (k1:=k1) (k2:=k2) (k3:=k3) (k5:=k5) (nI:="ValueError.__new__") hB (I.ok.hd hc) ?_))
 refine aA (dI (Q:=λv s1=>∃e z dx,v = .ref e/\s1.heap.get? C=some (excClassObj nm q0 C N bs bm hd' sn sub ab col dd k0 k1 k2 k3 k5 "ValueError.__new__")/\s1.heap.get? e=some { pB C z with dict:=some dx }/\X.xe (.ref e) s1) ?_ (λv s3 h3=>aA (nQ (aK h3))) λ_ _ z=>z)
 refine dM (tS I hg hm ?_ hd)
 refine kT (h₀:=X.base) I.ok.mod.kin hk (thn (nE ha he hn cpos pins s σ H (λvs H1=>Same H H1/\∃c,vs=[.int c]/\PP c) I ⟨ρ,_,so,q,λd v H' hd' sm rr=>?_⟩) λus s1 ⟨vs,H1,I1,r,sm,c,e1,hp⟩=>⟨I1.kIn,?_⟩) (by rw[he,hn]) (by rw[hn];rfl)
 ·cases d with
  | int c=>rw[rr.int_inv];exact⟨sm,c,rfl,hd'⟩
  | _=>exact hd'.elim
 subst e1
 obtain⟨u,rfl,ru⟩:=vals1 r
 refine thn (QT Z G hr I1 ru (Q:=λv H'=>∃e dx,v = .ref e/\(s1.heap.objs.size<=e/\H1 e=none/\H1 dx=none/\dx≠e)/\H'=upd (upd H1 dx (.xd [(y,.int c)])) e (oP C e dx)) λe dx ge n1 n2 n3=>⟨e,dx,rfl,⟨ge,n1,n2,n3⟩,rfl⟩) λv s2 ⟨w,H2,I2,rw',e,dx,e1,⟨ge,n1,n2,n3⟩,e2⟩=>?_
 subst e1 e2
 obtain rfl:v=cU e:=rw'
 have h1:upd (upd H1 dx (.xd [(y,.int c)])) e (oP C e dx) e=some (oP C e dx):=cR
 have h2:upd (upd H1 dx (.xd [(y,.int c)])) e (oP C e dx) dx=some (.xd [(y,.int c)]):=by rw[bM n3,cR]
 have sm0:Same X.H₀ H1:=so.same.trans sm
 have sm2:Same X.H₀ (upd (upd H1 dx (.xd [(y,.int c)])) e (oP C e dx)):=sm0.trans (Same.fn λb o zb=>by
  rw[bM (cB zb n1),bM (cB zb n2)]
  exact zb)
 obtain⟨⟨z,hz⟩,_⟩:=I2.hok e _ h1
 refine⟨e,z,dx,rfl,I2.bk _ _ hC,hz,acc.here pins σ _ s2 e dx c I2 sm2 h1 h2 n3 (sm0.free n1) (sm0.free n2) ?_ hp⟩
 cases q1:X.s₀.heap.get? e with
 | none=>rfl
 | some o =>
  obtain⟨o',q2⟩:=I1.base.there e o q1 (by rw[hex];simp)
  exact absurd (aO q2) (DC.mpr ge)
end
abbrev FDX:=List D->(D->Prop)->(Int->Prop)->Prop
def spX (K:aF) (C:Addr) (y:Str) (F:FDX):Sp:=λvs H Q E=>TabsIn K H/\∃ds P PP,Reps K H ds vs/\F ds P PP/\(∀d v H',P d->Same H H'->Rep K H' d v->Q v H')/\∀c dx H',PP c->H' dx=some (.xd [(y,.int c)])->E (.ref C) (some dx) H'
structure FnAtX (P:bA) (w:cA) (K:aF) (mg:Str->Option aB) (base:Heap) (C:Addr) (y:Str) (x:Str) (ps:List Str) (k:Nat) (F:FDX):Prop where
 ex:∃f fd,FnOk P w K mg base (CXD P w C) k f fd ps (spX K C y F)/\Binds K fd ps []/\fJ K (.ref f)=true/\mg x=some (.ref f)
section
variable {P:bA} {w:cA} {K:aF} {mg:Str->Option aB} {base:Heap} {C:Addr} {y x:Str} {ps:List Str} {k:Nat}
theorem DefAt.okX {st:Stmt} {N:List Str} {F:FDX} {t:(Int->Prop)->RS} (Z:DefAt K mg x st ps) (Sc:FnScope N ps (dR st))
  (hbody:∀{f:Addr} (cdv:aB) (A:cE) (outer:List Env) (s:aD) (H:Hp) (E:XK) (PP:Int->Prop),Room k (A.deeper (envOfC x (dR st) s.heap.objs.size f cdv))->XAcc (yA (CXD P w C) P w K mg base N x (dR st) f cdv A outer s H E) C y PP ->
   DSs (yA (CXD P w C) P w K mg base N x (dR st) f cdv A outer s H E) (lR st) (t PP))
  (len:∀ds Q PP,F ds Q PP->ds.length=ps.length) (pure:∀ds Q PP,F ds Q PP->t PP { nx:=λ_=>Q .non,rt:=Q } (dO N ds)):FnAtX P w K mg base C y x ps (k+1) F:=by
 obtain⟨f,fd,a,b,c⟩:=Z.ex
 obtain⟨oc,od,kV,doc,pm,an,cdv,ct,osl,rfl,lk,hcd⟩:=a.ex
 refine⟨f,_,Os lk hcd Sc (λvs H Q E ⟨_,ds,P',PP,r,h,_⟩=>by rw[<-r.length];exact len ds P' PP h) (λA outer s H vs Q E hr ⟨tb,ds,P',PP,r,h,h1,h2⟩=>?_),.all c,a.kp,b⟩
 refine⟨_,hbody cdv A outer s H E PP hr (Oj h2),?_⟩
 refine⟨dO N ds,_,XL (X:=yA (CXD P w C) P w K mg base N x (dR st) f cdv A outer s H E) tb r,pure ds P' PP h,λρ' σ' H' q kp so=>?_,λd v H' q kp sm rr=>h1 d v H' q sm rr,λ_ _ _ z=>z.elim,λ_ _ _ z=>z.elim⟩
 exact h1 .non .non H' q so.same .non
theorem FnAtX.norm {F:FDX} (G:FnAtX P w K mg base C y x ps k F):FnAt P w K mg base x ps k (λds Q=>F ds Q λ_=>False):=by
 obtain⟨f,fd,G,hb,hk,hm⟩:=G.ex
 refine⟨f,fd,⟨λvs H Q E ⟨tb,ds,P',r,h,_⟩=>G.len vs H (λ_ _=>True) (λ_ _ _=>True) ⟨tb,ds,P',_,r,h,λ_ _ _ _ _ _=>trivial,λ_ _ _ _ _=>trivial⟩,λA outer s H args us vs Q E hr e0 hb' r hs=>?_⟩,hb,hk,hm⟩
 obtain⟨tb,ds,P',r',h,h1⟩:=hs
 refine jX (G.run A outer s H args us vs Q (λ_ _ _=>False) hr e0 hb' r ⟨tb,ds,P',_,r',h,h1,λ_ _ _ z=>z.elim⟩) λres s' hq=>?_
 cases res with
 | error v=>obtain⟨_,_,_,_,_,_,_,_,z⟩:=hq;exact z.elim
 | ok fl=>cases fl <;> exact hq
end
def MX (F:FDX) (PP:Int->Prop) (t:RA):RE:=λρ Q=>t ρ λds=>F ds Q PP
section
variable {X:Cx} {C:Addr} {y x:Str} {k:Nat} {ps:List Str} {F:FDX} {PP:Int->Prop} {p pos:Pos} {e:Expr} {es:List Expr} {t:RA}
theorem UE (acc:XAcc X C y PP) (G:FnAtX X.prog X.w X.K X.mg X.base C y x ps k F) (hr:Room k X.A) (ha:DA X (e::es) t) (hg:Gl X x:=by rfl)
  (hdb:(x == ("__debug__":Str))=false:=by decide) (he:starEach (e::es) X.env=(false,eval e X.env)::starEach es X.env:=by rfl) (hpl:(backTo pos (starEach es X.env)).any (·.1)=false:=by rfl) :
  DE X (.Call (.Name x p) (e::es) [] pos) (MX F PP t):=by
 obtain⟨f,fd,G,hb,hk,hm⟩:=G.ex
 intro pins s σ H Q I hh
 obtain⟨ρ,P,so,q,kq⟩:=hh
 refine dM (tS I hg hm ?_ hdb)
 refine kT (h₀:=X.base) I.ok.mod.kin hk (thn (ha pos pins s σ H (λvs H1=>Same H H1/\∃ds,Reps X.K H1 ds vs/\F ds P PP) I ⟨ρ,_,so,q,λds vs H1 q1 s1 r=>⟨s1,ds,r,q1⟩⟩) λus s1 ⟨vs,H1,I1,r,sm,ds,rr,q1⟩=>⟨I1.kIn,?_⟩) he hpl
 have sp:spX X.K C y F vs H1 Q (EX C y PP):=⟨(so.ext sm).tabs,ds,P,PP,rr,q1,λd v H' hd s' r'=>kq d v H' hd (sm.trans s') r',λc dx H' hp h3=>⟨rfl,c,dx,hp,rfl,h3⟩⟩
 have hl:us.length=ps.length:=by rw[<-r.length];exact G.len vs H1 _ _ sp
 have bb:=hb s1 us I1.kIn (by rw[dL];exact hl)
 rw[dL] at bb
 refine qH (jX (G.run X.A X.stack s1 H1 ⟨us,[]⟩ us vs Q (EX C y PP) hr I1.env0 bb r sp) λr' s' hq=>?_)
 cases r' with
 | error v=>exact acc.on pins σ H1 s1 v s' I1 (so.same.trans sm) hq
 | ok fl =>
  cases fl with
  | ret u=>exact I1.after hq
  | next=>exact eG hq
  | brk=>exact eG hq
  | cont=>exact eG hq
end
theorem Dj {P:bA} {w:cA} {H:Hp} {h:Heap} {C e dx:Addr} {oe:Obj} {vs:Array aB} (he:h.get? e=some oe) (hc:oe.cls = .ref C) (hv:oe.data = .fields vs) (hd:oe.dict=some dx):ObjOk P w H h e (rH C e dx) :=
 ⟨⟨oe,vs,he,hc,hv,hd⟩,⟨_,he⟩,λh1 h2 ⟨oe,vs,q,z⟩ k=>⟨oe,vs,k _ q,z⟩⟩
section
variable {X:Cx} {pins:List (Addr × Obj)} {σ:St} {H:Hp} {s:aD} {a:Addr} {φ:Heap->Prop}
theorem Inv.track (I:Inv X pins σ H s) (ha:H a=none) (n0:X.s₀.heap.get? a=none) (nl:a≠X.env.locals) (nc:∀x c,X.env.cells.lookup x=some c->c≠a) (np:∀p∈X.pn++pins,p.1≠a) (ok:ObjOk X.prog X.w (upd H a (.ext φ)) s.heap a (.ext φ)):Inv X pins σ (upd H a (.ext φ)) s:=by
 have ne:∀b u,H b=some u->upd H a (.ext φ) b=some u:=λb u q=>by rw[bM (cB q ha)];exact q
 refine⟨I.ok,I.os,I.bare,⟨I.base.keep,I.base.slot,λb o q n hx=>?_,I.base.there,λb xs q=>ne _ _ (I.base.tups b xs q),λb o u q=>ne _ _ (I.base.frzs b o u q),λb ps q=>?_⟩,I.loc,I.cell,?_,λx c q=>?_,λp hp=>?_,λb u q=>?_,I.len⟩
 ·rw[bM (by rintro rfl;rw[n0] at q;cases q)];exact I.base.free b o q n hx
 ·obtain⟨m,z⟩:=I.base.tbls b ps q;exact⟨m,ne _ _ z⟩
 ·rw[bM (Ne.symm nl)];exact I.free
 ·rw[bM (nc x c q)];exact I.freeC x c q
 ·obtain⟨z1,z2,z3⟩:=I.pin p hp
  exact⟨z1,by rw[bM (np p hp)];exact z2,z3⟩
 ·by_cases eb:b=a
  ·subst eb
   rw[cR] at q;cases q;exact ok
  ·rw[bM eb] at q
   exact (I.hok b u q).stay (λ_ _ _ z=>z) (λc z=>ne _ _ z) λc xs z=>ne _ _ z
end
section
variable {X:Cx} {C:Addr} {y:Str} {k:Nat} {ps:List Str} {F:FDX} {PP:Int->Prop} {x:Str} {p pos:Pos} {e:Expr} {es:List Expr} {t:RA}
end
section
variable {X:Cx} {C:Addr} {k:Nat} {ps:List Str} {F:FDX} {g y vn:Str} {ea:Expr} {es:List Expr} {t:RA} {q1 q2 q3 q4 q5 q6 q7 q8 q9 q10 q11 q12 q13 q14:Pos} {j1:Nat}
end
abbrev FDE:=List D->(Int->Prop)->Prop
def rSetE (j:Nat) (F:FDE) (C:Addr) (y:Str) (t:RA):RS:=λE ρ=>t ρ λds=>∃PP,F ds PP/\∀c,PP c->E.nx (ρ.set j (some (.exc C y c)))
def MY (i:Nat) (C:Addr) (b:Bool):RE:=λρ Q=>match ρ[i]? with
 | some (some (.exc C' _ _))=>C'=C/\Q (.bl b)
 | _=>False
def Ci (i:Nat) (C:Addr) (y:Str):RE:=λρ Q=>match ρ[i]? with
 | some (some (.exc C' y' c))=>(C'=C/\y'=y)/\Q (.int c)
 | _=>False
def Kg (te:RE):RE:=λρ Q=>te ρ λd=>match d with
 | .int c=>Q (.int c)
 | _=>False
section
variable {X:Cx} {k j i:Nat} {ps:List Str} {F:FDE} {x y z:Str} {p p1 p2 p3 p4 pos pos' cpos:Pos} {e:Expr} {es:List Expr} {t:RA} {C:Addr} {b:Bool}
theorem Ik {c:V} {cv:aB} (Z:ExcK X.K C) (rc1:∀u,RelV c u->u=cv) (h:fK X.K (.ref C) cv=some b) :
  wX X (.builtin "isinstance") (λvs H Q=>∃e dx,vs=[.ref e,c]/\H e=some (rH C e dx)/\Q (.bl b) H):=by
 intro pins s σ H xs us Q I r ⟨e,dx,ex,he,q⟩
 subst ex
 cases r with
 | cons r1 r2 =>
  cases r2 with
  | cons r3 r4 =>
   cases r4
   rename_i u1 u2
   cases (show u1=cU e from r1)
   cases rc1 _ r3
   obtain⟨⟨oe,vs,h1,h2,_⟩,_⟩:=I.hok e _ he
   exact eY (VH Z) I.kIn ⟨oe,h1,h2⟩ h (λz=>nomatch z) λtk=>⟨.bl b,H,I.tok tk,rfl,q⟩
theorem Il {c1 c2:Addr} (Z:ExcK X.K C) (h:sJ X.K (.ref C) [.ref c1,.ref c2]=some b) :
  wX X (.builtin "isinstance") (λvs H Q=>∃e dx tp,vs=[.ref e,.ref tp]/\H e=some (rH C e dx)/\H tp=some (.tup [.ref c1,.ref c2])/\Q (.bl b) H):=by
 intro pins s σ H xs us Q I r ⟨e,dx,tp,ex,he,ht,q⟩
 subst ex
 cases r with
 | cons r1 r2 =>
  cases r2 with
  | cons r3 r4 =>
   cases r4
   rename_i u1 u2
   cases (show u1=cU e from r1)
   cases (show u2=cU tp from r3)
   obtain⟨⟨oe,vs,h1,hc,_⟩,_⟩:=I.hok e _ he
   obtain⟨_,its,rv,o,h2,h3,n,h4⟩:=(show ObjOk X.prog X.w H s.heap tp (.tup [.ref c1,.ref c2]) from I.hok tp _ ht)
   obtain⟨oc,od,oda,osl⟩:=o
   cases rv with
   | cons v1 w1 =>
    cases w1 with
    | cons v2 w2 =>
     cases w2
     rename_i i1 i2
     cases (show i1=cU c1 from v1)
     cases (show i2=cU c2 from v2)
     dsimp only at h3 h4
     subst h3 h4
     exact PySem.W.kia_tup (VH Z) I.kIn ⟨oe,h1,hc⟩ h2 h (λz=>nomatch z) λtk=>⟨.bl b,H,I.tok tk,rfl,q⟩
theorem Lp {c:V} {cv:aB} (Z:ExcK X.K C) (rc1:∀u,RelV c u->u=cv) (h:fK X.K (.ref C) cv=some b) (hm:X.mg "isinstance" = none) (hc:PE X (.Name y p2) (tC c)) (i:Nat) (hN:X.N[i]? = some x:=by rfl) (hg:Gl X "isinstance":=by rfl)
  (hv:Vis X.env.scope x:=by walk_at "vis") (hd:(x == ("__debug__":Str))=false:=by decide) (hcd:(x == ("__classdict__":Str))=false:=by decide)
  (s2:starEach [.Name x p1,.Name y p2] X.env=(false,eval (.Name x p1) X.env)::starEach [.Name y p2] X.env:=by rfl) (s1:starEach [.Name y p2] X.env=(false,eval (.Name y p2) X.env)::starEach [] X.env:=by rfl) (hpl:(backTo pos (starEach [.Name y p2] X.env)).any (·.1)=false:=by rfl) :
  DE X (.Call (.Name "isinstance" p) [.Name x p1,.Name y p2] [] pos) (MY i C b):=by
 refine PE.mono (vI (Ik Z rc1 h) hg hm lB (jN (pv i hN hv hd hcd) (jN hc qF s1) s2) (by decide) (by decide) s2 hpl) λσ H Q hh=>gW hh λρ P so q k=>?_
 unfold MY at q
 split at q
 ·rename_i C' y' c' ex
  obtain⟨rfl,q⟩:=q
  obtain⟨v,h1,e,dx,rfl,h2,h3⟩:=so.rel i _ ex
  exact⟨.ref e,h1,e,dx,rfl,h2,k _ _ H q (Same.refl H) (.bl b)⟩
 ·exact q.elim
theorem He {c1 c2:Addr} {y1 y2:Str} {jn:Nat} (Z:ExcK X.K C) (h:sJ X.K (.ref C) [.ref c1,.ref c2]=some b) (hm:X.mg "isinstance" = none) (g1:Gl X y1) (m1:X.mg y1=some (.ref c1)) (g2:Gl X y2) (m2:X.mg y2=some (.ref c2)) (i:Nat) (hN:X.N[i]? = some x:=by rfl) (hg:Gl X "isinstance":=by rfl)
  (hv:Vis X.env.scope x:=by walk_at "vis") (hd:(x == ("__debug__":Str))=false:=by decide) (hcd:(x == ("__classdict__":Str))=false:=by decide) (hd1:(y1 == ("__debug__":Str))=false:=by decide) (hd2:(y2 == ("__debug__":Str))=false:=by decide)
  (s2:starEach [.Name x p1,.Tuple [.Name y1 p2,.Name y2 p3] jn p4] X.env=(false,eval (.Name x p1) X.env)::starEach [.Tuple [.Name y1 p2,.Name y2 p3] jn p4] X.env:=by rfl) (s1:starEach [.Tuple [.Name y1 p2,.Name y2 p3] jn p4] X.env=(false,eval (.Tuple [.Name y1 p2,.Name y2 p3] jn p4) X.env)::starEach [] X.env:=by rfl) (hpl:(backTo pos (starEach [.Tuple [.Name y1 p2,.Name y2 p3] jn p4] X.env)).any (·.1)=false:=by rfl)
  (t2:starEach [.Name y1 p2,.Name y2 p3] X.env=(false,eval (.Name y1 p2) X.env)::starEach [.Name y2 p3] X.env:=by rfl) (t1:starEach [.Name y2 p3] X.env=(false,eval (.Name y2 p3) X.env)::starEach [] X.env:=by rfl) :
  DE X (.Call (.Name "isinstance" p) [.Name x p1,.Tuple [.Name y1 p2,.Name y2 p3] jn p4] [] pos) (MY i C b):=by
 refine PE.mono (vI (Il Z h) hg hm lB (jN (pv i hN hv hd hcd) (jN (Ju (jN (Bz (v:=.ref c1) g1 m1 rfl hd1) (jN (Bz (v:=.ref c2) g2 m2 rfl hd2) qF t1) t2)) qF s1) s2) (by decide) (by decide) s2 hpl) λσ H Q hh=>gW hh λρ P so q k=>?_
 unfold MY at q
 split at q
 ·rename_i C' y' c' ex
  obtain⟨rfl,q⟩:=q
  obtain⟨v,h1,e,dx,rfl,h2,h3⟩:=so.rel i _ ex
  refine⟨.ref e,h1,(by decide:2<=sizeLine),λtp hp=>?_⟩
  have sm:Same H (upd H tp (.tup [.ref c1,.ref c2])):=Same.fn λa o z=>by rw[bM (cB z hp)];exact z
  exact⟨e,dx,tp,rfl,sm.get _ _ h2 trivial,cR,k _ _ _ q sm (.bl b)⟩
 ·exact q.elim
end
section
variable {X:Cx} {k i:Nat} {x y:Str} {p p1 pos cpos:Pos} {a:Expr} {te:RE} {C Cb f:Addr}
theorem Ky {P:bA} {w:cA} {H:Hp} {h:Heap} {dx:Addr} {c:Int} (ok:ObjOk P w H h dx (.xd [(y,.int c)])):∃mA t,h.Ns1 dx mA/\mA y=some (.int c t):=by
 obtain⟨mA,hn,r⟩:=ok
 have:=r y
 simp only[yM,beq_self_eq_true] at this
 obtain⟨u,hu,ru⟩:=RelO.some_of (v:=.int c) (o:=mA y) this
 obtain⟨t,rfl⟩:=ru
 exact⟨mA,t,hn,hu⟩
theorem Lm (Y:ExcK X.K C) (Z:ExcA X.K C y) (i:Nat) (hN:X.N[i]? = some x:=by rfl) (hv:Vis X.env.scope x:=by walk_at "vis") (hd:(x == ("__debug__":Str))=false:=by decide)
  (hcd:(x == ("__classdict__":Str))=false:=by decide) (hb:attributeBase (.Name x p1) y X.env (eval (.Name x p1) X.env)=eval (.Name x p1) X.env:=by rfl):DE X (.Attribute (.Name x p1) y pos) (Ci i C y):=by
 intro pins s σ H Q I hh
 refine gW hh λρ P so q kk=>?_
 unfold Ci at q
 split at q
 ·rename_i C' y' c ex
  obtain⟨⟨rfl,rfl⟩,q⟩:=q
  obtain⟨v,h1,e,dx,rfl,h2,h3⟩:=so.rel i _ ex
  refine An hb (thn (pv i hN hv hd hcd pins s σ H (λv H1=>v = .ref e/\H1=H) I ⟨.ref e,h1,rfl,rfl⟩) λu s1 ⟨w,H1,I1,r1,e1,e2⟩=>?_)
  subst e1 e2
  obtain rfl:u=cU e:=r1
  obtain⟨⟨oe,vs,g1,g2,g3,g4⟩,_⟩:=I1.hok e _ h2
  obtain⟨mA,t,g5,g6⟩:=Ky (I1.hok dx _ h3)
  exact UT Y Z I1.kIn g1 g2 (λc z=>by rw[g3] at z;cases z) g4 g5 g6 ⟨c,t,rfl⟩ ⟨.int c,H1,I1.tok _,⟨t,rfl⟩,kk _ _ H1 q (Same.refl H1) (.int c)⟩
 ·exact q.elim
theorem Ln (Z:ExcI X.K C Cb f y) (G:FnI X.prog X.w X.K X.mg X.base C f y k) (hr:Room (k+1) X.A) (hk:fJ X.K (.ref C)=true) (hg:Gl X x) (hm:X.mg x=some (.ref C)) (ha:DE X a te)
  (hd:(x == ("__debug__":Str))=false:=by decide) (he:starEach [a] X.env=[(false,eval a X.env)]:=by rfl) (hn:starEach [] X.env=[]:=by rfl)
  (hb:attributeBase (.Call (.Name x p) [a] [] cpos) y X.env (eval (.Call (.Name x p) [a] [] cpos) X.env)=eval (.Call (.Name x p) [a] [] cpos) X.env:=by rfl):DE X (.Attribute (.Call (.Name x p) [a] [] cpos) y pos) (Kg te):=by
 intro pins s σ H Q I hh
 refine gW hh λρ P so q kk=>?_
 refine An hb (dM (tS I hg hm ?_ hd))
 refine kT (h₀:=X.base) I.ok.mod.kin hk (thn (nE ha he hn cpos pins s σ H (λvs H1=>Same H H1/\∃c,vs=[.int c]/\P (.int c)) I ⟨ρ,_,so,q,λd v H' hd' sm rr=>?_⟩) λus s1 ⟨vs,H1,I1,r,sm,c,e1,hp⟩=>⟨I1.kIn,?_⟩) (by rw[he,hn]) (by rw[hn];rfl)
 ·cases d with
  | int c=>rw[rr.int_inv];exact⟨sm,c,rfl,hd'⟩
  | _=>exact hd'.elim
 subst e1
 obtain⟨u,rfl,ru⟩:=vals1 r
 refine thn (QT Z G hr I1 ru (Q:=λv H'=>∃e dx,v = .ref e/\(H1 e=none/\H1 dx=none/\dx≠e)/\H'=upd (upd H1 dx (.xd [(y,.int c)])) e (oP C e dx)) λe dx ge n1 n2 n3=>⟨e,dx,rfl,⟨n1,n2,n3⟩,rfl⟩) λv s2 ⟨w,H2,I2,rw',e,dx,e1,⟨n1,n2,n3⟩,e2⟩=>?_
 subst e1 e2
 obtain rfl:v=cU e:=rw'
 have h1:upd (upd H1 dx (.xd [(y,.int c)])) e (oP C e dx) e=some (oP C e dx):=cR
 have h2:upd (upd H1 dx (.xd [(y,.int c)])) e (oP C e dx) dx=some (.xd [(y,.int c)]):=by rw[bM n3,cR]
 have sm2:Same H1 (upd (upd H1 dx (.xd [(y,.int c)])) e (oP C e dx)):=Same.fn λb o z=>by
  rw[bM (cB z n1),bM (cB z n2)]
  exact z
 obtain⟨⟨z,hz⟩,_⟩:=I2.hok e _ h1
 obtain⟨mA,t,g5,g6⟩:=Ky (I2.hok dx _ h2)
 exact UT Z.k Z.a I2.kIn hz rfl (λc z=>by cases z) rfl g5 g6 ⟨c,t,rfl⟩ ⟨.int c,_,I2.tok _,⟨t,rfl⟩,kk _ _ _ hp (sm.trans sm2) (.int c)⟩
end
theorem Mj {P:bA} {w:cA} {K:aF} {mg:Str->Option aB} {base:Heap} {C f:Addr} {y q:Str} {st:Stmt} {fd:iC} (Fu:Fun K "__init__" q st f fd) (Sc:FnScope ["self",y] ["self",y] (dR st))
  (hb:∀us:List aB,us.length=2->bindArgs fd ⟨us,[]⟩=pure ((["self",y]:List Str).zip us))
  (h:∀(cdv:aB) (A:cE) (outer:List Env) (s:aD) (H:Hp) (E:XK),PSs (yA CX0 P w K mg base ["self",y] q (dR st) f cdv A outer s H E).nox (lR st)
   (λD σ H=>∃e,σ[0]? = some (some (.ref e))/\H e=some (DZ C e)/\∃v,σ[1]? = some (some v)/\∀dx,H dx=none->dx≠e->D.nx σ (upd (upd H dx (.xd [(y,v)])) e (oP C e dx)))):FnI P w K mg base C f y 1:=by
 refine⟨fd,Fu.ok Sc (λvs H Q E ⟨e,v,ev,_⟩=>by rw[ev];rfl) (λcdv A outer s H vs Q E hr ⟨e,v,ev,h1,h2⟩=>⟨_,h cdv A outer s H E,?_⟩),.all hb⟩
 subst ev
 exact⟨e,rfl,h1,v,rfl,h2⟩
end
section
open PySem PySem.W PyProof.Rows
section
variable {prog:bA} {w:cA} {A:cE} {E:aB->aD->Prop} {s:aD} {κ:SortKind} {O:KeyOrd} {k:Keyed->O.α} {G:Keyed->Prop}
def at' (a:Array Keyed) (i:Nat):Keyed:=a.getD i (eM,eM)
section
variable {left:Bool} {key:Keyed} {arr:Array Keyed} {base n:Nat} {bey:Nat->Bool} {Q:Option Nat->SortSt->Prop} {st:SortSt}
end
end
section
variable {α:Type} {R:α->α->Prop} {al bl out A A1 A2 B B1 B2:List α}
end
section
variable {prog:bA} {w:cA} {A:cE} {E:aB->aD->Prop} {s:aD} {κ:SortKind} {O:KeyOrd} {k:Keyed->O.α} {G:Keyed->Prop}
section
variable {a b out:Array Keyed} {ia ib m:Nat}
end
section
variable {a b out:Array Keyed} {ia ib mg ac bc n0:Nat} {st:SortSt} {F:Option aB} {P:Array (Nat × Nat × Nat)} {X:Array Keyed}
end
end
section
variable {prog:bA} {w:cA} {A:cE} {E:aB->aD->Prop} {s:aD} {κ:SortKind} {O:KeyOrd} {k:Keyed->O.α} {G:Keyed->Prop}
section
variable {a b out:Array Keyed} {na nb q:Nat}
end
section
variable {a b out:Array Keyed} {na nb mg ac bc n0:Nat} {st:SortSt} {F:Option aB} {P:Array (Nat × Nat × Nat)} {X:Array Keyed}
end
end
section
variable {prog:bA} {w:cA} {A:cE} {E:aB->aD->Prop} {s:aD} {κ:SortKind} {O:KeyOrd} {k:Keyed->O.α} {G:Keyed->Prop}
end
section
variable {prog:bA} {w:cA} {A:cE} {E:aB->aD->Prop} {s:aD} {κ:SortKind} {O:KeyOrd} {k:Keyed->O.α} {G:Keyed->Prop}
structure SB (κ:SortKind) (P:Array (Nat × Nat × Nat)) (X:Array Keyed) (st:SortSt):Prop where
 kind:PyProof.Rows.kindOf st=κ
 failed:failedOf st=none
 pend:pendingOf st=P
 perm:(arrOf st).Perm X
section
variable {X:Array Keyed} {P:Array (Nat × Nat × Nat)} {st:SortSt}
theorem SB.size (B:SB κ P X st):(arrOf st).size=X.size:=B.perm.size_eq
end
end
section
variable {prog:bA} {w:cA} {A:cE} {E:aB->aD->Prop} {s:aD} {κ:SortKind} {O:KeyOrd} {k:Keyed->O.α} {G:Keyed->Prop} {X:Array Keyed} {st:SortSt}
end
end
section
open PySem PySem.W PySem.SetTable PyProof.Rows
section
variable {prog:bA} {w:cA} {A:cE} {E:aB->aD->Prop} {s:aD}
end
end
section
open PySem PySem.Spec PyProof.Rows L2
def Sl (te:RE):RA:=λρ Q=>te ρ λx=>∃nss:List (List Int),x = .lst (nss.map lV)/\nss.length<76/\(∀ns∈nss,ns≠[])/\∀mss:List (List Int),mss.Pairwise (λx y=>gM y x=false)->(∀ns,ns∈mss↔ns∈nss)->mss.length<=nss.length->Q (mss.map lV)
section
variable {X:Cx} {e:Expr} {te:RE} {p pz pos posz:Pos}
end
def Va (te:RE):RE:=λρ Q=>te ρ λx=>∃nss:List (List Int),x = .lst (nss.map lV)/\nss.length<=75/\∀mss:List (List Int),mss.Nodup->(∀ns,ns∈mss↔ns∈nss)->Q (.int mss.length)
section
variable {X:Cx} {e:Expr} {te:RE} {p pz pos posz:Pos}
end
def Uz:R22:=λx y Q=>match y with
 | .lst ds=>∃(ks:List Int) (nss:List (List Int)),x=lV ks/\ds=nss.map lV/\Q (.bl (!decide (ks∈nss)))
 | _=>False
section
variable {X:Cx}
end
end
section
open PySem PySem.Spec PyProof.Rows L2 PySem.W
section
variable {prog:bA} {w:cA} {A:cE} {E:aB->aD->Prop} {s:aD} {d it:Addr} {es:Array DictEntry} {ep i:Nat}
end
def So (ks:List (List Int)) (k:List Int):List (List Int):=if k∈ks then ks else ks++[k]
def Ty {α:Type} (ks:List (List Int)) (xs:List α) (k:List Int) (x:α):List α:=if k∈ks then rL (λk' y=>if k'=k then x else y) ks xs else xs++[x]
def UO:List (List Int)->List D->List Int->Option D
 | k'::ks,d::ds,k=>if k'=k then some d else UO ks ds k
 | _,_,_=>none
section
variable {X:Cx} {e k f:Expr} {pos pos' p npos apos cpos spos:Pos} {te tk tf:RE} {x:Str}
def rTNew (i:Nat):RS:=λE ρ=>E.nx (ρ.set i (some (.dt [] [])))
def rTPut (i:Nat) (tk te:RE):RS:=λE ρ=>match ρ[i]? with
 | some (some (.dt ks xs))=>te ρ λd=>tk ρ λkd=>∃kk:List Int,kd = .tup (kk.map .int)/\Sz (ks.length+1)/\E.nx (ρ.set i (some (.dt (So ks kk) (Ty ks xs kk d))))
 | _=>False
def rTGet (i:Nat) (tk tf:RE):RE:=λρ Q=>match ρ[i]? with
 | some (some (.dt ks xs))=>tk ρ λkd=>tf ρ λz=>∃kk:List Int,kd = .tup (kk.map .int)/\Q ((UO ks xs kk).getD z)
 | _=>False
def Wb (i:Nat):RA:=λρ Q=>match ρ[i]? with
 | some (some (.dt ks xs))=>Q (ks.map lV)
 | _=>False
end
section
variable {X:Cx} {e a k f:Expr} {pos p apos cpos:Pos} {te ta tk tf:RE}
def Vw (te:RE):RA:=λρ Q=>te ρ λx=>∃(ks:List (List Int)) (ds:List D),x = .dtt ks ds/\Q (ks.map lV)
def dKeyU:R22:=λx y Q=>match x with
 | .dtt ks ds=>∃(kk:List Int) (d:D),y = .tup (kk.map .int)/\UO ks ds kk=some d/\Q d
 | _=>False
def rGetU (ta tk tf:RE):RE:=λρ Q=>ta ρ λx=>match x with
 | .dtt ks ds=>tk ρ λy=>tf ρ λz=>∃kk:List Int,y = .tup (kk.map .int)/\Q ((UO ks ds kk).getD z)
 | _=>False
end
section
variable {prog:bA} {w:cA} {A:cE} {E:aB->aD->Prop} {s:aD} {d it v:Addr} {es:Array DictEntry} {ep i:Nat}
end
def Wg (te:RE):RA:=λρ Q=>te ρ λd=>match d with
 | .dtt ks _=>Q (ks.map lV)
 | _=>False
section
variable {X:Cx} {e tg:Expr} {te:RE} {apos cpos:Pos}
end
section
variable {prog:bA} {w:cA} {A:cE} {E:aB->aD->Prop} {s:aD} {d it v:Addr} {es:Array DictEntry} {ep i:Nat} {ok ov:aB}
end
def Vc (te:RE):RA:=λρ Q=>te ρ λd=>match d with
 | .dtt ks ds=>Q (rL (λk x=>D.tup [lV k,x]) ks ds)
 | _=>False
section
variable {X:Cx} {e:Expr} {te:RE} {apos cpos:Pos} {elts:List Expr} {k:Nat} {tp:Pos}
end
end
section
open PySem PySem.Spec PyProof.Rows L2
section
variable {X:Cx} {e a:Expr} {pos apos cpos npos:Pos} {te ta:RE} {x:Str}
def rInsD (i:Nat) (ta te:RE):RS:=λE ρ=>match ρ[i]? with
 | some (some (.own xs))=>ta ρ λk=>te ρ λd=>∃j:Nat,k = .int (j:Int)/\j<=xs.length/\Sz (xs.length+1)/\E.nx (ρ.set i (some (.own (xs.take j++d::xs.drop j))))
 | _=>False
def Vv (i:Nat) (te:RE):RE:=λρ Q=>te (Vr i ρ) λd=>∃n:Int,d = .int n/\Q d
end
end
section
open PySem PySem.W PySem.Spec PySem.SetTable PyProof.Rows L2
section
variable {prog:bA} {w:cA} {A:cE} {E:aB->aD->Prop} {s:aD}
theorem Ku {a:Addr} {vs:List aB} {nss:List (List Int)} {n:Nat} {P:PySem.Fin->aD->Prop} (ho:s.heap.get? a=some (seqObj "list" vs.toArray n)) (ln:vs.length=nss.length) (h64:vs.length<64)
  (tups:∀h',(∀b o,b≠a->s.heap.get? b=some o->h'.get? b=some o)->∃fs:List aB,KatTups h' vs fs/\fs.length=vs.length/\∀f∈fs,∃k t,f = .int k t)
  (ask:∀h',(∀b o,b≠a->s.heap.get? b=some o->h'.get? b=some o)->∀(i j:Nat) (C:Bool->aD->Prop),i<vs.length->j<vs.length->C (gM (nss.getD i []) (nss.getD j [])) { s with heap:=h' } ->
   ∃x ox xs nx y oy ys ny,(vs.getD i eM = .ref x/\h'.get? x=some ox/\ox.data = .seq xs nx)/\(vs.getD j eM = .ref y/\h'.get? y=some oy/\oy.data = .seq ys ny)/\KatLex prog w A true (decide (xs.size<ys.size)) C (xs.toList.zip ys.toList) 0 { s with heap:=h' })
  (q:∀h' (p:List Nat) c,p.Perm (cV vs.length)->h'.get? a=some (seqObj "list" (gQ (p.map λi=>vs.getD i eM)) c)->(p.map λi=>nss.getD i []).Pairwise (λx y=>gM y x=false)->(∀b o,b≠a->s.heap.get? b=some o->h'.get? b=some o)->P (.done (.ret .none)) { s with heap:=h' }) :
  wpAny (model prog w) A (Builtin.«list.sort» ⟨[.ref a],[]⟩) P E s:=by
 have lt:a<s.heap.objs.size:=aO ho
 rw[JD]
 apply aA;refine listItems_at ho rfl ?_
 apply aA;refine uI ho rfl ?_ (by rw[aN,eX];omega) (dY _)
 obtain⟨e1,ho1⟩:∃e1,(s.heap.update a (cW λ_=>(#[]:Array aB))).get? a=some (seqObj "list" #[] e1):=⟨_,qU ho λ_=>#[]⟩
 have up1:∀b o,b≠a->s.heap.get? b=some o->(s.heap.update a (cW λ_=>(#[]:Array aB))).get? b=some o:=λb o hb e=>(bO _ _ (Ne.symm hb)).trans e
 generalize s.heap.update a (cW λ_=>(#[]:Array aB))=h1 at ho1 up1
 apply aA;refine zU ho1 rfl ?_
 apply aA;refine NX ?_ (by show vs.length<=_;rw[eX];omega)
 apply aA;refine uO ?_ (dY _)
 apply dC
 show wpAny (model prog w) A _ P E { s with heap:=(h1.push (seqObj "tuple" vs.toArray 0)).push (seqObj "list" #[] 0) }
 have up2:∀b o,b≠a->s.heap.get? b=some o->((h1.push (seqObj "tuple" vs.toArray 0)).push (seqObj "list" #[] 0)).get? b=some o:=λb o hb e=>aJ _ (aJ _ (up1 b o hb e))
 have ho2:((h1.push (seqObj "tuple" vs.toArray 0)).push (seqObj "list" #[] 0)).get? a=some (seqObj "list" #[] e1):=aJ _ (aJ _ ho1)
 generalize (h1.push (seqObj "tuple" vs.toArray 0)).push (seqObj "list" #[] 0)=h2 at up2 ho2
 have fin:∀(p:List Nat) (st':SortSt),(arrOf st').map (·.2)=gQ (p.map λi=>vs.getD i eM)->failedOf st'=none->p.Perm (cV vs.length)->(p.map λi=>nss.getD i []).Pairwise (λx y=>gM y x=false) ->
   wpAny (model prog w) A (do
    let sorted:=(arrOf st').map (·.2)
    let touched:=(<-seqEpoch a) != e1
    oE (.ref a) λ_=>sorted
    if let some e:=failedOf st' then rule "list.sort.comparison-raised";throw e
    if touched then rule "list.sort.modified";raiseError "ValueError" "list modified during sort"
    ret .none) P E { s with heap:=h2 }:=by
  intro p st' h1 hf hp hs
  have hlen:(p.map λi=>vs.getD i eM).length<=64:=by rw[aS,hp.length_eq,oT];omega
  generalize ho3:(p.map λi=>vs.getD i eM)=out at h1 hlen
  dsimp only
  apply aA;refine zU (s:={ s with heap:=h2 }) ho2 rfl ?_
  rw[h1]
  apply aA;refine uI (s:={ s with heap:=h2 }) ho2 rfl ?_ (dY _) (by show out.toArray.size<=_;rw[aN,eX];omega)
  obtain⟨c,hc⟩:∃c,(h2.update a (cW λ_=>out.toArray)).get? a=some (seqObj "list" out.toArray c):=⟨_,qU ho2 λ_=>out.toArray⟩
  have up3:∀b o,b≠a->h2.get? b=some o->(h2.update a (cW λ_=>out.toArray)).get? b=some o:=λb o hb e=>(bO _ _ (Ne.symm hb)).trans e
  generalize h2.update a (cW λ_=>out.toArray)=h3 at hc up3
  rw[hf]
  simp only[bne_self_eq_false,aP,if_false]
  exact aK (q h3 p c hp (by rw[ho3];exact hc) hs λb o hb e=>up3 b o hb (up2 b o hb e))
 dsimp only
 by_cases h2':vs.length<2
 ·have c2:vs.toArray.size<2:=by rw[aN];exact h2'
  rw[if_pos c2,if_pos c2]
  apply aA;apply aK
  apply aA
  show wpAny _ _ (pure ((),SortSt.mk' general' (vs.toArray.zip vs.toArray) #[] 7 none)) _ _ _
  apply aK
  refine fin (cV vs.length) _ ?_ rfl (sE _) ?_
  ·show (vs.toArray.zip vs.toArray).map (·.2)=_
   rw[range_getD]
   apply GE.mp
   simp[GN]
  ·rw[ln,range_getD]
   match nss,ln with
   | [],_=>exact jU
   | [x],_=>exact kH _ _
   | _::_::_,ln=>simp at ln;omega
 ·have c2:¬vs.toArray.size<2:=by rw[aN];exact h2'
  rw[if_neg c2,if_neg c2]
  obtain⟨fs,f1,f2,f3⟩:=tups h2 up2
  apply aA
  refine kat_kind (s:={ s with heap:=h2 }) (T:=.type "int") f1 (by omega) (λv hv=>?_) (by decide) ?_
  ·obtain⟨k,t,rfl⟩:=f3 v hv
   exact Looks.now
  have hT:(gE "int" != gE "tuple")=true:=by decide
  rw[hT]
  obtain⟨i1,i2,i3⟩:=Cq (O:=VW) (key:=λi=>nss.getD i []) (n:=vs.length) (by omega)
  have psz:(gA (ltK VW λi=>nss.getD i []) (sQ vs.length)).size=vs.length:=by rw[i2.size_eq];simp
  generalize hp:gA (ltK VW λi=>nss.getD i []) (sQ vs.length)=p at i2 i3 psz
  apply aA
  refine dI (kat_run (ks:=vs) (vs:=vs) (Q:=λst' s'=>s' = { s with heap:=h2 }/\arrOf st'=p.map (kas_item (vs.toArray.zip vs.toArray))/\failedOf st'=none) (G:=λp' s'=>p'=p/\s' = { s with heap:=h2 }) rfl (by omega) h64 (λp' st' s' a1 a2 a3 a4=>⟨a4.2,by rw[a2,a4.1],a3⟩) ?_) ?_ λ_ _ e=>e
  ·refine DN (lt:=ltK VW λi=>nss.getD i []) (n:=vs.length) (s:={ s with heap:=h2 }) (λi j C hi hj c=>?_) _ i1 ⟨hp,rfl⟩
   unfold kas_ask
   obtain⟨x,ox,xs,nx,y,oy,ys,ny,⟨ex,hx1,hx3⟩,⟨ey,hy1,hy3⟩,kx⟩:=ask h2 up2 i j _ hi hj c
   rw[ex,ey]
   exact kat_lt (s:={ s with heap:=h2 }) hx1 hx3 hy1 hy3 kx
  ·rintro⟨⟨⟩,st'⟩ s' ⟨rfl,har,hf⟩
   have hout:=kat_snds (ks:=vs) (vs:=vs) rfl har
   have pl:p.toList.Perm (cV vs.length):=by simpa using i2.toList
   refine fin p.toList st' hout hf pl ?_
   refine jV.mpr (fR.mpr λi j hi hj hij=>?_)
   have:=i3 i j (by omega) (by simp at hj;omega)
   unfold kk at this
   simp only[bQ] at hi hj
   have e1:p.getD i 0=p[i]:=by simp[hU,hi]
   have e2:p.getD j 0=p[j]:=by simp[hU,hj]
   rw[e1,e2] at this
   exact this
end
def Sn (A:cE) (s:aD) (y x:aB) (b:Bool):Prop:=∀(prog:bA) (w:cA) (E:aB->aD->Prop) (Q:aB->aD->Prop),Q (.bool b) s->wpAny (model prog w) A (richCompare .Lt y x) Q E s
inductive CmpP (A:cE) (s:aD):List aB->List aB->List (List Int)->List (List Int)->Prop
 | left {ws:List aB} {ms:List (List Int)} (e:ws.length=ms.length):CmpP A s [] ws [] ms
 | right {vs:List aB} {ks:List (List Int)} (e:vs.length=ks.length):CmpP A s vs [] ks []
 | cons {y x:aB} {vs ws:List aB} {k m:List Int} {ks ms:List (List Int)} (h1:wI A s y x (decide (k=m))) (h2:Sn A s y x (gM k m)) (t:CmpP A s vs ws ks ms):CmpP A s (y::vs) (x::ws) (k::ks) (m::ms)
def vG:List (List Int)->List (List Int)->Bool
 | [],[]=>false
 | [],_::_=>true
 | _::_,[]=>false
 | a::as,b::bs=>if a=b then vG as bs else gM a b
section
open PySem.SeqAt
open PySem.AutoSeq1 (wpAny_loadPart')
open PySem.MeetsSeq PySem.MeetsSeq2 PySem.MeetsSeq3
theorem NO (l b:Addr) (items items2:Array aB) (n n2:Nat) (dd dd2:Option Addr) (sl sl2:Array (Option aB)) (ks ms:List (List Int)) (z1:items.size=ks.length) (z2:items2.size=ms.length) :
  Meets (Builtin.«tuple.__lt__» ⟨[.ref l,.ref b],[]⟩)
   (λA R s=>s.heap.get? l=some { cls:=.type "tuple",dict:=dd,data:=.seq items n,slots:=sl }/\s.heap.get? b=some { cls:=.type "tuple",dict:=dd2,data:=.seq items2 n2,slots:=sl2 } /\
    CmpP A.in1 s items.toList items2.toList ks ms/\R (.ok (.ret (.bool (vG ks ms)))) s) :=
 .of_wp λprog w A R s h=>by
  obtain⟨hp,g,d,tk,os⟩:=s;obtain⟨hl,hb,hC,h⟩:=h
  have f2:=tZ
  wp_walk using qY hl,qY hb,mY _ (λrest b s'=>b.1=none/\s'=⟨hp,g,d,tk,os⟩/\∃(vs ws:List aB) (ks' ms':List (List Int)),rest=vs.zip ws /\
   CmpP A.in1 ⟨hp,g,d,tk,os⟩ vs ws ks' ms'/\ks'.length+items2.size=ms'.length+items.size/\R (.ok (.ret (.bool (vG ks' ms')))) ⟨hp,g,d,tk,os⟩) _
  case turn =>
   rintro⟨y,x⟩ rest b s' ⟨hb',rfl,vs,ws,ks',ms',hz,hc,hlen,hR⟩
   cases hc with
   | left e=>rw[ES] at hz;cases hz
   | right e=>rw[CV] at hz;cases hz
   | @cons y' x' vs ws k m ks' ms' h1 h2 t =>
    rw[hX] at hz
    injection hz with hyx hrest
    injection hyx with hy hx
    subst hy hx
    simp only[bJ] at hlen
    refine aA (h1 prog w _ _ ?_)
    by_cases e:k=m
    ·subst e
     rw[decide_eq_true rfl]
     have hR:R (.ok (.ret (.bool (vG ks' ms')))) ⟨hp,g,d,tk,os⟩:=by simpa [vG] using hR
     wp_walk
     exact⟨rfl,rfl,_,_,_,_,hrest,t,by omega,hR⟩
    ·rw[decide_eq_false e]
     have hR:R (.ok (.ret (.bool (gM k m)))) ⟨hp,g,d,tk,os⟩:=by simpa [vG,e] using hR
     have hri:=λE Q h=>h2 prog w E Q h
     wp_walk using hri
     exact⟨_,rfl,by simpa using hR⟩
  case fin =>
   rintro⟨b1,b2⟩ s' ⟨hb',rfl,vs,ws,ks',ms',hz,hc,hlen,hR⟩
   simp only at hb'
   subst hb'
   have hv:vG ks' ms'=decide (items.size<items2.size):=by
    cases hc with
    | left e =>
     cases ms' with
     | nil=>simp only[dU] at hlen;exact (decide_eq_false (by omega)).symm
     | cons m ms'=>simp only[dU,bJ] at hlen;exact (decide_eq_true (by omega)).symm
    | right e =>
     cases ks' with
     | nil=>simp only[dU] at hlen;exact (decide_eq_false (by omega)).symm
     | cons k ks'=>simp only[dU,bJ] at hlen;exact (decide_eq_false (by omega)).symm
    | cons h1 h2 t=>rw[hX] at hz;cases hz
   rw[hv] at hR
   wp_walk
   exact⟨_,rfl,by simpa [pN] using hR⟩
  case h=>exact⟨rfl,rfl,items.toList,items2.toList,ks,ms,rfl,hC,by omega,h⟩
end
section
variable {prog:bA} {w:cA} {A:cE} {E:aB->aD->Prop} {s:aD}
theorem VZ {l b:Addr} {items items2:Array aB} {ks ms:List (List Int)} {Q:aB->aD->Prop} (hl:IsTup s.heap l items) (hb:IsTup s.heap b items2) (z1:items.size=ks.length) (z2:items2.size=ms.length) (hC:CmpP A.in1 s items.toList items2.toList ks ms)
  (hu:A.units<cLine) (h:Q (.bool (vG ks ms)) s):wpAny (model prog w) A (compareOp .Lt (.ref l) (.ref b)) Q E s:=by
 obtain⟨⟨cls,dd,data,sl⟩,ho,hc,n,hd⟩:=id hl
 obtain⟨⟨cls2,dd2,data2,sl2⟩,ho2,hc2,n2,hd2⟩:=id hb
 simp only at hc hd hc2 hd2
 subst hc hd hc2 hd2
 exact wT (op:=.Lt) ⟨_,ho,rfl⟩ ⟨_,ho2,rfl⟩ xY wF (vA _ _) (NO l b items items2 n n2 dd dd2 sl sl2 ks ms z1 z2)
  ⟨ho,ho2,hC,show wK (vG ks ms)≠yX/\Q (.bool (vG ks ms)) s from ⟨(λx=>nomatch x),h⟩⟩ hu
end
def tX (r:List (Int × Int)):List (List Int):=r.map λz=>[z.1,z.2]
def zE:List (Int × Int)->List Int
 | []=>[]
 | z::r=>z.1::z.2::zE r
def nO (p:Int × List (Int × Int)):List Int:=p.1::zE p.2
abbrev pnt (z:Int × Int):D:=.tup [.int z.1,.int z.2]
abbrev pcD (p:Int × List (Int × Int)):D:=.tup [.int p.1,.tup (p.2.map pnt)]
theorem Bs:∀a b,HT.lexLt a b=gM a b
 | [],[]=>rfl
 | [],_::_=>rfl
 | _::_,[]=>rfl
 | a::as,b::bs=>by rw[HT.lexLt_cons,Bs as bs];rfl
theorem LY:∀r r':List (Int × Int),vG (tX r) (tX r')=gM (zE r) (zE r')
 | [],[]=>rfl
 | [],_::_=>rfl
 | _::_,[]=>rfl
 | (a,b)::r,(c,d)::r'=>by
  have ih:=LY r r'
  show (if [a,b]=[c,d] then vG (tX r) (tX r') else gM [a,b] [c,d])=gM (a::b::zE r) (c::d::zE r')
  rw[ih]
  by_cases h1:a=c
  ·subst h1
   by_cases h2:b=d
   ·subst h2;simp[gM]
   ·simp[gM,h2]
  ·simp[gM,h1]
theorem PU:∀{r r':List (Int × Int)},zE r=zE r'->r=r'
 | [],[],_=>rfl
 | [],_::_,h=>by cases h
 | _::_,[],h=>by cases h
 | (a,b)::r,(c,d)::r',h=>by
  simp only[zE,qP] at h
  rw[PU h.2.2,h.1,h.2.1]
theorem Ir {p q:Int × List (Int × Int)} (h:nO p=nO q):p=q:=by
 simp only[nO,qP] at h
 exact fY h.1 (PU h.2)
theorem Bj (n:Nat) (a b:Int × Int):eqF (n+2) (pnt a) (pnt b)=some (decide ([a.1,a.2]=[b.1,b.2])):=by
 show some (decide (a.1=b.1) && (decide (a.2=b.2) && true))=_
 rw[lD]
 congr 1
 simp
theorem US (n:Nat):∀r r':List (Int × Int),eqL (eqF (n+2)) (r.map pnt) (r'.map pnt)=some (decide (r=r'))
 | [],[]=>rfl
 | [],_::_=>rfl
 | _::_,[]=>rfl
 | a::r,b::r'=>by
  show (match eqF (n+2) (pnt a) (pnt b),eqL (eqF (n+2)) (r.map pnt) (r'.map pnt) with | some x,some y=>some (x && y) | _,_=>none)=_
  rw[Bj,US n r r']
  obtain⟨a1,a2⟩:=a
  obtain⟨b1,b2⟩:=b
  show some (decide ([a1,a2]=[b1,b2]) && decide (r=r'))=_
  congr 1
  simp[JZ]
section
variable {X:Cx} {pins:List (Addr × Obj)} {σ:St} {H:Hp} {s:aD} {A:cE}
theorem Qn (I:Inv X pins σ H s) (hu:A.units+4<cLine) {a b:Int × Int} {v u:V} {x y:aB} (r1:Rep X.K H (pnt a) v) (r2:Rep X.K H (pnt b) u) (rx:RelV v x) (ry:RelV u y):Sn A s x y (gM [a.1,a.2] [b.1,b.2]):=by
 intro prog w E Q h
 obtain⟨c,rfl,hc⟩:=Reps.tupI_inv (ns:=[a.1,a.2]) r1
 obtain⟨d,rfl,hd⟩:=Reps.tupI_inv (ns:=[b.1,b.2]) r2
 cases rx;cases ry
 obtain⟨its,rv,ht,_⟩:=I.tuple (SqT.of (K:=X.K) hc)
 obtain⟨its2,rv2,ht2,_⟩:=I.tuple (SqT.of (K:=X.K) hd)
 refine HT.lt_tupInts (A:=A) ht ht2 (intsAre_of rv) (intsAre_of rv2) (by omega) ?_
 rw[Bs];exact h
theorem TU (I:Inv X pins σ H s) (hu:A.units+4<cLine):∀(r r':List (Int × Int)) {vs us:List V} {its its2:List aB},Reps X.K H (r.map pnt) vs->Vals vs its->Reps X.K H (r'.map pnt) us->Vals us its2->CmpP A s its its2 (tX r) (tX r')
 | [],r',vs,us,its,its2,h1,v1,h2,v2=>by
  cases h1;cases v1
  exact .left (by rw[<-v2.length,<-h2.length];simp[tX])
 | a::r,[],vs,us,its,its2,h1,v1,h2,v2=>by
  cases h2;cases v2
  exact .right (by rw[<-v1.length,<-h1.length];simp[tX])
 | a::r,b::r',_,_,_,_,.cons h1 t1,.cons v1 w1,.cons h2 t2,.cons v2 w2 =>
  .cons (sO I 2 (Bj 0 a b) h1 h2 v1 v2 (by omega)).2 (Qn I hu h1 h2 v1 v2) (TU I hu r r' t1 w1 t2 w2)
theorem Pj (I:Inv X pins σ H s) (hu:A.units+9<cLine) {prog:bA} {w:cA} {C:Bool->aD->Prop} {p q:Int × List (Int × Int)} {v u:V} {x y:aB} (r1:Rep X.K H (pcD p) v) (r2:Rep X.K H (pcD q) u) (rx:RelV v x) (ry:RelV u y)
  (c:C (gM (nO p) (nO q)) s):∃a oa xs na b ob ys nb,(x = .ref a/\s.heap.get? a=some oa/\oa.data = .seq xs na)/\(y = .ref b/\s.heap.get? b=some ob/\ob.data = .seq ys nb)/\KatLex prog w A true (decide (xs.size<ys.size)) C (xs.toList.zip ys.toList) 0 s:=by
 cases r1 with
 | @tup a vs _ h1 q1 =>
 cases r2 with
 | @tup b us _ h2 q2 =>
 cases rx;cases ry
 obtain⟨its,rv,⟨oa,g1,g2,na,g3⟩,_⟩:=I.tuple (SqT.of (K:=X.K) h1)
 obtain⟨its2,rv2,⟨ob,g4,g5,nb,g6⟩,_⟩:=I.tuple (SqT.of (K:=X.K) h2)
 refine⟨a,oa,its.toArray,na,b,ob,its2.toArray,nb,⟨rfl,g1,g3⟩,⟨rfl,g4,g6⟩,?_⟩
 cases q1 with
 | cons i1 q1 =>
 cases q1 with
 | cons j1 q1 =>
 cases q1
 cases q2 with
 | cons i2 q2 =>
 cases q2 with
 | cons j2 q2 =>
 cases q2
 cases rv with
 | cons x1 rv =>
 cases rv with
 | cons x2 rv =>
 cases rv
 cases rv2 with
 | cons y1 rv2 =>
 cases rv2 with
 | cons y2 rv2 =>
 cases rv2
 have ee:=(sO I 1 (show eqF 1 (.int p.1) (.int q.1)=some (decide (p.1=q.1)) from rfl) i1 i2 x1 y1 (A:=A) (by omega)).2
 rw[i1.int_inv] at x1;rw[i2.int_inv] at y1
 obtain⟨t,rfl⟩:=x1
 obtain⟨t',rfl⟩:=y1
 show KatLex prog w A true (decide (2<2)) C [(_,_),(_,_)] 0 s
 refine VG (ee _ _ _ _ ?_)
 by_cases e:p.1=q.1
 ·rw[decide_eq_true e]
  refine kat_yes (VG ((sO I 3 (show eqF 3 (.tup (p.2.map pnt)) (.tup (q.2.map pnt))=some (decide (p.2=q.2)) from US 0 _ _) j1 j2 x2 y2 (A:=A) (by omega)).2 _ _ _ _ ?_))
  by_cases e2:p.2=q.2
  ·rw[decide_eq_true e2]
   refine kat_yes (SI ?_)
   have:p=q:=fY e e2
   subst this
   rw[LX] at c
   exact c
  ·rw[decide_eq_false e2]
   refine kat_no (kat_one _ _ ?_)
   cases j1 with
   | @tup a1 ws1 _ k1 m1 =>
   cases j2 with
   | @tup a2 ws2 _ k2 m2 =>
   cases x2;cases y2
   obtain⟨jts,rw1,ht1,_⟩:=I.tuple (SqT.of (K:=X.K) k1)
   obtain⟨jts2,rw2,ht2,_⟩:=I.tuple (SqT.of (K:=X.K) k2)
   refine VZ (A:=A) ht1 ht2 (ks:=tX p.2) (ms:=tX q.2) (by rw[aN,<-rw1.length,<-m1.length];simp[tX]) (by rw[aN,<-rw2.length,<-m2.length];simp[tX]) ?_ (by omega) ?_
   ·exact TU I (by show A.units+1+4<cLine;omega) _ _ m1 rw1 m2 rw2
   ·show C (vG (tX p.2) (tX q.2)) s
    rw[LY]
    have:gM (nO p) (nO q)=gM (zE p.2) (zE q.2):=by simp[nO,gM,e]
    rw[<-this];exact c
 ·rw[decide_eq_false e]
  have:gM (nO p) (nO q)=decide (p.1<q.1):=by simp[nO,gM,e]
  rw[this] at c
  exact kat_no (oneLt_int c)
theorem Cu (I:Inv X pins σ H s):∀(ps:List (Int × List (Int × Int))) {vs:List V} {its:List aB},Reps X.K H (ps.map pcD) vs->Vals vs its->∃fs:List aB,KatTups s.heap its fs/\fs.length=its.length/\∀f∈fs,∃k t,f = .int k t
 | [],_,_,.nil,.nil=>⟨[],trivial,rfl,λf hf=>by cases hf⟩
 | p::ps,_,_,.cons h1 t1,.cons v1 w1=>by
  obtain⟨fs,f1,f2,f3⟩:=Cu I ps t1 w1
  cases h1 with
  | @tup a vs _ h1 q1 =>
  cases v1
  obtain⟨its,rv,⟨oa,g1,g2,na,g3⟩,_⟩:=I.tuple (SqT.of (K:=X.K) h1)
  cases q1 with
  | cons i1 q1 =>
  cases rv with
  | cons x1 rv =>
  rw[i1.int_inv] at x1
  obtain⟨t,rfl⟩:=x1
  exact⟨_,KatTups.cons g1 g2 g3 rfl f1,by simp[f2],λf hf=>by
   rcases aL.mp hf with rfl | hf
   ·exact⟨_,_,rfl⟩
   ·exact f3 f hf⟩
end
def HW (te:RE):RA:=λρ Q=>te ρ λx=>∃ps:List (Int × List (Int × Int)),x = .lst (ps.map pcD)/\ps.length<64/\∀qs:List (Int × List (Int × Int)),qs.Perm ps->qs.Pairwise (λx y=>gM (nO y) (nO x)=false)->Q (qs.map pcD)
section
variable {X:Cx} {e:Expr} {te:RE} {p pos:Pos}
theorem LH {k:Nat} (hr:Room k X.A) (hms:X.mg "sorted" = none) (h:DB X e te) (hgs:Gl X "sorted":=by rfl) (hs:starEach [e] X.env=[(false,eval e X.env)]:=by rfl) (hn:starEach [] X.env=[]:=by rfl) :
  DO X (.Call (.Name "sorted" p) [e] [] pos) (HW te):=by
 intro pins s σ H Q I hh_0
 obtain⟨ρ,P,st,q,kq⟩:=hh_0
 have hu:=hr.units
 refine dM (qC I hgs hms boot_sorted ?_)
 refine hZ (thn (nE h hs hn pos pins s σ H (λvs H1=>∃(ps:List (Int × List (Int × Int))) (v:V),vs=[v]/\Same H H1/\RepB X.K H1 (.lst (ps.map pcD)) v/\ps.length<64/\∀qs:List (Int × List (Int × Int)),qs.Perm ps->qs.Pairwise (λx y=>gM (nO y) (nO x)=false)->P (qs.map pcD)) I
  ⟨ρ,_,st,q,λx v H1 hx s1 r1=>?_⟩) λus s1 ⟨vs,H1,I1,r1,q1⟩=>?_) (by rw[hs,hn]) (by rw[hn];rfl)
 ·obtain⟨ps,rfl,a1,a2⟩:=hx
  exact⟨ps,v,rfl,s1,r1,a1,a2⟩
 obtain⟨ps,v,rfl,s01,rb,h64,hP⟩:=q1
 obtain⟨l,vs,rfl,hq,rr⟩:=rb.lst
 obtain⟨u,rfl,rx⟩:=vals1 r1
 cases rx
 obtain⟨its,rv,pl,hz⟩:=I1.list hq
 have l1:=rr.length
 have l2:=rv.length
 rw[aS] at l1
 refine sW kind_sorted plain_sorted entry_sorted (args_sorted1 _) ?_
 unfold Builtin.«sorted»
 refine aA (m:=checkCount "sorted" 1 1 _) (aK ?_)
 apply aA;refine collect_list pl.isList ?_ (by rw[eX];omega)
 apply aA;refine uO ?_ (by rw[eX];omega)
 generalize hh1:(s1.heap.push (seqObj "list" #[] 0)).update s1.heap.objs.size (cW (· ++ its.toArray))=h1
 have k1:∀b o,s1.heap.get? b=some o->h1.get? b=some o:=λb o e=>by rw[<-hh1,rA _ _ _ _ (aR (aO e))];exact aJ _ e
 have big:s1.heap.objs.size<=h1.objs.size:=by rw[<-hh1,GH,size_push'];exact mF _
 show wpAny _ _ _ _ _ { s1 with heap:=h1.push (seqObj "list" its.toArray 0) }
 have hL:(h1.push (seqObj "list" its.toArray 0)).get? h1.objs.size=some (seqObj "list" its.toArray 0):=bX _ rfl
 have k2:∀b o,s1.heap.get? b=some o->(h1.push (seqObj "list" its.toArray 0)).get? b=some o:=λb o e=>aJ _ (k1 b o e)
 generalize h1.push (seqObj "list" its.toArray 0)=h2 at hL k2
 have kk:∀h':Heap,(∀b o,b≠h1.objs.size->h2.get? b=some o->h'.get? b=some o)->∀b o,s1.heap.get? b=some o->h'.get? b=some o:=λh' hh b o e=>hh b o (aR (aV (aO e) big)) (k2 b o e)
 have at_:∀(i:Nat),i<its.length->∃(p:Int × List (Int × Int)) (v:V),ps[i]? = some p/\vs[i]? = some v/\Rep X.K H1 (pcD p) v/\RelV v (its.getD i eM)/\(ps.map nO).getD i []=nO p:=λi hi=>by
  have hi':i<ps.length:=by omega
  obtain⟨v,e1,e2⟩:=rr.get (i:=i) (d:=pcD ps[i]) (by rw[aT,aC hi'];rfl)
  obtain⟨u,f1,f2⟩:=rv.get e1
  exact⟨ps[i],v,aC hi',e1,e2,by rw[bR,f1];exact f2,by rw[bR,aT,aC hi'];rfl⟩
 refine aA (dC (kN slot_list_sort ⟨_,hL,rfl⟩ entry_list_sort ?body (KP _)))
 case body =>
  refine Ku (s:={ s1 with heap:=h2 }) (nss:=ps.map nO) hL (by rw[aS];omega) (by omega) (λh' hh=>?_) (λh' hh i j C hi hj c=>?_) λh3 pm c g1 g2 g3 g4=>?_
  ·exact Cu (I1.kept (t':=s1.toks) (kk h' hh)) ps rr rv
  ·obtain⟨p1,v1,_,_,a3,a4,a5⟩:=at_ i hi
   obtain⟨p2,v2,_,_,b3,b4,b5⟩:=at_ j hj
   rw[a5,b5] at c
   exact Pj (I1.kept (t':=s1.toks) (kk h' hh)) (by first | omega | (show X.A.units+1+9<cLine;omega) | (show X.A.units+1+1+9<cLine;omega)) a3 b3 a4 b4 c
  have kp:=kk h3 g4
  have pl1:pm.length=its.length:=by rw[g1.length_eq,oT]
  have mem:∀i∈pm,i<its.length:=λi hi=>eZ.mp (g1.mem_iff.mp hi)
  have hv:Vals (pm.map λi=>vs.getD i (V.int 0)) (pm.map λi=>its.getD i eM):=by
   clear g1 g2 g3 pl1
   induction pm with
   | nil=>exact .nil
   | cons i pm ih =>
    obtain⟨p1,v1,_,a2,_,a4,_⟩:=at_ i (mem i (cI ..))
    exact .cons (by show RelV (vs.getD i (V.int 0)) _;rw[bR,a2];exact a4) (ih λj hj=>mem j (bD _ hj))
  have hr2:Reps X.K H1 ((pm.map λi=>ps.getD i (0,[])).map pcD) (pm.map λi=>vs.getD i (V.int 0)):=by
   clear g1 g2 g3 pl1 hv
   induction pm with
   | nil=>exact .nil
   | cons i pm ih =>
    obtain⟨p1,v1,a1,a2,a3,_,_⟩:=at_ i (mem i (cI ..))
    exact .cons (by show Rep X.K H1 (pcD (ps.getD i (0,[]))) (vs.getD i (V.int 0));rw[bR,bR,a1,a2];exact a3) (ih λj hj=>mem j (bD _ hj))
  have perm:(pm.map λi=>ps.getD i (0,[])).Perm ps:=by
   have:=g1.map λi=>ps.getD i (0,[])
   rwa [show its.length=ps.length by omega,range_getD] at this
  have srt:(pm.map λi=>ps.getD i (0,[])).Pairwise (λx y=>gM (nO y) (nO x)=false):=by
   have e:(pm.map λi=>(ps.map nO).getD i [])=(pm.map λi=>ps.getD i (0,[])).map nO:=by
    rw[cZ]
    refine gT λi hi=>?_
    obtain⟨p1,v1,a1,_,_,_,a5⟩:=at_ i (mem i hi)
    rw[a5]
    show nO p1=nO (ps.getD i (0,[]))
    rw[bR,a1];rfl
   rw[e,jV] at g3
   exact g3
  have I4:=I1.laid (a:=h1.objs.size) (o:=.lst (pm.map λi=>vs.getD i (V.int 0))) (h':=h3) (t':=s1.toks) kp big ⟨by rw[aS,eX];omega,_,c,hv,g2⟩
  exact⟨_,rfl,aK ⟨_,rfl,.ref h1.objs.size,_,I4,rfl,kq _ _ _ H1 (hP _ perm srt) s01 (I1.hok.fresh big) hr2⟩⟩
end
end
section
open PySem PySem.Spec PyProof.Rows L2
def WX (je:Nat) (C:Addr) (y:Str) (F:FDX) (t:RA) (rb:RS):RS:=λE ρ=>t ρ λds=>∃PP,F ds (λ_=>False) PP/\∀c,PP c->rb { nx:=λρ'=>E.nx (ρ'.set je none),rt:=λ_=>False } (ρ.set je (some (.exc C y c)))
theorem StOk.unset {X:Cx} {ρ:En} {σ:St} {H:Hp} (st:StOk X ρ σ H) (j:Nat):StOk X (ρ.set j none) (σ.set j none) H:=by
 have ne:∀(i:Nat) (x:S),(ρ.set j none)[i]? = some (some x)->i≠j/\ρ[i]? = some (some x):=λi x e=>by
  by_cases h:j=i
  ·subst h
   rw[oS] at e
   simp only[if_true] at e
   split at e <;> cases e
  ·rw[bG h] at e
   exact⟨Ne.symm h,e⟩
 refine⟨by rw[iR,iR];exact st.len,st.same,λi x e=>?_,λi k x y v u a e1 e2 e3 e4 o1 o2=>?_,st.t0⟩
 ·obtain⟨n,e⟩:=ne i x e
  obtain⟨v,h1,h2⟩:=st.rel i x e
  exact⟨v,by rw[bG (Ne.symm n)];exact h1,h2⟩
 ·obtain⟨n1,e1⟩:=ne i x e1
  obtain⟨n2,e2⟩:=ne k y e2
  rw[bG (Ne.symm n1)] at e3
  rw[bG (Ne.symm n2)] at e4
  exact st.sep i k x y v u a e1 e2 e3 e4 o1 o2
theorem StOk.held {X:Cx} {ρ:En} {σ:St} {H:Hp} {v:aB} (st:StOk X ρ σ H):StOk (DJ X v) ρ σ H:=⟨st.len,st.same,st.rel,st.sep,st.t0⟩
theorem StOk.unheld {X:Cx} {ρ:En} {σ:St} {H:Hp} {v:aB} (st:StOk (DJ X v) ρ σ H):StOk X ρ σ H:=⟨st.len,st.same,st.rel,st.sep,st.t0⟩
theorem Df {X:Cx} {C:Addr} {y:Str} {k:Nat} {ps:List Str} {F:FDX} {R:Int->Prop} {x:Str} {p pos:Pos} {e:Expr} {es:List Expr} {t:RA} (G:FnAtX X.prog X.w X.K X.mg X.base C y x ps k F) (hr:Room k X.A) (ha:DA X.nox (e::es) t) (hg:Gl X x) {pins:List (Addr × Obj)} {s:aD} {σ:St} {H:Hp} {ρ:En} {XE:aB->aD->Prop} {Q:aB->aD->Prop}
  (I:Inv X pins σ H s) (st:StOk X ρ σ H) (h:t ρ λds=>∃PP,F ds (λ_=>False) PP/\∀c,PP c->R c) (hx:∀H1 s1 v s',Inv X pins σ H1 s1->StOk X ρ σ H1->Same H H1->CXD X.prog X.w C X.stack H1 s1 (EX C y R) v s'->XE v s')
  (hdb:(x == ("__debug__":Str))=false:=by decide) (he:starEach (e::es) X.env=(false,eval e X.env)::starEach es X.env:=by rfl) (hpl:(backTo pos (starEach es X.env)).any (·.1)=false:=by rfl) :
  wpAny (model X.prog X.w) X.A (eval (.Call (.Name x p) (e::es) [] pos) X.env) Q XE s:=by
 obtain⟨f,fd,G,hb,hk,hm⟩:=G.ex
 have st':StOk X.nox ρ σ H:=⟨st.len,st.same,st.rel,st.sep,st.t0⟩
 refine dM (tS I hg hm ?_ hdb)
 refine kT (h₀:=X.base) I.ok.mod.kin hk (dI (ha pos pins s σ H (λvs H1=>Same H H1/\∃ds PP,Reps X.K H1 ds vs/\F ds (λ_=>False) PP/\∀c,PP c->R c) (I.wish _) ⟨ρ,_,st',h,λds vs H1 ⟨PP,q,q'⟩ s1 r=>⟨s1,ds,PP,r,q,q'⟩⟩) (λus s1 ⟨vs,H1,I1,r,sm,ds,PP,rr,q,q'⟩=>⟨I1.unwish.kIn,?_⟩) λ_ _ z=>z.elim) he hpl
 have I1:=I1.unwish
 have sp:spX X.K C y F vs H1 (λ_ _=>False) (EX C y R):=⟨(st.ext sm).tabs,ds,_,PP,rr,q,λ_ _ _ z _ _=>z,λc dx H' hp h3=>⟨rfl,c,dx,q' c hp,rfl,h3⟩⟩
 have hl:us.length=ps.length:=by rw[<-r.length];exact G.len vs H1 _ _ sp
 have bb:=hb s1 us I1.kIn (by rw[dL];exact hl)
 rw[dL] at bb
 refine qH (jX (G.run X.A X.stack s1 H1 ⟨us,[]⟩ us vs (λ_ _=>False) (EX C y R) hr I1.env0 bb r sp) λr' s' hq=>?_)
 cases r' with
 | error v=>exact hx H1 s1 v s' I1 (st.ext sm) sm hq
 | ok fl =>
  cases fl with
  | ret u=>obtain⟨_,_,_,_,_,_,_,z⟩:=hq;exact z.elim
  | next=>exact eG hq
  | brk=>exact eG hq
  | cont=>exact eG hq
section
variable {X:Cx} {C cc:Addr} {k je:Nat} {ps:List Str} {F:FDX} {g y cn:Str} {ea:Expr} {es:List Expr} {t:RA} {q4 q5 q6 q7 q11 q12:Pos} {bst:Stmt} {bss:List Stmt} {rb:RS}
theorem Bf (xm:oZ X.K (.ref C) (.ref cc)=some true) (mc:X.mg cn=some (.ref cc)) (T1:Top1 X) (nd:X.N.Nodup) (n2:X.N[je]? = some ("e":Str)) (l2:X.env.scope.names.lookup ("e":Str)=some .local) (cl:∀x c,X.env.cells.lookup x=some c->False)
  (G:FnAtX X.prog X.w X.K X.mg X.base C y g ps k F) (hr:Room k X.A) (ha:DA X.nox (ea::es) t) (hb:∀v,DSs (DJ X.nox v) (bst::bss) rb) (hg:Gl X g:=by rfl) (gC:Gl X cn:=by rfl)
  (hdb:(g == ("__debug__":Str))=false:=by decide) (hdc:(cn == ("__debug__":Str))=false:=by decide) (he:starEach (ea::es) X.env=(false,eval ea X.env)::starEach es X.env:=by rfl) (hpl:(backTo q5 (starEach es X.env)).any (·.1)=false:=by rfl)
  (hs2:swapsWith (.Call (.Name g q4) (ea::es) [] q5) none q6.line X.env=pure false:=by rfl) (hpn:X.pn=[]:=by rfl) :
  DS X.nox (.Try [.Expr (.Call (.Name g q4) (ea::es) [] q5) q6] [.ExceptHandler (some (.Name cn q7)) (some "e") (bst::bss) q11] [] [] q12) (WX je C y F t rb):=by
 intro pins s σ H De I hh
 refine kL hh λρ En so hF krt _ _ _=>?_
 have lt2:je<σ.length:=by rw[I.len];exact (aX.mp n2).1
 refine wpAny_Try_except (vT (NS (Df (X:=X.nox) (R:=λc=>rb { nx:=λρ'=>En.nx (ρ'.set je none),rt:=λ_=>False } (ρ.set je (some (.exc C y c)))) G hr ha hg I so hF (λH1 s2 v s3 I2 sb sm fl=>?_) hdb he hpl) I.quiet hs2))
 obtain⟨a,B,a0,H3,dx,rfl,Fl,⟨kd,ndx⟩,⟨_,c,dx',hp,edx,hdx⟩⟩:=fl
 cases edx
 have hfr:X.A.frames=some (X.env::X.outer):=by rw[<-T1.stk];exact I.ok.frames
 refine dI (LE (E:=λ_ _=>False) (Ba (.ref a) X.env) kd (wpAny_looks_onW (base:=B) (a0:=a0) (Q:=λ_ s'=>(Heap.HeldW B (X.env::X.outer) a (.ref C) a0 X.env.locals s'.heap/\s3.heap.UpToSlots s'.heap)/\s' = { s3 with heap:=s'.heap }) hfr T1.fr (by rw[<-T1.stk];exact Fl.fly) λh4 hd4 up4=>⟨⟨hd4,up4⟩,rfl⟩)) (λ_ s4 z=>?_) λ_ _ z=>z.1.elim
 obtain⟨⟨⟨hd4,up4⟩,e4⟩,kd4⟩:=z
 refine dI (LE (E:=λ_ _=>False) (HA (.ref a)) kd4 (wpAny_landsW (Q:=λ_ s'=>(vX B (X.env::X.outer) a (.ref C) a0 s'.heap/\s4.heap.UpToSlots s'.heap)/\s' = { s4 with heap:=s'.heap }) hd4 λh5 fl5 up5=>⟨⟨fl5,up5⟩,rfl⟩)) (λ_ s5 z=>?_) λ_ _ z=>z.1.elim
 obtain⟨⟨⟨fl5,up5⟩,e5⟩,kd5⟩:=z
 generalize s4.heap=h4 at *
 subst e4
 generalize s5.heap=h5 at *
 subst e5
 obtain⟨un5,ok5⟩:=Fl.step (by exact fl5.1) (up4.trans up5)
 have I5:Inv X.nox pins σ H3 { s3 with heap:=h5 }:=Inv.call' (ch:=[]) I2 Fl.os (by rw[<-T1.stk] at *;exact un5) ok5 Fl.bare (λb z=>absurd z (by simp))
 refine wpAny_handleBy_cons (codeAny_handlers_test ?_) (by intro q;cases q)
 refine tS (X:=DJ X.nox (.ref a)) (VD I5 _) gC mc ?_ hdc
 obtain⟨o5,g5,c5⟩:=fl5.there
 have LT:PySem.W.Looks (model X.prog X.w) h5 (typeOf (.ref a)) (.ref C):=c5 ▸ (PySem.W.Looks.ld g5).andThen .now
 refine (PySem.W.exm_one (e:=a) I5.kIn LT xm).here ?_
 refine codeAny_handlers_suite_as ?_
 refine dI (LE (E:=λ_ _=>False) (HA (.ref a)) kd5 (lands_againW (Q:=λ_ s'=>(vX B (X.env::X.outer) a (.ref C) a0 s'.heap/\h5.UpToSlots s'.heap)/\s' = { s3 with heap:=s'.heap }) fl5 λh6 fl6 up6=>⟨⟨fl6,up6⟩,rfl⟩)) (λ_ s6 z=>?_) λ_ _ z=>z.1.elim
 obtain⟨⟨⟨fl6,up6⟩,e6⟩,kd6⟩:=z
 generalize s6.heap=h6 at *
 subst e6
 obtain⟨un6,ok6⟩:=Fl.step (by exact fl6.1) ((up4.trans up5).trans up6)
 have I6:Inv X.nox pins σ H3 { s3 with heap:=h6 }:=Inv.call' (ch:=[]) I2 Fl.os (by rw[<-T1.stk] at *;exact un6) ok6 Fl.bare (λb z=>absurd z (by simp))
 obtain⟨oe,vs6,ge,ce,de⟩:∃oe vs,h6.get? a=some oe/\oe.cls = .ref C/\oe.data = .fields vs:=by
  obtain⟨_,_,_,oe,vs,_,_,_,e1,e2,e3,_⟩:=fl6
  exact⟨oe,vs,e1,e2.1,e3⟩
 have dd6:oe.dict=some dx:=kd6.2 oe ge
 have nfr:a ∉ frs X.stack:=Fl.nofr
 have a3:H3 a=none:=Fl.new
 have a1:H1 a=none:=Fl.same.free a3
 have a2:s2.heap.get? a=none:=by
  cases z:s2.heap.get? a with
  | none=>rfl
  | some o =>
   have:=Fl.bU a o z a1 nfr
   rw[Fl.fly.2.1] at this;cases this
 have a0':X.s₀.heap.get? a=none:=by
  cases z:X.s₀.heap.get? a with
  | none=>rfl
  | some o =>
   obtain⟨o',z'⟩:=I2.base.there a o z (by rw[show X.nox.ex=X.ex from rfl,T1.ex];simp)
   rw[a2] at z';cases z'
 have I7:Inv X.nox pins σ (upd H3 a (rH C a dx)) { s3 with heap:=h6 }:=Inv.track I6 a3 a0' (λz=>nfr (T1.sub.mpr (.inl z))) (λx c z=>(cl x c z).elim) (λp hp z=>by
  have:=(I2.pin p hp).1
  rw[z,a2] at this;cases this) (Dj ge ce de dd6)
 have hax:a≠dx:=λz=>by rw[z,hdx] at a3;cases a3
 have sm7:Same H1 (upd H3 a (rH C a dx)):=Fl.same.trans (.fn λb o zb=>by rw[bM (cB zb a3)];exact zb)
 have so7:StOk X.nox (ρ.set je (some (.exc C y c))) (σ.set je (some (.ref a))) (upd H3 a (rH C a dx)):=sb.put sm7 (x':=.exc C y c) ⟨a,dx,rfl,cR,by rw[bM (Ne.symm hax)];exact hdx⟩ λa o=>o.elim
 refine zW (X:=DJ X.nox (.ref a)) (v:=.ref a) (u:=.ref a) (VD I7 _) nd n2 (eD l2) rfl (λs7 I7'=>?_) (eJ l2)
 refine dI (hb (.ref a) pins s7 _ (upd H3 a (rH C a dx)) { nx:=λσ' H'=>∃ρ',En.nx (ρ'.set je none)/\Keep (upd H3 a (rH C a dx)) H'/\StOk X.nox ρ' σ' H',rt:=λ_ _=>False } I7' ⟨_,_,so7.held,hp,λρ' σ' H' z1 z2 z3=>⟨ρ',z1,z2,z3.unheld⟩,λ_ _ _ z=>z.elim,λ_ _ _ z=>z.elim,λ_ _ _ z=>z.elim⟩) (λf s8 q=>?_) λ_ _ z=>z.elim
 cases f with
 | ret u=>obtain⟨_,_,_,_,_,z⟩:=q;exact z.elim
 | brk=>obtain⟨_,_,_,z⟩:=q;exact z.elim
 | cont=>obtain⟨_,_,_,z⟩:=q;exact z.elim
 | next =>
  obtain⟨σ8,H8,I8,ρ8,z1,z2,z3⟩:=q
  obtain⟨m,hn,hl⟩:=I8.loc
  refine wpAny_nameGoes_keeps l2 hn (by rw[I.ok.kind];rfl) λh9 v hn9 hs9=>?_
  have I9:=Ii (t:=s8.toks+1) I8 nd n2 hl hn9 hs9
  have I10:Inv X.nox pins _ _ _:=YO (X:=X.nox) (v:=.ref a) I7.ok I9
  exact⟨_,_,I10,krt _ _ _ z1 ((Keep.of (sm.trans sm7)).trans z2) (z3.unset je)⟩
end
structure ExcO (K:aF) (mg:Str->Option aB) (C Cb f c1 c2:Addr):Prop where
 z:ExcI K C Cb f "number"
 kp:fJ K (.ref C)=true
 mX:mg "Odd" = some (.ref C)
 mC:mg "CutError" = some (.ref Cb)
 m1:mg "NoNumber" = some (.ref c1)
 m2:mg "Crossed" = some (.ref c2)
 xm:oZ K (.ref C) (.ref Cb)=some true
 no:sJ K (.ref C) [.ref c1,.ref c2]=some false
 xs:oZ K (.ref C) (.ref C)=some true
 ve:fK K (.ref C) (.type "ValueError")=some true
 vn:mg "ValueError" = none
theorem Dcl.h0s {K:aF} {H₀ H:Hp} {kvs:List (Int × List D)} {kws:List (Key × V)} {as:List Addr} (t:Dcl K H₀ H kvs kws as):∀b∈as,H₀ b=none:=by
 induction t with
 | nil=>intro b m;cases m
 | cons h h0 r n t ih =>
  intro b m
  rcases aL.mp m with rfl | m
  ·exact h0
  ·exact ih b m
theorem StOk.lose {X:Cx} {ρ:En} {σ σ':St} {H:Hp} (st:StOk X ρ σ H) (j:Nat) (hl:σ'.length=σ.length) (hs:∀i,i≠j->σ'[i]? = σ[i]?):StOk X (ρ.set j none) σ' H:=by
 have ne:∀(i:Nat) (x:S),(ρ.set j none)[i]? = some (some x)->i≠j/\ρ[i]? = some (some x):=λi x e=>by
  by_cases h:j=i
  ·subst h
   rw[oS] at e
   simp only[if_true] at e
   split at e <;> cases e
  ·rw[bG h] at e
   exact⟨Ne.symm h,e⟩
 refine⟨by rw[iR,hl];exact st.len,st.same,λi x e=>?_,λi k x y v u a e1 e2 e3 e4 o1 o2=>?_,st.t0⟩
 ·obtain⟨n,e⟩:=ne i x e
  obtain⟨v,h1,h2⟩:=st.rel i x e
  exact⟨v,by rw[hs i n];exact h1,h2⟩
 ·obtain⟨n1,e1⟩:=ne i x e1
  obtain⟨n2,e2⟩:=ne k y e2
  rw[hs i n1] at e3
  rw[hs k n2] at e4
  exact st.sep i k x y v u a e1 e2 e3 e4 o1 o2
theorem Fr {m n:Nat} (h:m<n):seqIndex? (m:Int) n=some m:=by
 unfold seqIndex?
 simp[h]
 try omega
theorem Reps.erase {K:aF} {H:Hp}:∀{ds:List D} {vs:List V} (r:Reps K H ds vs) (m:Nat),Reps K H (ds.eraseIdx m) (vs.eraseIdx m)
 | _,_,.nil,_=>.nil
 | _,_,.cons h t,0=>t
 | _,_,.cons h t,m+1=>.cons h (Reps.erase t m)
theorem StOk.peek {X:Cx} {ρ:En} {σ:St} {H:Hp} (st:StOk X ρ σ H) {i j:Nat} {xss:List (List D)} {a b:Addr} {ws vs:List V} {ds:List D} (ex:ρ[i]? = some (some (.box false xss))) (es:σ[i]? = some (some (.ref a))) (ha:H a=some (.lst ws)) (mb:V.ref b∈ws)
  (hb:H b=some (.lst vs)) (h0:X.H₀ b=none) (rr:Reps X.K H ds vs) (hij:i≠j):StOk X ((ρ.set i none).set j (some (.own ds))) (σ.set j (some (.ref b))) H:=by
 have at_:∀(k:Nat) (x:S),((ρ.set i none).set j (some (.own ds)))[k]? = some (some x)->(k=j/\x = .own ds/\j<ρ.length)\/(k≠j/\k≠i/\ρ[k]? = some (some x)):=λk x e=>by
  by_cases h:j=k
  ·subst h
   rw[oS] at e
   simp only[if_true] at e
   split at e
   ·rename_i hlt
    cases e
    exact .inl ⟨rfl,rfl,by simpa using hlt⟩
   ·cases e
  ·rw[bG h] at e
   by_cases h2:i=k
   ·subst h2
    rw[oS] at e
    simp only[if_true] at e
    split at e <;> cases e
   ·rw[bG h2] at e
    exact .inr ⟨Ne.symm h,Ne.symm h2,e⟩
 have ob:Ow H (.box false xss) (.ref a) b:=⟨a,ws,rfl,ha,.inr mb⟩
 refine⟨by rw[iR,iR,iR];exact st.len,st.same,λk x e=>?_,λk l x y v u c e1 e2 e3 e4 o1 o2=>?_,st.t0⟩
 ·rcases at_ k x e with ⟨rfl,rfl,hl⟩ | ⟨n1,n2,e⟩
  ·exact⟨.ref b,by rw[cY (by rw[<-st.len];exact hl)],b,vs,rfl,hb,h0,rr⟩
  ·obtain⟨v,h1,h2⟩:=st.rel k x e
   exact⟨v,by rw[bG (Ne.symm n1)];exact h1,h2⟩
 ·rcases at_ k x e1 with ⟨rfl,rfl,hl⟩ | ⟨n1,n2,f1⟩
  ·rcases at_ l y e2 with ⟨rfl,_,_⟩ | ⟨m1,m2,e2⟩
   ·rfl
   ·rw[cY (by rw[<-st.len];exact hl)] at e3
    rw[bG (Ne.symm m1)] at e4
    cases e3
    have o1:V.ref b=V.ref c:=o1
    cases o1
    exact absurd (st.sep l i y _ u _ b e2 ex e4 es o2 ob) m2
  ·rcases at_ l y e2 with ⟨rfl,rfl,hl⟩ | ⟨m1,m2,e2⟩
   ·rw[cY (by rw[<-st.len];exact hl)] at e4
    rw[bG (Ne.symm n1)] at e3
    cases e4
    have o2:V.ref b=V.ref c:=o2
    cases o2
    exact absurd (st.sep k i x _ v _ b f1 ex e3 es o1 ob) n2
   ·rw[bG (Ne.symm n1)] at e3
    rw[bG (Ne.symm m1)] at e4
    exact st.sep k l x y v u c f1 e2 e3 e4 o1 o2
abbrev QH (i j:Nat) (ds:List D) (ρ:En):En:=(ρ.set i none).set j (some (.own ds))
def Ch (i jw:Nat) (tk:RE) (tt:RT) (tj:RE):RS:=λE ρ=>match ρ[i]? with
 | some (some (.box false xss))=>tk ρ λkd=>match kd with
  | .int k=>∃(j:Nat) (ds:List D),(k=(j:Int)/\xss[j]? = some ds/\jw<ρ.length)/\tt (QH i jw ds ρ) λb=>if b=true then tj (QH i jw ds ρ) λd=>∃m:Nat,(d = .int (m:Int)/\m<ds.length/\Sz ds.length)/\E.nx ((ρ.set i (some (.box false (xss.set j (ds.eraseIdx m))))).set jw none) else E.nx (ρ.set jw none)
  | _=>False
 | _=>False
section
variable {X:Cx} {e k test:Expr} {pos pos' p p1 p2 apos cpos npos spos wpos ipos epos:Pos} {tj tk:RE} {tt:RT} {x w:Str}
theorem Hu (i jw:Nat) (hij:i≠jw) (nd:X.N.Nodup) (hk:DE X k tk) (ht:DT X test tt) (he:DE X e tj) (hN:X.N[i]? = some x:=by rfl) (hW:X.N[jw]? = some w:=by rfl) (hv:Vis X.env.scope x:=by walk_at "vis") (hd:(x == ("__debug__":Str))=false:=by decide) (hcd:(x == ("__classdict__":Str))=false:=by decide)
  (hvw:Vis X.env.scope w:=by walk_at "vis") (hdw:(w == ("__debug__":Str))=false:=by decide) (hcdw:(w == ("__classdict__":Str))=false:=by decide)
  (hx:Loc X.env.scope w:=by walk_at "vis") (hf:X.fn w=true\/X.env.scope.names.lookup w=some .local:=by walk_at "loc")
  (hsw1:swapsWith (.Subscript (.Name x npos) k spos) (some (.Name w pos')) pos.line X.env=pure false:=by rfl)
  (hpi:JN k:=by intro _ _;rfl)
  (hbase:attributeBase (.Name w wpos) "pop" X.env (eval (.Name w wpos) X.env)=eval (.Name w wpos) X.env:=by rfl)
  (hfew:((backTo cpos (starEach [e] X.env)).all (λx=>!x.1) && (backToKw cpos (keywordEach [] X.env)).all (λx=>x.1.isSome) && decide (([e]:List Expr).length+([]:List lP).length+(if ([]:List lP).isEmpty then 0 else 1)<30))=true:=by rfl)
  (hline:(apos.endLine == cpos.line)=true:=by rfl) (hs:starEach [e] X.env=[(false,eval e X.env)]:=by rfl) (hn:starEach [] X.env=[]:=by rfl)
  (hsw:swapsWith (.Call (.Attribute (.Name w wpos) "pop" apos) [e] [] cpos) none epos.line X.env=pure false:=by rfl) :
  DSs X [.Assign [.Name w pos'] (.Subscript (.Name x npos) k spos) pos,.If test [.Expr (.Call (.Attribute (.Name w wpos) "pop" apos) [e] [] cpos) epos] [] ipos] (Ch i jw tk tt tj):=by
 refine PSs.mono (MQ (MP nd hW hx (Jr SG (pv (pos:=npos) i hN hv hd hcd) hk hpi) hsw1 hf) (JV (Pd ht (JV (wS (QF gJ xX xZ Ji (pv (pos:=wpos) jw hW hvw hdw hcdw) (nE he hs hn) hbase hfew hline (by rw[hs,hn]) (by rw[hn];rfl)) hsw)) Cf))) λDe σ H hh=>kL hh λρ E so q n r bk ct=>?_
 unfold Ch at q
 split at q
 ·rename_i xss ex
  obtain⟨v,h1,a,kws,as,ev,ha,h0,na,t⟩:=so.rel i _ ex
  subst ev
  refine⟨.ref a,h1,ρ,_,so,q,λkd kv H1 hkd s1 rk=>?_⟩
  cases kd with
  | int k =>
   obtain⟨j,ds,⟨ej,hj,lj⟩,q1⟩:=hkd
   subst ej
   rw[rk.int_inv]
   have so1:=so.ext s1
   have ha1:=s1.get _ _ ha trivial
   have t1:Dcl X.K X.H₀ H1 (xss.map λx=>(0,x)) kws as:=t.same s1
   obtain⟨b,vs,eb,hb,rb,_⟩:=t1.ix (JQ hj)
   have mb:b∈as:=bF eb
   have mw:V.ref b∈as.map V.ref:=fS mb
   refine⟨a,as.map V.ref,j,.ref b,rfl,rfl,SqL.of ha1,JP (by rw[aT,eb];rfl),?_⟩
   have so2:StOk X (QH i jw ds ρ) (σ.set jw (some (.ref b))) H1:=so1.peek ex h1 ha1 mw hb (t1.h0s b mb) rb hij
   rw[so.len] at lj
   refine⟨_,_,so2,q1,λc H2 hc s2=>?_⟩
   have so3:=so2.ext s2
   have so13:=so1.ext s2
   have e1:(σ.set jw (some (V.ref b)))[jw]? = some (some (.ref b)):=cY lj
   have nei:(σ.set jw (some (V.ref b)))[i]? = some (some (.ref a)):=by rw[bG (Ne.symm hij)];exact h1
   cases c with
   | false =>
    rw[if_neg bS] at hc
    exact n _ _ _ hc ((Keep.of s1).trans (.of s2)) (so13.lose jw (by rw[iR]) λi hi=>bG (Ne.symm hi))
   | true =>
    rw[if_pos rfl] at hc
    have hb2:=s2.get _ _ hb trivial
    refine⟨.ref b,e1,.inl ⟨rfl,vs,SqL.of hb2⟩,_,_,so3,hc,λd w H3 hd s3 rd=>?_⟩
    obtain⟨m,⟨rfl,hm,z1⟩,fin⟩:=hd
    have ed:=rd.int_inv
    subst ed
    have hb3:=s3.get _ _ hb2 trivial
    have ha3:=s3.get _ _ (s2.get _ _ ha1 trivial) trivial
    have so4:=so13.ext s3
    have t3:Dcl X.K X.H₀ H3 (xss.map λx=>(0,x)) kws as:=(t1.same s2).same s3
    obtain⟨b',vs',eb',hb4,rb4,fin'⟩:=t3.ix (JQ hj)
    rw[eb] at eb';cases eb'
    rw[hb3] at hb4;cases hb4
    have lr:=rb4.length
    have ne:a≠b:=by rintro rfl;exact na mb
    have z1:=z1.ok
    refine⟨b,vs,(m:Int),m,vs[m]'(by omega),rfl,rfl,hb3,by omega,by have:=eX;omega,Fr (by omega),aC _,?_⟩
    have kpU:Keep H3 (upd H3 b (.lst (vs.eraseIdx m))):=Keep.chg1 hb3 (.inl ⟨_,rfl⟩)
    have haU:upd H3 b (.lst (vs.eraseIdx m)) a=some (.lst (as.map V.ref)):=by rw[bM ne];exact ha3
    obtain⟨so5,k5⟩:=so4.updW (x':=.box false (xss.set j (ds.eraseIdx m))) (v':=.ref a) ex h1 (H':=upd H3 b (.lst (vs.eraseIdx m)))
     (λc o h w'=>by rw[bM (by rintro rfl;exact w' ⟨a,_,rfl,ha3,.inr mw⟩)];exact h)
     ⟨a,kws,as,rfl,haU,h0,na,by
      rw[<-As]
      exact fin' _ _ _ kpU cR (λc _ nc o h=>by rw[bM nc];exact h) ((rb4.erase m).keep kpU)⟩
     (λc o=>.inl (by
      obtain⟨p',vs0,e1,e2,e3⟩:=o
      cases e1;rw[haU] at e2;cases e2
      exact⟨a,_,rfl,ha3,e3⟩))
    rw[jZ h1] at so5
    exact n _ _ _ fin ((((Keep.of s1).trans (.of s2)).trans (.of s3)).trans k5) (so5.lose jw (by rw[iR]) λi hi=>bG (Ne.symm hi))
  | _=>exact hkd.elim
 ·exact q.elim
end
def Hb:R22:=λx y Q=>match x,y with
 | .lst xs,.lst []=>Q (.bl !xs.isEmpty)
 | _,_=>False
section
variable {X:Cx}
theorem Qs {k:Nat} (hr:Room k X.A):OpD X (compareOp .NotEq) Hb:=by
 intro pins s σ H x y v u Q I rx ry hh_0
 obtain⟨d,e,P,r1,r2,q,kk⟩:=hh_0
 have hu:=hr.un
 unfold Hb at q
 split at q
 ·rename_i xs
  obtain⟨a,vs,rfl,h1,q1⟩:=r1.lst
  obtain⟨c,ws,rfl,h2,q2⟩:=r2.lst
  cases rx;cases ry
  obtain⟨its,rv,ht,_⟩:=I.list h1
  obtain⟨its2,rv2,ht2,_⟩:=I.list h2
  have l1:xs.length=its.length:=q1.length.trans rv.length
  have l2:(0:Nat)=its2.length:=q2.length.trans rv2.length
  have rc:SeqAt.RcNeAt X.A s (.ref a) (.ref c) (!xs.isEmpty):=by
   cases xs with
   | nil =>
    have:=SeqAt.RcNeAt.lists (A:=X.A) (s:=s) (e:=λ_=>false) ht.isList ht2.isList (by rw[aN,aN,<-l1,<-l2];rfl) (by omega) (λj g1 g2=>by rw[aN] at g2;omega)
    rw[show its.toArray.size=0 from l1.symm] at this
    exact this
   | cons x xs=>exact SeqAt.RcNeAt.lists_lengths ht.isList ht2.isList (by rw[aN,aN,<-l1,<-l2];rfl) (by omega)
  exact rc _ _ _ _ ⟨.bl _,H,I,rfl,kk _ _ H q (Same.refl H) (.bl _)⟩
 ·exact q.elim
end
abbrev FM:=List (List Int)->List D->List D->(List Int->D->Prop)->Prop
def rMut (i:Nat) (F:FM) (t:RA):RS:=λE ρ=>match ρ[i]? with
 | some (some (.dt ks xs))=>t ρ λds=>Sz (ks.length+1)/\F ks xs ds λkk d=>E.nx (ρ.set i (some (.dt (So ks kk) (Ty ks xs kk d))))
 | _=>False
section
variable {X:Cx} {k:Nat} {ps:List Str} {F:FM} {x y:Str} {p py pos spos:Pos} {es:List Expr} {t:RA}
end
section
variable {X:Cx} {e k f:Expr} {pos pos' p npos apos cpos:Pos} {te tk tf:RE} {x:Str} {a:Addr} {ks:List (List Int)} {xs:List D} {ws:List V}
def rRGet (i:Nat) (a:Addr) (ks:List (List Int)) (xs:List D) (tk tf:RE):RE:=λρ Q=>ρ[i]? = some (some (.raw (.ref a)))/\tk ρ λkd=>tf ρ λz=>∃kk:List Int,kd = .tup (kk.map .int)/\Q ((UO ks xs kk).getD z)
end
abbrev RM:=(List Int->D->Prop)->En->Prop
def rSeqM (t:RS) (u:RM):RM:=λP ρ=>t { nx:=u P,rt:=λ_=>False } ρ
def rPutM (i:Nat) (a:Addr) (tk te:RE):RM:=λP ρ=>ρ[i]? = some (some (.raw (.ref a)))/\te ρ λd=>tk ρ λkd=>∃kk:List Int,kd = .tup (kk.map .int)/\P kk d
def rRetF (t:RA):RS:=λE ρ=>t ρ λxs=>E.rt (.lst xs)
section
variable {X:Cx} {st:Stmt} {rest:List Stmt} {e k:Expr} {pos pos' npos:Pos} {t:RS} {u:RM} {te tk:RE} {x:Str} {a:Addr} {ks:List (List Int)} {xs:List D} {ws:List V}
end
section
variable {P:bA} {w:cA} {K:aF} {mg:Str->Option aB} {base:Heap}
end
end
section
open PySem PySem.Spec PySem.W PyProof.Rows L2
section
variable {prog:bA} {w:cA} {A:cE} {E:aB->aD->Prop} {s:aD} {name qual:Str} {params:Arguments} {body:Expr} {scope:Scope} {clos:List (Str × Addr)} {pm ctv v:aB} {f c':Addr} {x:Str} {Q:aB->aD->Prop}
end
section
variable {prog:bA} {w:cA} {A:cE} {env:Env} {h:Heap} {a b:Expr} {pos:Pos} {i j:Int} {m:Str->Option aB} {x:Str}
end
section
variable {prog:bA} {w:cA} {A:cE} {E:aB->aD->Prop} {s:aD} {L l f:Addr} {m:Str->Option aB} {vs:List aB} {kz:List Int} {Q:aB->aD->Prop}
end
end
section
open PySem PySem.Spec PyProof.Rows L2
section
variable {P:bA} {w:cA} {K:aF} {mg:Str->Option aB} {base:Heap}
end
section
variable {X:Cx} {pins:List (Addr × Obj)} {σ:St} {H:Hp} {s:aD}
end
abbrev pr2 (p:Int × Int):D:=.tup [.int p.1,.int p.2]
def Vb (j:Nat) (te:RE):RA:=λρ Q=>te ρ λx=>∃(B:Int) (fs:List (Int × Int)),ρ[j]? = some (some (.d (.int B)))/\x = .lst (fs.map pr2)/\fs.length<64/\(∀f∈fs,DivOk B f.2/\MulOk f.1 (B.fdiv f.2)) /\
 ∀gs:List (Int × Int),gs.Perm fs->gs.Pairwise (λp q=>p.1*B.fdiv p.2<=q.1*B.fdiv q.2)->Q (gs.map pr2)
section
variable {X:Cx} {e:Expr} {te:RE} {p pos kp lpos:Pos} {x y dn:Str} {c T:Addr} {k j:Nat} {params:Arguments} {scope:Scope} {p1 p2 p3 p4 p5 p6 p7 p8 p9:Pos} {n1 n2:Nat}
end
structure Hid (K K':aF):Prop where
 get:∀b o,K.lookup b=some o->o.data≠.fields #[]->K'.lookup b=some o
 of:∀b o,K'.lookup b=some o->K.lookup b=some o
section
variable {K K':aF}
theorem Hid.ns (z:Hid K K') {a:Addr} {x:Str} {r:Option aB} (e:fN K a x=some r):fN K' a x=some r:=by
 unfold fN at e ⊢
 cases q:K.lookup a with
 | none=>rw[q] at e;cases e
 | some o =>
  rw[q] at e
  obtain⟨oc,od,dt,sl⟩:=o
  cases dt with
  | dict es n=>rw[z.get a _ q λy=>by cases y];exact e
  | _=>cases e
end
section
variable {P:bA} {w:cA} {K:aF} {mg:Str->Option aB} {base:Heap} {x:Str} {st:Stmt} {N ps:List Str} {k:Nat} {F:FD} {t:RS}
theorem DefAt.mkD (Z:DefAt K mg x st ps) (len:∀ds Q,F ds Q->ds.length=ps.length) (pure:∀ds Q,F ds Q->t { nx:=λ_=>Q .non,rt:=Q } (dO N ds))
  (hbody:∀{f:Addr} {cdv:aB} {A:cE} {outer:List Env} {s:aD} {H:Hp} {E:XK},N.Nodup->Room k (A.deeper (envOfC x (dR st) s.heap.objs.size f cdv)) ->
   DSs (yA CX0 P w K mg base N x (dR st) f cdv A outer s H E).nox (lR st) t)
  (Sc:FnScope N ps (dR st):=by exact⟨rfl,rfl,rfl,by decide +kernel,rfl,by decide +kernel,by decide +kernel⟩):FnAt P w K mg base x ps (k+1) F :=
 Z.ok Sc (λ_ _ _ _ _ _=>hbody Sc.nd) len pure
theorem DefAt.mkX {F:FDX} {t:(Int->Prop)->RS} {C:Addr} {y:Str} (Z:DefAt K mg x st ps) (len:∀ds Q PP,F ds Q PP->ds.length=ps.length) (pure:∀ds Q PP,F ds Q PP->t PP { nx:=λ_=>Q .non,rt:=Q } (dO N ds))
  (hbody:∀{f:Addr} {cdv:aB} {A:cE} {outer:List Env} {s:aD} {H:Hp} {E:XK} {PP:Int->Prop},N.Nodup->Room k (A.deeper (envOfC x (dR st) s.heap.objs.size f cdv))->XAcc (yA (CXD P w C) P w K mg base N x (dR st) f cdv A outer s H E) C y PP ->
   DSs (yA (CXD P w C) P w K mg base N x (dR st) f cdv A outer s H E) (lR st) (t PP))
  (Sc:FnScope N ps (dR st):=by exact⟨rfl,rfl,rfl,by decide +kernel,rfl,by decide +kernel,by decide +kernel⟩):FnAtX P w K mg base C y x ps (k+1) F :=
 Z.okX Sc (λ_ _ _ _ _ _ _=>hbody Sc.nd) len pure
theorem Qo {qual:Str} {f:Addr} {fd:iC} (Fu:Fun K x qual st f fd) (len:∀ds Q,F ds Q->ds.length=ps.length) (pure:∀ds Q,F ds Q->t { nx:=λ_=>Q .non,rt:=Q } (dO N ds))
  (hbody:∀{cdv:aB} {A:cE} {outer:List Env} {s:aD} {H:Hp} {E:XK},N.Nodup->Room k (A.deeper (envOfC qual (dR st) s.heap.objs.size f cdv)) ->
   DSs (yA CX0 P w K mg base N qual (dR st) f cdv A outer s H E).nox (lR st) t)
  (Sc:FnScope N ps (dR st):=by exact⟨rfl,rfl,rfl,by decide +kernel,rfl,by decide +kernel,by decide +kernel⟩):FnOk P w K mg base CX0 (k+1) f fd ps (spD K F) :=
 Ot Fu Sc (λ_ _ _ _ _ _=>hbody Sc.nd) len pure
theorem def_mk {h:Heap} {f:Addr} {oc:aB} {od an:Option Addr} {osl:Array (Option aB)} {kV doc pm cdv ct:aB} (X:K.In h) (G:h.Ns mainGlobals mg) (a:fN K mainGlobals x=some (some (.ref f)))
  (l:K.lookup f=some ⟨oc,od,.func (kU x x (AE st) (lR st) (dR st) .none kV doc pm an cdv ct),osl⟩) (c:oY K cdv x=true) (k:fJ K (.ref f)=true)
  (b:∀us:List aB,us.length=ps.length->bindArgs (kU x x (AE st) (lR st) (dR st) .none kV doc pm an cdv ct) ⟨us,[]⟩=pure (ps.zip us)):DefAt K mg x st ps :=
 ⟨_,_,Ib (st:=st) l c k,qK X G a,b⟩
end
section
variable {X:Cx} {k n:Nat} {ps:List Str} {F:FD} {x:Str} {p pos:Pos} {e:Expr} {es:List Expr} {t:RA}
theorem bP (C:FnAt X.prog X.w X.K X.mg X.base x ps k F) (hr:Room n X.A) (ha:DA X (e::es) t) (hk:k<=n:=by decide) (hg:Gl X x:=by rfl)
  (hdb:(x == ("__debug__":Str))=false:=by decide) (he:starEach (e::es) X.env=(false,eval e X.env)::starEach es X.env:=by rfl) (hpl:(backTo pos (starEach es X.env)).any (·.1)=false:=by rfl) :
  DE X (.Call (.Name x p) (e::es) [] pos) (cQ F t):=UD C (hr.mono hk) ha hg hdb he hpl
theorem aQ {i:Int} {j:Nat}:DB X (.Constant (.int i) j pos) (rC (.int i)):=DE.bor kE
theorem eb {t:RE} (h:DE X e t):DB X e t:=DE.bor h
end
def mK:RS :=
 eE (fF 4 (r2 lK (aM 2) (aM 3)))
 (eE (fF 2 (bY 3))
 (fF 3 (bY 4)))
def tW:RS :=
 eE (fF 2 (rCB YG (aG (bY 0) bI)))
 (eE (fF 3 (rCB YG (aG (bY 1) bI)))
 (eE (DU (fU (r2 (AR true) (aM 3) (rC (.int 0)))) mK)
 (fZ (bY 2))))
def XA (F_shared_divisor:FD):RS :=
 eE (tF (fU (r2 (AR false) (aM 1) (rC (.int 0)))) ((λ_ _=>False)) nP)
 (eE (fF 2 (cQ F_shared_divisor (aG (bY 0) (aG (bY 1) bI))))
 (eE (tF (fU (r2 (vC λi j=>decide (i<j)) (aM 1) (rC (.int 0)))) (fF 2 (r1 zB (aM 2))) nP)
 (fZ (oK (aG (r2 iF (aM 0) (aM 2)) (aG (r2 iF (aM 1) (aM 2)) bI))))))
def CB:RS :=
 fZ (IM (r1 (RK "int") (bY 0)) (Ck (r1 (RK "bool") (bY 0))))
def Cm (rJ:FD):RS :=
 fZ (cQ rJ (aG (r2 nM (r2 iJ (r2 dIx (aM 0) (rC (.int 0))) (r2 dIx (aM 1) (rC (.int 1)))) (r2 iJ (r2 dIx (aM 1) (rC (.int 0))) (r2 dIx (aM 0) (rC (.int 1))))) (aG (r2 iJ (r2 dIx (aM 0) (rC (.int 1))) (r2 dIx (aM 1) (rC (.int 1)))) bI)))
def WZ (rJ:FD):RS :=
 fZ (cQ rJ (aG (r2 tE (r2 iJ (r2 dIx (aM 0) (rC (.int 0))) (r2 dIx (aM 1) (rC (.int 1)))) (r2 iJ (r2 dIx (aM 1) (rC (.int 0))) (r2 dIx (aM 0) (rC (.int 1))))) (aG (r2 iJ (r2 dIx (aM 0) (rC (.int 1))) (r2 dIx (aM 1) (rC (.int 1)))) bI)))
def oC:RS :=
 Rq 0 1 (aG (bY 1) (aG (r2 lK (aM 0) (aM 1)) bI))
def xI:RS :=
 eE (fF 0 (rCB YG (aG (bY 0) bI)))
 (eE (fF 1 (rCB YG (aG (bY 1) bI)))
 (eE (DU (fU (r2 (vC λi j=>decide (j<i)) (aM 1) (rC (.int 0)))) oC)
 (fZ (bY 0))))
def QS:RS :=
 fZ (oK (aG (r2 iJ (aM 0) (r2 dIx (aM 1) (rC (.int 0)))) (aG (r2 dIx (aM 1) (rC (.int 1))) bI)))
def Kl (GF:FD) (lX:FD):RS :=
 eE (fF 2 (r2 dIx (aM 0) (rC (.int 0))))
 (fZ (oK (aG (cQ GF (aG (cQ lX (aG (bY 2) (aG (r2 dIx (aM 1) (rC (.int 0))) bI))) (aG (r2 dIx (aM 0) (rC (.int 1))) bI))) (aG (cQ GF (aG (cQ lX (aG (bY 2) (aG (r2 dIx (aM 1) (rC (.int 1))) bI))) (aG (r2 dIx (aM 0) (rC (.int 2))) bI))) bI))))
def QP (OY:FD):RS :=
 eE (fF 2 (cQ OY (aG (bY 1) (aG (oK (aG (r2 dIx (aM 0) (rC (.int 1))) (aG (r2 dIx (aM 0) (rC (.int 2))) bI))) bI))))
 (fZ (oK (aG (r2 iJ (r2 dIx (aM 0) (rC (.int 0))) (r2 dIx (aM 1) (rC (.int 0)))) (aG (r2 dIx (aM 2) (rC (.int 0))) (aG (r2 dIx (aM 2) (rC (.int 1))) bI)))))
def IQ (lX:FD):RS :=
 eE (fF 1 (r2 dIx (aM 0) (rC (.int 0))))
 (fZ (oK (aG (bY 1) (aG (cQ lX (aG (r1 zB (aM 1)) (aG (r2 dIx (aM 0) (rC (.int 1))) bI))) (aG (cQ lX (aG (r1 zB (aM 1)) (aG (r2 dIx (aM 0) (rC (.int 2))) bI))) bI)))))
def sV (F_shared_divisor:FD):RS :=
 fZ (r2 iJ (aM 0) (r2 iF (aM 1) (cQ F_shared_divisor (aG (bY 0) (aG (bY 1) bI)))))
def Cn:RS :=
 eE (fF 3 (r2 iJ (r2 tE (r2 dIx (aM 1) (rC (.int 0))) (r2 dIx (aM 0) (rC (.int 0)))) (r2 tE (r2 dIx (aM 2) (rC (.int 1))) (r2 dIx (aM 0) (rC (.int 1))))))
 (eE (fF 4 (r2 iJ (r2 tE (r2 dIx (aM 1) (rC (.int 1))) (r2 dIx (aM 0) (rC (.int 1)))) (r2 tE (r2 dIx (aM 2) (rC (.int 0))) (r2 dIx (aM 0) (rC (.int 0))))))
 (fZ (r2 tE (aM 3) (aM 4))))
def mV:RS :=
 Cl 1
def vP (uA:FD):RS :=
 eE (DU (Ke (fU (r2 (vC λi j=>decide (j<i)) (r1 qS (aM 1)) (rC (.int 1)))) (fU (r2 (vC λi j=>decide (i<=j)) (cQ uA (aG (r2 dIx (aM 1) (r1 zB (rC (.int 2)))) (aG (r2 dIx (aM 1) (r1 zB (rC (.int 1)))) (aG (bY 2) bI)))) (rC (.int 0))))) mV)
 (MW 1 (bY 2))
def CC (uA:FD):RS :=
 eE (IN 1 (tG bI))
 (eE (rQ (riL (bY 0)) (dH 2) (vP uA))
 (fZ (Ki (aM 1) FY (WW (r1 zB (rC (.int 1)))))))
def vK:RS :=
 fF 0 (r2 iF (aM 0) (aM 1))
def BV:RS :=
 eE (rQ (XD (aG (bY 2) bI)) (dH 3) vK)
 (fZ (r2 lK (aM 0) (aM 1)))
def vL (Wx:FD):RS :=
 eE (fF 2 (cQ Wx (aG (bY 0) (aG (bY 1) bI))))
 (fZ (oK (aG (r2 iF (aM 0) (aM 2)) (aG (r2 iF (aM 1) (aM 2)) bI))))
def xK:RS :=
 fZ (r2 dIx ((λρ Q=>(tG (aG (rC (.int 1)) (aG (r2 nM (rC (.int 1)) (r2 lK (r2 iF (aM 0) (rC (.int 3))) (rC (.int 12)))) (aG (r2 nM (rC (.int 1)) (r2 lK (r2 iF (aM 0) (rC (.int 3))) (r2 Dq (rC (.int 10)) (rC (.int 9))))) bI)))) ρ λds=>Q (.lst ds))) (r2 lK (aM 0) (rC (.int 3))))
def zO (Wx:FD):RS :=
 fF 2 (cQ Wx (aG (cQ Wx (aG (bY 2) (aG (bY 3) bI))) (aG (bY 4) bI)))
def IP (Wx:FD):RS :=
 eE (fF 2 (bY 0))
 (eE (rQ (riL (bY 1)) (qN 2 (fP (dH 3) (fP (dH 4) pG))) (zO Wx))
 (eE (IN 5 (rE (riL (bY 1)) 2 [2] (qN 2 (fP (dH 0) (fP (dH 1) pG))) (oK (aG (r2 iF (aM 0) (aM 2)) (aG (r2 iF (aM 1) (aM 2)) bI)))))
 (eE (fF 6 (ZV (aM 5) (r1 Ha (aM 5))))
 (fZ (oK (aG (r2 iF (aM 0) (aM 2)) (aG (r1 LA (r2 zA (Ki (aM 5) (WW (bY 6)) FY) (Ki (aM 5) FY (WW (bY 6))))) bI)))))))
def NF (F_half_round:FD):RS :=
 eE (fF 1 ((λρ Q=>(NC (aM 0)) ρ λds=>Q (.lst ds))))
 (fZ (r2 zA (cQ F_half_round (aG (bY 1) bI)) (cQ F_half_round (aG ((λρ Q=>(NA (aM 1)) ρ λds=>Q (.lst ds))) bI))))
def CD (F_shared_divisor:FD):RS :=
 fF 3 (cQ F_shared_divisor (aG (cQ F_shared_divisor (aG (bY 3) (aG (bY 4) bI))) (aG (bY 5) bI)))
def NG (rS:FD) (F_shared_divisor:FD):RS :=
 eE (fF 2 (cQ rS (aG (bY 1) bI)))
 (eE (tF (fU (r2 (vC λi j=>decide (i<j)) (r1 qS (aM 2)) (rC (.int 3)))) (fZ (rC .non)) nP)
 (eE (fF 3 (bY 0))
 (eE (rQ (riL (bY 2)) (qN 2 (fP (dH 4) (fP (dH 5) pG))) (CD F_shared_divisor))
 (fZ (oK (aG (r2 iF (aM 0) (aM 3)) (aG (r1 LA ((λρ Q=>(rE (riL (bY 2)) 2 [3] (qN 2 (fP (dH 0) (fP (dH 1) pG))) (oK (aG (r2 iF (aM 0) (aM 2)) (aG (r2 iF (aM 1) (aM 2)) bI)))) ρ λds=>Q (.lst ds)))) bI)))))))
def QR (rT:FD) (F_shared_multiple:FD):RS :=
 eE (fF 2 (r2 dIx (aM 1) (rC (.int 1))))
 (eE (fF 3 (r2 dIx (aM 1) (rC (.int 2))))
 (eE (fF 4 (cQ F_shared_multiple (aG (cQ F_shared_multiple (aG (r2 dIx (aM 0) (rC (.int 0))) (aG (r2 dIx (aM 2) (rC (.int 1))) bI))) (aG (r2 dIx (aM 3) (rC (.int 1))) bI))))
 (eE (fF 5 (r2 iJ (r2 dIx (aM 1) (rC (.int 0))) (r2 iF (aM 4) (r2 dIx (aM 0) (rC (.int 0))))))
 (eE (fF 6 (r2 iJ (r2 dIx (aM 2) (rC (.int 0))) (r2 iF (aM 4) (r2 dIx (aM 2) (rC (.int 1))))))
 (eE (fF 7 (r2 iJ (r2 dIx (aM 3) (rC (.int 0))) (r2 iF (aM 4) (r2 dIx (aM 3) (rC (.int 1))))))
 (fZ (cQ rT (aG (bY 4) (aG ((λρ Q=>(rE (riT (r2 dIx (aM 0) (rC (.int 1)))) 2 [5,6,7] (qN 2 (fP (dH 0) (fP (dH 1) pG))) (oK (aG (r2 nM (r2 iJ (aM 2) (aM 0)) (aM 3)) (aG (r2 nM (r2 iJ (aM 2) (aM 1)) (aM 4)) bI)))) ρ λds=>Q (.lst ds))) bI)))))))))
def BZ (Xc:FD):RS :=
 eE (fF 3 (r2 iJ (r2 dIx (aM 0) (rC (.int 1))) (r2 dIx (aM 1) (rC (.int 1)))))
 (eE (fF 4 (r2 iJ (r2 dIx (aM 0) (rC (.int 0))) (r2 dIx (aM 1) (rC (.int 1)))))
 (eE (fF 5 (r2 iJ (r2 dIx (aM 1) (rC (.int 0))) (r2 dIx (aM 0) (rC (.int 1)))))
 (eE (tF (fU (bY 2)) (fZ (cQ Xc (aG (bY 3) (aG ((λρ Q=>(tG (aG (oK (aG (rC (.int 0)) (aG (rC (.int 0)) bI))) (aG (oK (aG (bY 3) (aG (bY 4) bI))) (aG (oK (aG (bY 3) (aG (bY 5) bI))) bI)))) ρ λds=>Q (.lst ds))) bI)))) nP)
 (fZ (cQ Xc (aG (bY 3) (aG ((λρ Q=>(tG (aG (oK (aG (rC (.int 0)) (aG (rC (.int 0)) bI))) (aG (oK (aG (bY 3) (aG (bY 5) bI))) (aG (oK (aG (rC (.int 0)) (aG (r2 tE (aM 5) (aM 4)) bI))) bI)))) ρ λds=>Q (.lst ds))) bI)))))))
def qM:RS :=
 Cj 1 (bY 2) (bY 3)
def tV:RS :=
 eE (Kh 1)
 (eE (rQ (riL (bY 0)) (qN 2 (fP (dH 2) (fP (dH 3) pG))) qM)
 ((λE ρ=>(fZ (bY 1)) E (JB 1 ρ))))
def QQ (EC:FD):RS :=
 fZ (oK (aG (bY 0) (aG (cQ EC (aG (r2 dIx (aM 3) (r2 nM (aM 0) (rC (.int 1)))) (aG (r2 dIx (aM 3) (aM 0)) bI))) (aG ((λρ Q=>(tG (aG (bY 1) (aG (bY 2) bI))) ρ λds=>Q (.lst ds))) bI))))
def vM (Wz:FD) (Wv:FD):RS :=
 eE (fF 4 (r2 nM (rC (.int 1)) (cQ Wz (aG (r2 iF (aM 0) (rC (.int 18))) (aG (rC (.int 3)) (aG (bY 3) bI))))))
 (eE (fF 5 (r2 nM (rC (.int 1)) (r2 lK (cQ Wz (aG (r2 iF (aM 0) (rC (.int 35))) (aG (rC (.int 4)) (aG (bY 3) bI)))) (rC (.int 3)))))
 (MW 2 (cQ Wv (aG (r2 nM (r2 iJ (r2 dIx (r2 dIx (aM 2) (r1 zB (rC (.int 1)))) (rC (.int 0))) (aM 5)) (r2 iJ (aM 4) (r2 dIx (r2 dIx (aM 2) (r1 zB (rC (.int 1)))) (rC (.int 1))))) (aG (r2 iJ (r2 dIx (r2 dIx (aM 2) (r1 zB (rC (.int 1)))) (rC (.int 1))) (aM 5)) bI)))))
def BX (Wz:FD) (Wv:FD):RS :=
 eE (IN 2 (tG (aG (cQ Wv (aG (r2 tE (r2 lK (aM 0) (rC (.int 9))) (rC (.int 4))) (aG (r2 nM (rC (.int 1)) (r2 lK (r2 iF (aM 0) (rC (.int 9))) (rC (.int 2)))) bI))) bI)))
 (eE (rQ (XD (aG (r2 tE (aM 1) (rC (.int 1))) bI)) (dH 3) (vM Wz Wv))
 ((λE ρ=>(fZ (bY 2)) E (JB 2 ρ))))
def zQ (Wv:FD):RS :=
 eE (fF 1 (r2 dIx ((λρ Q=>(tG (aG (rC (.int 9)) (aG (r2 Dq (rC (.int 10)) (rC (.int 30))) bI))) ρ λds=>Q (.lst ds))) (r2 lK (r2 iF (aM 0) (rC (.int 2))) (rC (.int 2)))))
 (eE (fF 2 (cQ Wv (aG (r2 tE (r2 lK (r2 iJ (r2 lK (r2 iJ (aM 0) (rC (.int 48271))) (rC (.int 1000000007))) (rC (.int 69621))) (r2 nM (r2 iJ (rC (.int 2)) (aM 1)) (rC (.int 1)))) (aM 1)) (aG (r2 nM (rC (.int 1)) (r2 lK (r2 iF (aM 0) (rC (.int 4))) (rC (.int 4)))) bI))))
 (eE (fF 3 (cQ Wv (aG (r2 tE (r2 lK (aM 0) (r2 nM (r2 iJ (rC (.int 2)) (aM 1)) (rC (.int 1)))) (aM 1)) (aG (r2 nM (rC (.int 1)) (r2 lK (r2 iF (aM 0) (rC (.int 16))) (rC (.int 3)))) bI))))
 (fZ (oK (aG (r2 tE (rC (.int 1)) (r2 iJ (rC (.int 2)) (r2 lK (aM 0) (rC (.int 2))))) (aG (bY 2) (aG (bY 3) bI)))))))
def FZ:RS :=
 eE (tF (fU (r2 (vC λi j=>decide (i<j)) (aM 1) (r1 qS (aM 0)))) (fZ (r2 lK (r2 dIx (aM 0) (aM 1)) (r2 nM (r2 Dq (rC (.int 10)) (rC (.int 60))) (rC (.int 7))))) nP)
 (fZ (rC (.int 0)))
def ND (uP:FD) (uR:FD) (pU:FD):RS :=
 fZ (oK (aG (cQ uR (aG (r2 dIx (aM 0) (rC (.int 0))) (aG (bY 1) bI))) (aG (cQ uP (aG (cQ pU (aG (bY 1) bI)) (aG (r2 dIx (aM 0) (rC (.int 1))) bI))) bI)))
def NH:RS :=
 fZ (oK (aG (r1 zB (rC (.int 1))) (aG (oK (aG (rC (.int 1)) (aG (rC (.int 1)) bI))) (aG (r2 dIx (aM 1) (r2 nM (aM 0) (rC (.int 1)))) bI))))
def vQ (lE:FD) (F_joined:FD) (lF:FD):RS :=
 MW 2 (cQ F_joined (aG (bY 3) (aG (bY 5) (aG (cQ lE (aG (bY 6) (aG (cQ lF (aG (bY 3) (aG (bY 1) bI))) bI))) (aG (bY 1) bI)))))
def vR (lE:FD) (F_joined:FD) (lF:FD):RS :=
 eE (fF 4 (r2 Dp (bY 0) (bY 3)))
 (rQ (Cp ((λρ Q=>(Fo 0 (aM 4)) ρ λds=>Q (.lst ds))) ((λρ Q=>(Fo 1 (aM 4)) ρ λds=>Q (.lst ds)))) (qN 2 (fP (dH 5) (fP (dH 6) pG))) (vQ lE F_joined lF))
def CF (lE:FD) (F_joined:FD) (lF:FD):RS :=
 eE (IN 2 (tG bI))
 (eE (rQ (riL ((λρ Q=>(NB ((λρ Q=>(MZ (bY 0)) ρ λds=>Q (.lst ds)))) ρ λds=>Q (.lst ds)))) (dH 3) (vR lE F_joined lF))
 ((λE ρ=>(fZ (bY 2)) E (JB 2 ρ))))
def zR (Xc:FD):RS :=
 eE (ZU (bY 0) (qN 2 (fP (dH 1) (fP (dH 2) pG))))
 (eE (ZU (bY 2) (qN 3 (fP (dH 3) (fP (dH 4) (fP (dH 5) pG)))))
 (eE (fF 6 (r2 iJ (r2 dIx (aM 4) (rC (.int 1))) (r2 dIx (aM 5) (rC (.int 1)))))
 (eE (fF 7 (r2 iJ (r2 iJ (r2 dIx (aM 4) (rC (.int 0))) (r2 dIx (aM 5) (rC (.int 1)))) (r2 dIx (aM 1) (rC (.int 0)))))
 (eE (fF 8 (r2 iJ (r2 iJ (r2 dIx (aM 5) (rC (.int 0))) (r2 dIx (aM 4) (rC (.int 1)))) (r2 dIx (aM 1) (rC (.int 0)))))
 (fZ (cQ Xc (aG (r2 iJ (r2 dIx (aM 1) (rC (.int 0))) (aM 6)) (aG ((λρ Q=>(rE (riT (r2 dIx (aM 1) (rC (.int 1)))) 2 [3,6,7,8] (qN 2 (fP (dH 0) (fP (dH 1) pG))) (oK (aG (r2 nM (r2 iJ (r2 iJ (aM 2) (aM 0)) (aM 3)) (aM 4)) (aG (r2 nM (r2 iJ (r2 iJ (aM 2) (aM 1)) (aM 3)) (aM 5)) bI)))) ρ λds=>Q (.lst ds))) bI))))))))
def sU (PP:Int->Prop):RS :=
 tF (fU (r2 (AR false) (r2 lK (r1 qS (r2 Dp (bY 0) (bY 1))) (rC (.int 2))) (rC (.int 1)))) (ZW PP (bY 1)) nP
def xL (PP:Int->Prop):RS :=
 rQ (riL ((λρ Q=>(NB ((λρ Q=>(MZ (bY 0)) ρ λds=>Q (.lst ds)))) ρ λds=>Q (.lst ds)))) (dH 1) (sU PP)
def XB (PP:Int->Prop) (F_bits_by_number:FD) (F_refuse_odd:FDX) (F_twin_boxes:FD):RS :=
 eE (fF 3 (cQ F_bits_by_number (aG (bY 0) bI)))
 (eE (fF 4 (cQ F_bits_by_number (aG (bY 1) bI)))
 (eE (QO (MX F_refuse_odd PP (aG (bY 3) bI)))
 (eE (QO (MX F_refuse_odd PP (aG (bY 4) bI)))
 (fZ (r2 zA (cQ F_twin_boxes (aG (bY 3) (aG (bY 2) bI))) (cQ F_twin_boxes (aG (bY 4) (aG (bY 2) bI))))))))
def sS (Ww:FD):RS :=
 Ch 2 7 (r2 lK (r2 iF (cQ Ww (aG (bY 0) (aG (rC (.int 1)) bI))) (r2 nM (rC (.int 4)) (r2 iJ (rC (.int 3)) (aM 3)))) (rC (.int 2))) (fU (r2 Hb (aM 7) ((λρ Q=>(tG bI) ρ λds=>Q (.lst ds))))) (r2 lK (r2 iF (cQ Ww (aG (bY 0) (aG (rC (.int 1)) bI))) (r2 nM (rC (.int 8)) (r2 iJ (rC (.int 5)) (aM 3)))) (r1 qS (aM 7)))
def sT (Ww:FD) (Xa:FD) (Wy:FD):RS :=
 eE (fF 4 (cQ Ww (aG (bY 0) (aG (bY 3) bI))))
 (eE (fF 5 (r2 lK (r2 iF (aM 4) (rC (.int 2))) (r2 tE (r1 qS (aM 1)) (rC (.int 1)))))
 (eE (fF 6 (cQ Wy (aG (r2 dIx (aM 1) (aM 5)) (aG (r2 dIx (aM 1) (r2 nM (aM 5) (rC (.int 1)))) (aG (r2 (AR false) (r2 lK (aM 4) (rC (.int 2))) (rC (.int 0))) bI)))))
 (eE (QM 2 (r2 lK (aM 4) (rC (.int 2))) (oK (aG (bY 5) (aG (oK (aG (bY 6) (aG (cQ Xa (aG (r2 nM (r2 iF (aM 4) (rC (.int 8))) (r2 iJ (rC (.int 31)) (aM 3))) bI)) bI))) bI))))
 (QM 2 (r2 lK (aM 4) (rC (.int 2))) (oK (aG (bY 5) (aG (oK (aG (bY 6) (aG (cQ Xa (aG (r2 nM (r2 iF (aM 4) (rC (.int 64))) (r2 iJ (rC (.int 77)) (aM 3))) bI)) bI))) bI)))))))
def xJ (Ww:FD) (Xa:FD) (Wy:FD):RS :=
 eE (Kf 2)
 (eE (rQ (Rw (aG (rC (.int 2)) (aG (rCB Av (aG (r1 qS (aM 0)) (aG (rC (.int 7)) bI))) bI))) (dH 3) (sT Ww Xa Wy))
 (eE (rQ (XD (aG (r2 tE (r2 lK (cQ Ww (aG (bY 0) (aG (rC (.int 1)) bI))) (rC (.int 4))) (rC (.int 1))) bI)) (dH 3) (sS Ww))
 ((λE ρ=>(fZ (bY 2)) E (JB 2 ρ)))))
def vN:RS :=
 tF (fU (r2 (AR false) (r2 lK (r1 qS ((λρ Q=>(HV (riL (bY 3)) 1 [4] (dH 0) (fU (r2 dEq (r2 dIx (aM 0) (rC (.int 0))) (aM 1))) (bY 0)) ρ λds=>Q (.lst ds)))) (rC (.int 2))) (rC (.int 1)))) (fZ (bY 4)) nP
def qG:RS :=
 rQ (XD (aG (r2 tE (r1 qS (aM 2)) (rC (.int 1))) bI)) (dH 4) vN
def BY:RS :=
 eE (rQ (riL ((λρ Q=>(tG (aG (bY 0) (aG (bY 1) bI))) ρ λds=>Q (.lst ds)))) (dH 3) qG)
 (fZ (rC .non))
def zP (C:Addr) (oO:FDX):RS :=
 eE (fF 3 (rC .non))
 (eE (fF 4 (rC (.bl true)))
 (eE (WX 5 C "number" oO (aG (bY 0) (aG (bY 1) (aG (bY 2) bI))) (fF 4 (Rp (MY 5 C false) (Ck (MY 5 C true)))))
 (eE (tF (fU (bY 4)) (fZ (rC .non)) nP)
 (eE (WX 5 C "number" oO (aG (bY 0) (aG (bY 1) (aG (bY 2) bI))) (fF 3 (Ci 5 C "number")))
 (fZ (bY 3))))))
def BW (Xf:FD):RS :=
 fZ ((λρ Q=>(HW ((λρ Q=>(rE (riL (bY 0)) 1 [] (dH 0) (cQ Xf (aG (bY 0) bI))) ρ λds=>Q (.lst ds)))) ρ λds=>Q (.lst ds)))
def BU (Wv:FD) (Wy:FD) (Xb:FD):RS :=
 eE (tF (rOr (WV (fU (r1 (RK "tuple") (bY 0)))) (rOr (fU (r2 (AR true) (r1 qS (aM 0)) (rC (.int 3)))) (rOr (WV (fU (cQ Xb (aG (r2 dIx (aM 0) (rC (.int 0))) bI)))) (WV (fU (r1 (RK "list") (r2 dIx (aM 0) (rC (.int 2))))))))) (fZ (rC (.bl false))) nP)
 (eE (ZU (bY 0) (qN 3 (fP (dH 2) (fP (dH 3) (fP (dH 4) pG)))))
 (eE (tF (rOr (fU (r2 (AR true) (r1 qS (aM 4)) (rC (.int 2)))) (rOr (fU (r2 (vC λi j=>decide (i<j)) (aM 2) (rC (.int 0)))) (fU (r2 (vC λi j=>decide (j<=i)) (aM 2) (r2 tE (r1 qS (aM 1)) (rC (.int 1))))))) (fZ (rC (.bl false))) nP)
 (eE (fF 5 (r2 dIx (aM 1) (aM 2)))
 (eE (fF 6 (r2 dIx (aM 1) (r2 nM (aM 2) (rC (.int 1)))))
 (eE (tF (fU (r2 dNe (aM 3) (cQ Wv (aG (r2 tE (r2 iJ (r2 dIx (aM 6) (rC (.int 0))) (r2 dIx (aM 5) (rC (.int 1)))) (r2 iJ (r2 dIx (aM 5) (rC (.int 0))) (r2 dIx (aM 6) (rC (.int 1))))) (aG (r2 iJ (r2 dIx (aM 5) (rC (.int 1))) (r2 dIx (aM 6) (rC (.int 1)))) bI))))) (fZ (rC (.bl false))) nP)
 (eE (fF 7 ((λρ Q=>(tG (aG (cQ Wy (aG (bY 5) (aG (bY 6) (aG (rC (.bl true)) bI)))) (aG (cQ Wy (aG (bY 5) (aG (bY 6) (aG (rC (.bl false)) bI)))) bI))) ρ λds=>Q (.lst ds))))
 (fZ (r2 GX ((λρ Q=>(HW ((λρ Q=>(rE (riL (bY 4)) 1 [] (dH 0) (r2 dIx (aM 0) (rC (.int 0)))) ρ λds=>Q (.lst ds)))) ρ λds=>Q (.lst ds))) ((λρ Q=>(HW (aM 7)) ρ λds=>Q (.lst ds)))))))))))
def rF (Xd:FD):RS :=
 eE (tF (WV (fU (cQ Xd (aG (bY 5) (aG (bY 3) bI))))) (fZ (rC (.bl false))) nP)
 (fF 4 (r2 zA (aM 4) (r2 dIx (aM 5) (rC (.int 2)))))
def vO (Xd:FD) (Xe:FD):RS :=
 eE (tF (rOr (WV (fU (r1 (RK "list") (bY 0)))) (fU (r2 (AR true) (r2 iJ (rC (.int 2)) (r1 qS (aM 0))) (r2 nM (r1 qS (aM 1)) (r1 qS (aM 2)))))) (fZ (rC (.bl false))) nP)
 (eE (fF 4 ((λρ Q=>(tG bI) ρ λds=>Q (.lst ds))))
 (eE (rQ (riL (bY 0)) (dH 5) (rF Xd))
 (fZ (r2 GX (cQ Xe (aG (bY 4) bI)) (cQ Xe (aG ((λρ Q=>(rE (riL (r2 zA (aM 1) (aM 2))) 2 [] (qN 2 (fP (dH 0) (fP (dH 1) pG))) (bY 1)) ρ λds=>Q (.lst ds))) bI))))))
def NE (Ww:FD) (Xg:FD) (Xj:FD) (Xh:FD) (Xk:FD) (Xi:FD) (Xb:FD) (oO:FDX):RS :=
 eE (fF 1 (cQ Xh (aG (r2 iF (cQ Ww (aG (bY 0) (aG (rC (.int 0)) bI))) (rC (.int 4))) (aG (r2 nM (rC (.int 2)) (r2 lK (cQ Ww (aG (bY 0) (aG (rC (.int 0)) bI))) (rC (.int 4)))) bI))))
 (eE (ZU (cQ Xg (aG (bY 0) (aG (bY 1) bI))) (Kp 2 (fP (dH 2) (fP (dH 3) pG))))
 (eE (fF 4 ((λρ Q=>(tG (aG (r1 AD (aM 2)) (aG (r1 AD (aM 3)) (aG (r1 AD (aM 1)) bI)))) ρ λds=>Q (.lst ds))))
 (eE (tF (fU (r2 dNe (Kg (cQ Ww (aG (bY 0) (aG (rC (.int 1)) bI)))) (cQ Ww (aG (bY 0) (aG (rC (.int 1)) bI))))) (fZ (rC (.bl false))) nP)
 (eE (fF 5 (cQ Xk (aG (bY 2) (aG (bY 3) (aG (bY 1) bI)))))
 (eE (tF (fU (r2 (Gr true) (aM 5) (rC .non))) (eE (fF 6 (cQ Xj (aG (r2 dIx (aM 4) (rC (.int 0))) (aG (r2 dIx (aM 4) (rC (.int 1))) (aG (r2 dIx (aM 4) (rC (.int 2))) bI)))))
 (fZ (IM (cQ Xb (aG (bY 6) bI)) (IM (r2 GX (aM 6) (aM 5)) (r2 GX (aM 4) ((λρ Q=>(tG (aG (bY 2) (aG (bY 3) (aG (bY 1) bI)))) ρ λds=>Q (.lst ds)))))))) nP)
 (eE (fF 7 (cQ (λds Q=>oO ds Q λ_=>False) (aG (r2 dIx (aM 4) (rC (.int 0))) (aG (r2 dIx (aM 4) (rC (.int 1))) (aG (r2 dIx (aM 4) (rC (.int 2))) bI)))))
 (fZ (IM (cQ Xi (aG (bY 7) (aG (bY 2) (aG (bY 3) (aG (bY 1) bI))))) (r2 GX (aM 4) ((λρ Q=>(tG (aG (bY 2) (aG (bY 3) (aG (bY 1) bI)))) ρ λds=>Q (.lst ds))))))))))))
theorem Sq {α:Type} (x:α) (xs:List α):atI (x::xs) 0=some x:=by
 unfold atI ixN;simp
theorem Sr {α:Type} (x y:α) (xs:List α):atI (x::y::xs) 1=some y:=by
 unfold atI ixN
 rw[if_pos (by decide),if_pos (by simp only[bJ];omega)];rfl
theorem Ss {α:Type} (x y z:α) (xs:List α):atI (x::y::z::xs) 2=some z:=by
 unfold atI ixN
 rw[if_pos (by decide),if_pos (by simp only[bJ];omega)];rfl
theorem YD {α:Type} {xs:List α} {i:Int} {j:Nat} {x:α} (h:i=(j:Int)) (e:xs[j]? = some x):atI xs i=some x:=by
 subst h;exact JP e
theorem Gp {x y:D} {Q:D->Prop}:dEq x y Q=(match eqF 6 x y with | some b=>Q (.bl b) | none=>False):=rfl
theorem BL.const {n:Nat} {i:Int} (h:i.natAbs<2 ^ n:=by decide):BL n i:=h
theorem ZM {i j:Int} (h:0<=j/\j<=1000000/\i.natAbs<2 ^ 64:=by decide):PowOk i j:=⟨h⟩
theorem lM {j:Int} (h:j≠0:=by decide):ModOk j:=⟨h⟩
theorem Bq {n:Nat} (h:n<=1000):n<=sizeLine:=dQ h (by decide)
theorem FH {x:D} {xs:List D} {Q:D->Prop}:dIx (.tup (x::xs)) (.int 0) Q=Q x:=by simp only[dIx,Sq]
theorem UA {x y:D} {xs:List D} {Q:D->Prop}:dIx (.tup (x::y::xs)) (.int 1) Q=Q y:=by simp only[dIx,Sr]
theorem UB {x y z:D} {xs:List D} {Q:D->Prop}:dIx (.tup (x::y::z::xs)) (.int 2) Q=Q z:=by simp only[dIx,Ss]
theorem wN {xs:List D} {i:Int} {Q:D->Prop} {x:D} (e:atI xs i=some x) (h:Q x):dIx (.lst xs) (.int i) Q:=by simp only[dIx,e];exact h
theorem Au {xs:List D} {i:Int} {Q:D->Prop} (h0:0<=i) (h1:i<xs.length) (h:∀x,x∈xs->Q x):dIx (.lst xs) (.int i) Q:=by
 have hj:i.toNat<xs.length:=by omega
 exact wN (YD (j:=i.toNat) (by omega) (aC hj)) (h _ (jF hj))
theorem pC {xs:List D} {k:Nat} {x:D} {Q:D->Prop} (e:xs[k]? = some x):dIx (.lst xs) (.int (k:Int)) Q=Q x:=by simp only[dIx,JP e]
theorem KW {a0:D} {r:List D} {Q:D->Prop}:dIx (.lst (a0::r)) (.int 0) Q=Q a0:=pC (k:=0) rfl
theorem KY {a0 a1:D} {r:List D} {Q:D->Prop}:dIx (.lst (a0::a1::r)) (.int 1) Q=Q a1:=pC (k:=1) rfl
theorem KZ {a0 a1 a2:D} {r:List D} {Q:D->Prop}:dIx (.lst (a0::a1::a2::r)) (.int 2) Q=Q a2:=pC (k:=2) rfl
theorem Gs {a0 a1 a2 a3:D} {r:List D} {Q:D->Prop}:dIx (.lst (a0::a1::a2::a3::r)) (.int 3) Q=Q a3:=pC (k:=3) rfl
theorem Gu {a0 a1 a2 a3 a4:D} {r:List D} {Q:D->Prop}:dIx (.lst (a0::a1::a2::a3::a4::r)) (.int 4) Q=Q a4:=pC (k:=4) rfl
theorem Gv {a0 a1 a2 a3 a4 a5:D} {r:List D} {Q:D->Prop}:dIx (.lst (a0::a1::a2::a3::a4::a5::r)) (.int 5) Q=Q a5:=pC (k:=5) rfl
theorem Gw {a0 a1 a2 a3 a4 a5 a6:D} {r:List D} {Q:D->Prop}:dIx (.lst (a0::a1::a2::a3::a4::a5::a6::r)) (.int 6) Q=Q a6:=pC (k:=6) rfl
theorem Gx {a0 a1 a2 a3 a4 a5 a6 a7:D} {r:List D} {Q:D->Prop}:dIx (.lst (a0::a1::a2::a3::a4::a5::a6::a7::r)) (.int 7) Q=Q a7:=pC (k:=7) rfl
theorem Gy {a0 a1 a2 a3 a4 a5 a6 a7 a8:D} {r:List D} {Q:D->Prop}:dIx (.lst (a0::a1::a2::a3::a4::a5::a6::a7::a8::r)) (.int 8) Q=Q a8:=pC (k:=8) rfl
theorem Gz {a0 a1 a2 a3 a4 a5 a6 a7 a8 a9:D} {r:List D} {Q:D->Prop}:dIx (.lst (a0::a1::a2::a3::a4::a5::a6::a7::a8::a9::r)) (.int 9) Q=Q a9:=pC (k:=9) rfl
theorem Dm {a0 a1 a2 a3 a4 a5 a6 a7 a8 a9 a10:D} {r:List D} {Q:D->Prop}:dIx (.lst (a0::a1::a2::a3::a4::a5::a6::a7::a8::a9::a10::r)) (.int 10) Q=Q a10:=pC (k:=10) rfl
theorem Do {a0 a1 a2 a3 a4 a5 a6 a7 a8 a9 a10 a11:D} {r:List D} {Q:D->Prop}:dIx (.lst (a0::a1::a2::a3::a4::a5::a6::a7::a8::a9::a10::a11::r)) (.int 11) Q=Q a11:=pC (k:=11) rfl
def jJ (n:Nat) (ds:List D):En:=ds.map (λd=>some (.d d))++dG n none
theorem cS {N:List Str} {ds:List D} (n:Nat) (h:N.length=ds.length+n):dO N ds=jJ n ds:=by
 unfold dO jJ;rw[h,Nat.add_sub_cancel_left]
theorem Qd {i:Int}:YQ "int" (.int i)=some true:=rfl
theorem Qb {i:Int}:YQ "bool" (.int i)=some false:=rfl
theorem Qc {i:Bool}:YQ "int" (.bl i)=some true:=rfl
theorem Qa {i:Bool}:YQ "bool" (.bl i)=some true:=rfl
theorem Qe {xs:List D}:YQ "tuple" (.tup xs)=some true:=rfl
theorem Ud {α:Type} {x:α}:dG 0 x=[]:=rfl
theorem Rt {α:Type} {x:α}:dG 1 x=[x]:=rfl
theorem Km {α:Type} {x:α}:dG 2 x=[x,x]:=rfl
theorem Kn {α:Type} {x:α}:dG 3 x=[x,x,x]:=rfl
theorem Ru {α:Type} {x:α}:dG 4 x=[x,x,x,x]:=rfl
theorem Rv {α:Type} {x:α}:dG 5 x=[x,x,x,x,x]:=rfl
theorem Nx {α:Type} {x:α}:dG 6 x=[x,x,x,x,x,x]:=rfl
theorem Uh {α:Type} {x:α}:dG 7 x=[x,x,x,x,x,x,x]:=rfl
theorem Ui {α:Type} {x:α}:dG 8 x=[x,x,x,x,x,x,x,x]:=rfl
theorem We {α:Type} {x:α}:dG 9 x=[x,x,x,x,x,x,x,x,x]:=rfl
theorem Ue {α:Type} {x:α}:dG 10 x=[x,x,x,x,x,x,x,x,x,x]:=rfl
theorem Uf {α:Type} {x:α}:dG 11 x=[x,x,x,x,x,x,x,x,x,x,x]:=rfl
theorem Ug {α:Type} {x:α}:dG 12 x=[x,x,x,x,x,x,x,x,x,x,x,x]:=rfl
theorem sz2:Sz (0+1+1):=⟨by decide⟩
theorem sz3:Sz (0+1+1+1):=⟨by decide⟩
theorem sz4:Sz (0+1+1+1+1):=⟨by decide⟩
theorem sz1:Sz (0+1):=⟨by decide⟩
theorem sz0:Sz 0:=⟨by decide⟩
local macro_rules | `(tactic| walk_at "rd")=>do
 let a <- ("S.fz Kh Ub Sv eE nP fZ QO tF fF IN Rq ZU dH qN fP pG bY aM rC r2 r1 fU Ke rOr WV IM Rp Ck rIf bI aG oK tG cQ rCB FY WW Uc rQ Wf riL riT XD Rw Rx rE FF GW Di JB MW Cl Rs Wc Aa Ki zA AD LA Vj dNe ZV Uj Cp nM tE iJ iF lK Dq zB vC AR Gr Gp VE FH UA UB KW KY KZ Gs Gu Gv Gw Gx Gy Gz Dm Do YG Vg Su Av qS RK Qd Qb Qc Qa Qe S.val jJ Ud Rt Km Kn Ru Rv Nx Uh Ui We Ue Uf Ug aU cX cD cO bJ dU aH aI bC bH dL AV Bool.or_true NZ Bool.true_or eS lW if_true if_false aP sz0 sz1 sz2 sz3 sz4 true_and decide_eq_true_eq Int.reduceToNat Int.reducePow Int.reduceMul Int.reduceSub Int.reduceAdd Int.reduceNeg".splitOn " ").toArray.mapM λx=>`(Lean.Parser.Tactic.simpLemma| $(Lean.mkIdent x.toName):term)
 `(tactic| simp only[$a,*])
local macro_rules | `(tactic| walk_at "side")=>`(tactic| first | exact ZM | exact lM | exact (BL.const (n:=9000) (by decide)).divOk (by decide) | exact (BL.const (n:=300) (by decide)).mulOk (BL.const (n:=300) (by decide)))
local macro_rules | `(tactic| walk_at "sides")=>`(tactic| repeat (refine And.intro (by walk_at "side") ?_))
theorem EZ (i:Int):(if i<0 then -i else i)=((i.natAbs:Nat):Int):=by split <;> omega
theorem PV (x y:Nat):((x:Nat):Int).fmod (y:Nat)=((x % y:Nat):Int):=by
 rw[lZ _ (Int.natCast_nonneg y)];exact (Int.natCast_emod x y).symm
def AW:FD:=λds Q=>∃a b:Int,ds=[.int a,.int b]/\Q (.int (cF a b:Nat))
theorem Br:∀ds Q,AW ds Q->ds.length=2:=by rintro ds Q ⟨a,b,rfl,_⟩;rfl
theorem HH (E:DEnds):∀(y x:Nat),E.nx [some (.d (.int (Nat.gcd x y:Nat))),some (.d (.int (0:Nat)))] ->
  DU (fU (r2 (vC λi j=>decide (j<i)) (aM 1) (rC (.int 0)))) oC E [some (.d (.int (x:Nat))),some (.d (.int (y:Nat)))]:=by
 intro y
 induction y using xD with
 | ind y ih =>
  intro x h
  cases sH y with
  | inl hy =>
   subst hy
   refine⟨1,?_⟩
   unfold pJ
   walk_at "rd"
   rw[if_neg (by decide)]
   rw[CW] at h
   exact h
  | inr hy =>
   have h2:=ih (x % y) (kQ x hy) y (by
    rw[wD y,<-Nat.gcd_rec,wD];exact h)
   obtain⟨n,hn⟩:=h2
   refine⟨n+1,?_⟩
   unfold pJ oC
   walk_at "rd"
   rw[if_pos (by omega)]
   refine⟨⟨by omega⟩,?_⟩
   rw[PV]
   exact hn
theorem HP:∀ds Q,AW ds Q->xI { nx:=λ_=>Q .non,rt:=Q } (dO ["_law_one","_law_other"] ds):=by
 rintro ds Q ⟨a,b,rfl,q⟩
 rw[cS 0 rfl]
 unfold xI
 walk_at "rd"
 rw[EZ,EZ]
 refine HH _ _ _ ?_
 walk_at "rd"
 exact q
theorem AS (E:DEnds) (u v:Option S):∀(y x:Nat) (r:Option S),(∀r,E.nx [u,v,some (.d (.int (Nat.gcd x y:Nat))),some (.d (.int (0:Nat))),r]) ->
  DU (fU (r2 (AR true) (aM 3) (rC (.int 0)))) mK E [u,v,some (.d (.int (x:Nat))),some (.d (.int (y:Nat))),r]:=by
 intro y
 induction y using xD with
 | ind y ih =>
  intro x r h
  cases sH y with
  | inl hy =>
   subst hy
   refine⟨1,?_⟩
   unfold pJ
   walk_at "rd"
   rw[if_neg (by simp)]
   rw[CW] at h
   exact h r
  | inr hy =>
   obtain⟨n,hn⟩:=ih (x % y) (kQ x hy) y (some (.d (.int ((x % y:Nat))))) (by
    rw[wD y,<-Nat.gcd_rec,wD];exact h)
   refine⟨n+1,?_⟩
   unfold pJ mK
   walk_at "rd"
   rw[if_pos (by simp;omega)]
   refine⟨⟨by omega⟩,?_⟩
   rw[PV]
   exact hn
theorem AT:∀ds Q,AW ds Q->tW { nx:=λ_=>Q .non,rt:=Q } (dO ["one","other","larger","smaller","rest"] ds):=by
 rintro ds Q ⟨a,b,rfl,q⟩
 rw[cS 3 rfl]
 unfold tW
 walk_at "rd"
 rw[EZ,EZ]
 refine AS _ _ _ _ _ _ λr=>?_
 walk_at "rd"
 exact q
abbrev fr (a b:Int):D:=.tup [.int a,.int b]
theorem JU {a b:Int} (h:b≠0):0<(cF a b:Int):=by
 have:0<cF a b:=Int.gcd_pos_of_ne_zero_right a h
 omega
theorem BL.gcd {n:Nat} {a b:Int} (hb:b≠0) (h:BL n b):BL n (cF a b:Int):=by
 refine h.le ?_
 rw[Int.natAbs_natCast]
 exact uD (by omega) (Int.gcd_dvd_natAbs_right a b)
structure Low (a b p q:Int):Prop where
 pos:0<q
 cop:cF p q=1
 worth:p*b=a*q
 lea:p.natAbs<=a.natAbs
 leb:q.natAbs<=b.natAbs
theorem SL {a b:Int} (hb:0<b):Low a b (a.fdiv (cF a b:Nat)) (b.fdiv (cF a b:Nat)):=by
 have hg:0<(cF a b:Int):=JU (by omega)
 have ea:((cF a b:Nat):Int)∣a:=kG ..
 have eb:((cF a b:Nat):Int)∣b:=jS ..
 rw[cJ _ (by omega),cJ _ (by omega)]
 have e1:a / (cF a b:Int)*(cF a b:Int)=a:=AL ea
 have e2:b / (cF a b:Int)*(cF a b:Int)=b:=AL eb
 have hc:cF (a / (cF a b:Int)) (b / (cF a b:Int))=1:=sX (by omega)
 generalize (cF a b:Int)=g at *
 generalize a / g=p at *
 generalize b / g=q at *
 subst e1 e2
 refine⟨?_,hc,by rw[kD,mL q g],?_,?_⟩
 ·exact iK hb (by omega)
 ·rw[mB];exact uY _ (by omega)
 ·rw[mB];exact uY _ (by omega)
theorem Mw {a b:Int} (hb:b<0):Low a b (a.fdiv (-(cF a b:Nat))) (b.fdiv (-(cF a b:Nat))):=by
 have h:=SL (a:=-a) (b:=-b) (by omega)
 have e:cF (-a) (-b)=cF a b:=by rw[Int.neg_gcd,Int.gcd_neg]
 rw[e] at h
 have f:∀x g:Int,(-x).fdiv g=x.fdiv (-g):=λx g=>by
  have:=Int.neg_fdiv_neg (-x) g
  rw[Int.neg_neg] at this
  exact this.symm
 rw[f,f] at h
 refine⟨h.pos,h.cop,?_,by have:=h.lea;omega,by have:=h.leb;omega⟩
 have w:=h.worth
 rw[Int.mul_neg,Int.neg_mul] at w
 exact Int.neg_inj.mp w
def rJ:FD:=λds Q=>∃a b:Int,ds=[.int a,.int b]/\(b≠0/\BL 9000 b)/\∀p q,Low a b p q->Q (fr p q)
theorem Eo:∀ds Q,rJ ds Q->ds.length=2:=by rintro ds Q ⟨a,b,rfl,_⟩;rfl
theorem ZQ:∀ds Q,rJ ds Q->XA AW { nx:=λ_=>Q .non,rt:=Q } (dO ["top","bottom","divisor"] ds):=by
 rintro ds Q ⟨a,b,rfl,⟨h0,hb⟩,q⟩
 rw[cS 1 rfl]
 unfold XA
 walk_at "rd"
 rw[if_neg h0]
 refine⟨a,b,rfl,?_⟩
 have hg:=JU (a:=a) h0
 have bg:=BL.gcd (a:=a) h0 hb
 walk_at "rd"
 split
 ·rename_i hlt
  refine⟨bg.neg.divOk (by omega),bg.neg.divOk (by omega),q _ _ (Mw hlt)⟩
 ·rename_i hlt
  refine⟨bg.divOk (by omega),bg.divOk (by omega),q _ _ (SL (by omega))⟩
def Gc (f:Int->Int->Int->Int->Int):FD:=λds Q=>∃a b c d:Int,ds=[fr a b,fr c d]/\(0<b/\0<d)/\(BL 4000 a/\BL 4000 b/\BL 4000 c/\BL 4000 d)/\∀p q,Low (f a b c d) (b*d) p q->Q (fr p q)
theorem VT {f:Int->Int->Int->Int->Int}:∀ds Q,Gc f ds Q->ds.length=2:=by rintro ds Q ⟨a,b,c,d,rfl,_⟩;rfl
abbrev GF:FD:=Gc λa b c d=>a*d+c*b
abbrev EC:FD:=Gc λa b c d=>a*d-c*b
theorem Fk:∀ds Q,GF ds Q->Cm rJ { nx:=λ_=>Q .non,rt:=Q } (dO ["one","other"] ds):=by
 rintro ds Q ⟨a,b,c,d,rfl,⟨h1,h2⟩,⟨ba,bb,bc,bd⟩,q⟩
 rw[cS 0 rfl]
 unfold Cm
 walk_at "rd"
 refine⟨ba.mulOk bd,bc.mulOk bb,bb.mulOk bd,_,_,rfl,⟨vY (bZ h1 h2),(bb.mul bd).mono (by decide)⟩,q⟩
theorem ZO:∀ds Q,EC ds Q->WZ rJ { nx:=λ_=>Q .non,rt:=Q } (dO ["one","other"] ds):=by
 rintro ds Q ⟨a,b,c,d,rfl,⟨h1,h2⟩,⟨ba,bb,bc,bd⟩,q⟩
 rw[cS 0 rfl]
 unfold WZ
 walk_at "rd"
 refine⟨ba.mulOk bd,bc.mulOk bb,bb.mulOk bd,_,_,rfl,⟨vY (bZ h1 h2),(bb.mul bd).mono (by decide)⟩,q⟩
def OZ:FD:=λds Q=>∃a b:Int,ds=[.int a,.int b]/\(0<b/\BL 9000 b)/\∀p q,Low a b p q->Q (fr p q)
theorem Mr:∀ds Q,OZ ds Q->ds.length=2:=by rintro ds Q ⟨a,b,rfl,_⟩;rfl
def EG:FD:=λds Q=>∃a:Int,ds=[.int a]/\Q (.bl true)
theorem Er:∀ds Q,EG ds Q->ds.length=1:=by rintro ds Q ⟨a,rfl,_⟩;rfl
theorem MV:∀ds Q,EG ds Q->CB { nx:=λ_=>Q .non,rt:=Q } (dO ["_law_found"] ds):=by
 rintro ds Q ⟨a,rfl,q⟩
 rw[cS 0 rfl]
 unfold CB
 walk_at "rd"
 exact q
theorem eU {a b:Int} (h:0<b):0<=a.fmod b/\a.fmod b<b:=⟨Int.fmod_nonneg_of_pos a h,Int.fmod_lt_of_pos a h⟩
theorem Bk {a b:Int} (h:0<=a) (hb:0<b):0<=a.fdiv b/\a.fdiv b<=a:=by
 rw[cJ _ (by omega)]
 exact⟨Int.ediv_nonneg h (by omega),Int.ediv_le_self _ h⟩
theorem Mo:∀ds Q,Cz 63 ds Q->ds.length=1:=by rintro ds Q ⟨a,rfl,_⟩;rfl
theorem nW {g:RG} {t:RS} {E:DEnds} (J:List D->En->Prop)
  (step:∀x xs ρ,J (x::xs) ρ->∀F:DEnds,F.rt=E.rt->F.bk=E.nx->(∀ρ',J xs ρ'->F.nx ρ')->(∀ρ',J xs ρ'->F.ct ρ')->g x ρ λρ1=>t F ρ1) (last:∀ρ,J [] ρ->E.nx ρ):∀xs ρ,J xs ρ->UY g t xs E ρ
 | [],ρ,h=>last ρ h
 | x::xs,ρ,h=>step x xs ρ h _ rfl rfl (λρ' h'=>nW J step last xs ρ' h') λρ' h'=>nW J step last xs ρ' h'
theorem TX {α:Type} {g:RG} {te:RE} (R:En->Prop) (enc f:α->D):∀(src:List α) {Q:List D->Prop},(∀a∈src,∀ρ,R ρ->∀K:En->D->Prop,(∀ρ1,R ρ1->K ρ1 (f a))->g (enc a) ρ λρ1=>te ρ1 λd=>K ρ1 d) ->
  ∀(ρ:En) (acc:List D),R ρ->Q (acc++src.map f)->FF g te (src.map enc) ρ acc Q
 | [],Q,_,ρ,acc,_,q=>by
  show Q acc
  simpa using q
 | a::src,Q,step,ρ,acc,h,q=>by
  show g (enc a) ρ λρ'=>te ρ' λd=>FF g te (src.map enc) ρ' (acc++[d]) Q
  refine step a cI ρ h (λρ1 d=>FF g te (src.map enc) ρ1 (acc++[d]) Q) λρ1 h1=>?_
  exact TX R enc f src (λb hb=>step b (bD _ hb)) ρ1 _ h1 (by simpa using q)
theorem sM {α:Type} {g:RG} {te:RE} (R:En->Prop) (enc f:α->D) (src:List α) {Q:List D->Prop} {ρ:En} (step:∀a∈src,∀ρ,R ρ->∀K:En->D->Prop,(∀ρ1,R ρ1->K ρ1 (f a))->g (enc a) ρ λρ1=>te ρ1 λd=>K ρ1 d)
  (h:R ρ) (q:Q (src.map f)):FF g te (src.map enc) ρ [] Q:=TX R enc f src step ρ [] h (by simpa using q)
abbrev il (ns:List Int):D:=.lst (ns.map .int)
abbrev pt (p:Int × Int):D:=.tup [.int p.1,.int p.2]
abbrev pts (ps:List (Int × Int)):D:=.lst (ps.map pt)
theorem oH {n:Nat} (h:n<=100000):Sz n:=⟨dQ h (by decide)⟩
abbrev big:Int:=1000000000000000000000000000000000000000000000000000000000007
structure Drawn (m:Nat) (xs:List Int):Prop where
 len:xs.length=m
 lo:∀x∈xs,0<=x
 hi:∀x∈xs,x<big
theorem ZZ {lo:Int} {n:Nat}:(qW lo n).length=n:=by simp[qW]
theorem TL {α:Type} {xs:List α} {x:α} (h:xs.getLast? = some x):atI xs (-1)=some x:=by
 have hne:xs≠[]:=λe=>by rw[e] at h;cases h
 have hl:0<xs.length:=nD.mpr hne
 unfold atI ixN
 rw[if_neg (by decide),if_pos (by omega)]
 rw[List.getLast?_eq_getElem?] at h
 show xs[((-1:Int)+(xs.length:Int)).toNat]? = some x
 rw[<-h];congr 1;omega
theorem cP {t u:RS} {E:DEnds} {ρ:En} (I:En->Prop) (h1:∀K:En->Prop,(∀ρ',I ρ'->K ρ')->t { E with nx:=K } ρ) (h2:∀ρ',I ρ'->u E ρ'):eE t u E ρ:=h1 (u E) h2
def La:FD:=λds Q=>∃n:Int,ds=[.int n]/\∀s,1<=s->s<=1000000000->Q (.int s)
theorem Fj:∀ds Q,La ds Q->xK { nx:=λ_=>Q .non,rt:=Q } (dO ["_law_number"] ds):=by
 rintro ds Q ⟨n,rfl,q⟩
 rw[cS 0 rfl]
 unfold xK
 walk_at "rd"
 walk_at "sides"
 obtain⟨a0,a1⟩:=eU (a:=n) (b:=3) (by decide)
 obtain⟨b0,b1⟩:=eU (a:=n.fdiv 3) (b:=12) (by decide)
 obtain⟨c0,c1⟩:=eU (a:=n.fdiv 3) (b:=1000000000) (by decide)
 refine Au a0 (by simpa using a1) λx hx=>?_
 simp only[aL,eB,or_false] at hx
 rcases hx with rfl | rfl | rfl
 ·exact q _ (by decide) (by decide)
 ·exact q _ (by omega) (by omega)
 ·exact q _ (by omega) (by omega)
theorem FW:∀ds Q,OZ ds Q->vL AW { nx:=λ_=>Q .non,rt:=Q } (dO ["_law_top","_law_bottom","_law_most"] ds):=by
 rintro ds Q ⟨a,b,rfl,⟨h0,hb⟩,q⟩
 rw[cS 1 rfl]
 unfold vL
 walk_at "rd"
 refine⟨a,b,rfl,?_⟩
 have hg:=JU (a:=a) (b:=b) (by omega)
 have bg:=BL.gcd (a:=a) (b:=b) (by omega) hb
 walk_at "rd"
 exact⟨bg.divOk (by omega),bg.divOk (by omega),q _ _ (SL h0)⟩
structure DueOf (share:Int) (cs:List (Int × Int)) (m sh:Int) (ds:List (Int × Int)) (j:Nat):Prop where
 mpos:0<m
 sh_eq:share=m*sh
 cs_eq:cs=ds.map λz=>(m*z.1,m*z.2)
 j_lt:j<ds.length
 least:∀z∈ds,∀w,ds[j]? = some w->HT.lexLt [z.1,z.2] [w.1,w.2]=false
 cop:∀d:Nat,(d:Int)∣sh->(∀z∈ds,(d:Int)∣z.1/\(d:Int)∣z.2)->d=1
abbrev turned {α:Type} (j:Nat) (ds:List α):List α:=ds.drop j++ds.take j
def OX:FD:=λds Q=>∃(share:Int) (cs:List (Int × Int)),ds=[.int share,pts cs]/\(0<share/\BL 100 share)/\(cs≠[]/\cs.length<=100) /\
 ∀m sh zs j,DueOf share cs m sh zs j->Q (.tup [.int sh,.tup ((turned j zs).map pt)])
theorem Mn:∀ds Q,OX ds Q->ds.length=2:=by rintro ds Q ⟨_,_,rfl,_⟩;rfl
structure GcdOf (share:Int) (zs:List (Int × Int)) (g:Nat):Prop where
 pos:0<g
 sh:(g:Int)∣share
 all:∀z∈zs,(g:Int)∣z.1/\(g:Int)∣z.2
 most:∀d:Nat,(d:Int)∣share->(∀z∈zs,(d:Int)∣z.1/\(d:Int)∣z.2)->d∣g
theorem GcdOf.bl {share:Int} {zs:List (Int × Int)} {g:Nat} (h:GcdOf share zs g) (hs:0<share) {n:Nat} (b:BL n share):BL n (g:Int):=by
 refine b.le ?_
 have:=nF hs h.sh
 omega
theorem GcdOf.snoc {share:Int} {zs:List (Int × Int)} {g:Nat} (h:GcdOf share zs g) (z:Int × Int):GcdOf share (zs++[z]) (cF (cF g z.1:Nat) z.2):=by
 have d1:((cF (cF g z.1:Nat) z.2:Nat):Int)∣((cF g z.1:Nat):Int):=kG ..
 have d2:((cF g z.1:Nat):Int)∣(g:Int):=kG ..
 have d3:((cF g z.1:Nat):Int)∣z.1:=jS ..
 have d4:((cF (cF g z.1:Nat) z.2:Nat):Int)∣z.2:=jS ..
 have dg:=lG d1 d2
 refine⟨?_,lG dg h.sh,λw hw=>?_,λd e1 e2=>?_⟩
 ·have:=h.pos
  have h1:0<cF g z.1:=iY _ (by omega)
  exact iY _ (by omega)
 ·rcases cH.mp hw with h' | h'
  ·obtain⟨a,b⟩:=h.all w h'
   exact⟨lG dg a,lG dg b⟩
  ·rw[cG.mp h']
   exact⟨lG d1 d3,d4⟩
 ·obtain⟨a,b⟩:=e2 z (by simp)
  have:=h.most d e1 λw hw=>e2 w (eP _ hw)
  have h1:(d:Int)∣((cF g z.1:Nat):Int):=IT (by exact_mod_cast this) a
  exact_mod_cast IT h1 b
theorem Dl {xs:List D} {j:Nat} (h:j<=xs.length):cutD xs (some (j:Int)) none=xs.drop j:=by
 unfold cutD
 rw[HT.sIx_nat,HT.sIx_none,IV h,iZ (by simp)]
theorem Li {xs:List D} {j:Nat} (h:j<=xs.length):cutD xs none (some (j:Int))=xs.take j:=by
 unfold cutD
 rw[HT.sIx_nat,HT.sIx_none,IV h];simp
theorem YL (z w:Int × Int):eqF 6 (pt z) (pt w)=some (decide (z=w)):=by
 obtain⟨a,b⟩:=z
 obtain⟨c,d⟩:=w
 simp only[eqF,eqL]
 congr 1
 by_cases h1:a=c <;> by_cases h2:b=d <;> simp[h1,h2]
theorem SY:∀ds Q,OX ds Q->IP AW { nx:=λ_=>Q .non,rt:=Q } (dO ["_law_share_here","_law_ring_here","_law_most","_law_x","_law_y","_law_corners","_law_at"] ds):=by
 rintro ds Q ⟨share,cs,rfl,⟨hs,bs⟩,⟨hne,hlen⟩,q⟩
 rw[cS 5 rfl]
 unfold IP
 simp only[jJ,Rv,aU,cX,cD,cO]
 refine cP (λρ=>ρ=[some (.d (.int share)),some (.d (pts cs)),some (.d (.int share)),none,none,none,none]) (λK hK=>?_) ?_
 ·walk_at "rd"
  exact hK _ rfl
 rintro ρ rfl
 refine cP (λρ=>∃(g:Nat) (x y:Option S),GcdOf share cs g/\ρ=[some (.d (.int share)),some (.d (pts cs)),some (.d (.int g)),x,y,none,none]) (λK hK=>?_) ?_
 ·walk_at "rd"
  refine nW (λxs ρ=>∃(done rest:List (Int × Int)) (g:Nat) (x y:Option S),cs=done++rest/\xs=rest.map pt/\GcdOf share done g/\ρ=[some (.d (.int share)),some (.d (pts cs)),some (.d (.int g)),x,y,none,none]) ?_ ?_ _ _ ⟨[],cs,share.toNat,none,none,rfl,rfl,⟨by omega,?_,by simp,λd e1 _=>?_⟩,?_⟩
  ·rintro x xs ρ ⟨done,rest,g,u,v,e,ex,hg,rfl⟩ F _ _ hn _
   cases rest with
   | nil=>cases ex
   | cons z rest =>
    cases ex
    unfold zO
    walk_at "rd"
    refine⟨_,_,rfl,_,_,rfl,?_⟩
    exact hn _ ⟨done++[z],rest,_,_,_,by simpa using e,rfl,hg.snoc z,rfl⟩
  ·rintro ρ ⟨done,rest,g,u,v,e,ex,hg,rfl⟩
   have:rest=[]:=by simpa using ex.symm
   subst this
   rw[dL] at e
   subst e
   exact hK _ ⟨g,u,v,hg,rfl⟩
  ·have:(share.toNat:Int)=share:=by omega
   rw[this];exact oQ _
  ·have:(share.toNat:Int)=share:=by omega
   exact_mod_cast (by rw[this];exact e1:(d:Int)∣(share.toNat:Int))
  ·have:(share.toNat:Int)=share:=by omega
   rw[this]
 rintro ρ ⟨g,x,y,hg,rfl⟩
 have gp:(0:Int)<g:=by have:=hg.pos;omega
 have gb:BL 9000 (g:Int):=(hg.bl hs bs).mono (by decide)
 obtain⟨zs,ez⟩:∃zs,zs=cs.map λz=>(z.1 / (g:Int),z.2 / (g:Int)):=⟨_,rfl⟩
 have ec:cs=zs.map λz=>((g:Int)*z.1,(g:Int)*z.2):=by
  rw[ez,cZ]
  symm
  conv=>rhs;rw[<-mE cs]
  refine gT λz hz=>?_
  obtain⟨a,b⟩:=hg.all z hz
  simp only[AX,id,gG a,gG b]
 refine cP (λρ=>ρ=[some (.d (.int share)),some (.d (pts cs)),some (.d (.int g)),x,y,some (.own (zs.map pt)),none]) (λK hK=>?_) ?_
 ·walk_at "rd"
  refine⟨oH (by simp;omega),?_⟩
  refine sM (λρ=>∃a b,ρ=[a,b,some (.d (.int g))]) pt (λz=>pt (z.1 / (g:Int),z.2 / (g:Int))) cs ?_ ⟨_,_,rfl⟩ ?_
  ·rintro z hz ρ ⟨a,b,rfl⟩ K' hK'
   walk_at "rd"
   refine⟨gb.divOk (by omega),gb.divOk (by omega),?_⟩
   rw[cJ _ (by omega),cJ _ (by omega)]
   exact hK' _ ⟨_,_,rfl⟩
  ·refine hK _ ?_
   rw[ez,cZ];rfl
 rintro ρ rfl
 have lz:zs.length=cs.length:=by rw[ez];simp
 have hz:zs≠[]:=by intro e;rw[e] at lz;exact hne (iM.mp lz.symm)
 refine cP (λρ=>∃j:Nat,(j<zs.length/\∀z∈zs,∀w,zs[j]? = some w->HT.lexLt [z.1,z.2] [w.1,w.2]=false)/\ρ=[some (.d (.int share)),some (.d (pts cs)),some (.d (.int g)),x,y,some (.own (zs.map pt)),some (.d (.int j))]) (λK hK=>?_) ?_
 ·walk_at "rd"
  refine⟨⟨_,rfl⟩,zs.map λz=>[z.1,z.2],by rw[cZ];rfl,by simpa using hz,λM hM hmin=>?_⟩
  obtain⟨w,hw,rfl⟩:=cK.mp hM
  have hlt:zs.findIdx (λz=>decide (z=w))<zs.length:=List.findIdx_lt_length_of_exists ⟨w,hw,by simp⟩
  have hat:=List.findIdx_getElem (w:=hlt)
  have hat':zs[zs.findIdx (λz=>decide (z=w))]=w:=by simpa using hat
  refine⟨zs.findIdx (λz=>decide (z=w)),⟨pt w,?_,?_⟩,λi d hi ed=>?_,λd hd=>?_,hK _ ⟨_,⟨hlt,λz hz v ev=>?_⟩,rfl⟩⟩
  ·rw[aT,aC hlt,hat'];rfl
  ·show eqF 6 (pt w) (pt w)=_
   rw[YL];simp
  ·rw[aT] at ed
   cases e:zs[i]? with
   | none=>rw[e] at ed;cases ed
   | some z =>
    rw[e] at ed;cases ed
    show eqF 6 (pt z) (pt w)=_
    have hil:i<zs.length:=(aX.mp e).1
    have:=List.not_of_lt_findIdx hi
    rw[YL]
    have e2:zs[i]=z:=by rw[aC hil] at e;exact dE e
    rw[e2] at this
    simpa using this
  ·obtain⟨z,_,rfl⟩:=cK.mp hd
   exact⟨_,YL z w⟩
  ·rw[aC hlt,hat'] at ev;cases ev
   exact hmin _ (cK.mpr ⟨z,hz,rfl⟩)
 rintro ρ ⟨j,⟨hj,hleast⟩,rfl⟩
 walk_at "rd"
 have lm:(zs.map pt).length=zs.length:=by simp
 rw[Dl (by omega),Li (by omega)]
 refine⟨gb.divOk (by omega),oH (by simp;omega),?_⟩
 rw[cJ _ (by omega)]
 have:=q g (share / g) zs j ⟨gp,(gG hg.sh).symm,ec,hj,hleast,λd e1 e2=>?_⟩
 ·rw[dN,OB,AZ] at this
  exact this
 ·have h1:((g*d:Nat):Int)∣share:=by
   rw[<-gG hg.sh]
   push_cast
   exact wY (oQ _) e1
  have h2:=hg.most (g*d) h1 λz hz=>by
   rw[ec] at hz
   obtain⟨w,hw,rfl⟩:=cK.mp hz
   obtain⟨a,b⟩:=e2 w hw
   push_cast
   exact⟨wY (oQ _) a,wY (oQ _) b⟩
  have h3:=uD hg.pos h2
  have h4:d≠0:=λe=>by
   subst e
   simp at h2
   have:=hg.pos;omega
  have h5:=hg.pos
  rcases Nat.lt_or_ge 1 d with h | h
  ·have:g*2<=g*d:=Nat.mul_le_mul_left _ h
   omega
  ·omega
abbrev cr (a b:Int × Int):Int:=a.1*b.2-a.2*b.1
def chain (a:Int × Int):List (Int × Int)->Int
 | []=>0
 | b::r=>cr a b+chain b r
theorem DueOf.len {share:Int} {cs:List (Int × Int)} {m sh:Int} {ds:List (Int × Int)} {j:Nat} (h:DueOf share cs m sh ds j):ds.length=cs.length:=by rw[h.cs_eq];simp
theorem Ag {α:Type} {j:Nat} {ds:List α} (h:j<=ds.length):(turned j ds).length=ds.length:=by simp[turned];omega
namespace K12
theorem Bg {q p r:Int} (h:cF q p=1) (d:q∣p*r):q∣r:=by
 have h1:q.natAbs∣p.natAbs*r.natAbs:=by rw[<-mB];exact lI.mpr d
 exact lI.mp (pP h h1)
theorem low_eq {a b p q p' q':Int} (hb:0<b) (h:Low a b p q) (h':Low a b p' q'):p=p'/\q=q':=by
 have e:p*q'=p'*q:=by
  have h1:=h.worth
  have h2:=h'.worth
  have:(p*q')*b=(p'*q)*b:=by grind
  exact eI (by omega) this
 have d1:q∣q':=by
  have:q∣p*q':=by rw[e];exact GI ..
  exact Bg (by rw[Int.gcd_comm];exact h.cop) this
 have d2:q'∣q:=by
  have:q'∣p'*q:=by rw[<-e];exact GI ..
  exact Bg (by rw[Int.gcd_comm];exact h'.cop) this
 have l1:=nF h'.pos d1
 have l2:=nF h.pos d2
 have eq:q=q':=by omega
 subst eq
 exact⟨eI (by have:=h.pos;omega) e,rfl⟩
end K12
structure Line where
 a:Int
 b:Int
 c:Int
abbrev ln (l:Line):D:=.tup [.int l.a,.int l.b,.int l.c]
abbrev exc (l:Line) (p:Int × Int) (s:Int):Int:=l.a*p.1+l.b*p.2-l.c*s
def JJ:FD:=λds Q=>∃n b p:Int,ds=[.int n,.int b,.int p]/\(0<b/\BL 9000 b)/\(0<=p/\p<=1000)/\∀x,0<=x->x<b->Q (.int x)
theorem Ei:∀ds Q,JJ ds Q->ds.length=3:=by rintro ds Q ⟨_,_,_,rfl,_⟩;rfl
theorem MT:∀ds Q,JJ ds Q->BV { nx:=λ_=>Q .non,rt:=Q } (dO ["_law_number","_law_base","_law_place","_law_k"] ds):=by
 rintro ds Q ⟨n,b,p,rfl,⟨b0,b1⟩,⟨p0,p1⟩,q⟩
 rw[cS 1 rfl]
 unfold BV
 simp only[jJ,Rt,aU,cX,cD,cO]
 refine cP (λρ=>∃(m:Int) (o:Option S),ρ=[some (.d (.int m)),some (.d (.int b)),some (.d (.int p)),o]) (λK hK=>?_) ?_
 ·walk_at "rd"
  refine⟨⟨by omega,by omega⟩,?_⟩
  refine nW (λ_ ρ=>∃(m:Int) (o:Option S),ρ=[some (.d (.int m)),some (.d (.int b)),some (.d (.int p)),o]) ?_ ?_ _ _ ⟨n,none,rfl⟩
  ·rintro x xs ρ ⟨m,o,rfl⟩ F _ _ hn _
   unfold vK
   walk_at "rd"
   exact⟨b1.divOk (by omega),hn _ ⟨m.fdiv b,some (.d x),rfl⟩⟩
  ·rintro ρ ⟨m,o,rfl⟩
   exact hK _ ⟨m,o,rfl⟩
 rintro ρ ⟨m,o,rfl⟩
 walk_at "rd"
 obtain⟨a0,a1⟩:=eU (a:=m) b0
 exact⟨⟨by omega⟩,q _ a0 a1⟩
theorem LM {g:RG} {t:RS} {E:DEnds} (xs:List D) (J:Nat->En->Prop) (step:∀i x ρ,xs[i]? = some x->J i ρ->∀F:DEnds,F.rt=E.rt->F.bk=E.nx->(∀ρ',J (i+1) ρ'->F.nx ρ')->(∀ρ',J (i+1) ρ'->F.ct ρ')->g x ρ λρ1=>t F ρ1)
  (last:∀ρ,J xs.length ρ->E.nx ρ) (ρ:En) (h:J 0 ρ):UY g t xs E ρ:=by
 refine nW (λys ρ=>∃i,i<=xs.length/\ys=xs.drop i/\J i ρ) ?_ ?_ xs ρ ⟨0,dY _,rfl,h⟩
 ·rintro x ys ρ ⟨i,hi,e,hJ⟩ F f1 f2 f3 f4
  have hlt:i<xs.length:=by
   apply Nat.not_le.mp
   intro hn
   rw[List.drop_of_length_le hn] at e;cases e
  rw[fQ hlt] at e
  cases e
  exact step i _ ρ (aC hlt) hJ F f1 f2 (λρ' h=>f3 ρ' ⟨i+1,by omega,rfl,h⟩) λρ' h=>f4 ρ' ⟨i+1,by omega,rfl,h⟩
 ·rintro ρ ⟨i,hi,e,hJ⟩
  have:i=xs.length:=by
   have:=congrArg gU e
   simp at this;omega
  subst this
  exact last ρ hJ
theorem ZY {lo:Int} {n i:Nat} {x:D} (h:(qW lo n)[i]? = some x):x = .int (lo+i)/\i<n:=by
 unfold qW at h
 rw[aT] at h
 by_cases hi:i<n
 ·rw[AO hi] at h;cases h;exact⟨rfl,hi⟩
 ·rw[gZ (by simpa using hi)] at h;cases h
theorem JT {g:RG} {t:RS} {E:DEnds} (lo:Int) (n:Nat) (J:Nat->En->Prop) (step:∀i ρ,i<n->J i ρ->∀F:DEnds,F.rt=E.rt->F.bk=E.nx->(∀ρ',J (i+1) ρ'->F.nx ρ')->(∀ρ',J (i+1) ρ'->F.ct ρ')->g (.int (lo+i)) ρ λρ1=>t F ρ1)
  (last:∀ρ,J n ρ->E.nx ρ) (ρ:En) (h:J 0 ρ):UY g t (qW lo n) E ρ:=by
 refine LM _ J (λi x ρ e hJ=>?_) (λρ h=>last ρ (by rwa [ZZ] at h)) ρ h
 obtain⟨rfl,hi⟩:=ZY e
 exact step i ρ hi hJ
namespace K33
abbrev P2:=Int × Int
abbrev Wd:=Int × P2 × P2 × P2
abbrev Mv:=Int × P2 × P2
abbrev Bit:=Wd × Mv
abbrev Ent:=Int × Bit
def wdD (w:Wd):D:=.tup [.int w.1,.tup [pt w.2.1,pt w.2.2.1,pt w.2.2.2]]
def mvD (m:Mv):D:=.tup [.int m.1,pt m.2.1,pt m.2.2]
def btD (b:Bit):D:=.tup [wdD b.1,mvD b.2]
def enD (e:Ent):D:=.tup [.int e.1,btD e.2]
theorem vD {f:D->D->Option Bool} {a b:D} {xs ys:List D} {p q:Bool} (h1:f a b=some p) (h2:eqL f xs ys=some q):eqL f (a::xs) (b::ys)=some (p && q):=by rw[eqL,h1,h2]
theorem eqI (n:Nat) (i j:Int):eqF (n+1) (.int i) (.int j)=some (decide (i=j)):=by rw[eqF]
theorem eqT (n:Nat) (xs ys:List D):eqF (n+1) (.tup xs) (.tup ys)=eqL (eqF n) xs ys:=by rw[eqF]
theorem eqP (n:Nat) (z w:P2):eqF (n+2) (pt z) (pt w)=some (decide (z=w)):=by
 obtain⟨a,b⟩:=z
 obtain⟨c,d⟩:=w
 rw[eqT,vD (eqI n a c) (vD (eqI n b d) rfl)]
 simp only[fD,nS,lD]
theorem eqW (n:Nat) (z w:Wd):eqF (n+4) (wdD z) (wdD w)=some (decide (z=w)):=by
 obtain⟨s,a,b,c⟩:=z
 obtain⟨s',a',b',c'⟩:=w
 have h:=vD (eqP n a a') (vD (eqP n b b') (vD (eqP n c c') (show eqL (eqF (n+2)) [] []=some true from rfl)))
 rw[<-eqT] at h
 unfold wdD
 rw[eqT,vD (eqI (n+2) s s') (vD h rfl)]
 simp only[fD,nS,lD]
theorem eqM (n:Nat) (z w:Mv):eqF (n+3) (mvD z) (mvD w)=some (decide (z=w)):=by
 obtain⟨s,a,b⟩:=z
 obtain⟨s',a',b'⟩:=w
 unfold mvD
 rw[eqT,vD (eqI (n+1) s s') (vD (eqP n a a') (vD (eqP n b b') rfl))]
 simp only[fD,nS,lD]
theorem Vk (n:Nat) (z w:Bit):eqF (n+5) (btD z) (btD w)=some (decide (z=w)):=by
 obtain⟨a,b⟩:=z
 obtain⟨c,d⟩:=w
 unfold btD
 rw[eqT,vD (eqW n a c) (vD (eqM (n+1) b d) rfl)]
 simp only[fD,nS,lD]
theorem Vl (n:Nat) (z w:Ent):eqF (n+6) (enD z) (enD w)=some (decide (z=w)):=by
 obtain⟨a,b⟩:=z
 obtain⟨c,d⟩:=w
 unfold enD
 rw[eqT,vD (eqI (n+4) a c) (vD (Vk n b d) rfl)]
 simp only[fD,nS,lD]
theorem Mb {α:Type} (f:D->D->Option Bool) (g:α->D) (h:∀x,f (g x) (g x)=some true):∀xs:List α,eqL f (xs.map g) (xs.map g)=some true
 | []=>rfl
 | x::xs=>by rw[aU,vD (h x) (Mb f g h xs)];rfl
theorem Du (os cs:List Ent) (fs:List P2):eqF 9 (.lst [.lst (os.map enD),.lst (cs.map enD),pts fs]) (.lst [.lst (os.map enD),.lst (cs.map enD),pts fs])=some true:=by
 have l:∀n xs ys,eqF (n+1) (.lst xs) (.lst ys)=eqL (eqF n) xs ys:=λn xs ys=>by rw[eqF]
 have e:∀xs:List Ent,eqF 8 (.lst (xs.map enD)) (.lst (xs.map enD))=some true:=λxs=>by
  rw[l,Mb _ _ λx=>by rw[Vl 1 x x,decide_eq_true rfl]]
 have p:eqF 8 (pts fs) (pts fs)=some true:=by
  rw[l,Mb _ _ λx=>by rw[eqP 5 x x,decide_eq_true rfl]]
 rw[l,vD (e os) (vD (e cs) (vD p rfl))]
 rfl
theorem Ta {x:D} (h:x∈[D.int 9,D.int 1000000000000000000000000000000]):∃f:Int,x = .int f/\0<=f/\BL 200 f:=by
 rcases aL.mp h with rfl | h
 ·exact⟨9,rfl,by decide,BL.const (by decide)⟩
 ·rcases aL.mp h with rfl | h
  ·exact⟨_,rfl,by decide,BL.const (by decide)⟩
  ·cases h
theorem Pk {c:Int} (h0:0<=c) (h1:c<big):BL 200 c:=by
 have e:big<((2 ^ 200:Nat):Int):=by decide
 exact BL.of_lt (by omega) (by omega)
structure LeanOk (n:Nat) (f:P2):Prop where
 pos:0<f.2
 top:BL n f.1
 bot:BL n f.2
theorem LeanOk.mono {n m:Nat} {f:P2} (h:LeanOk n f) (k:n<=m):LeanOk m f:=⟨h.pos,h.top.mono k,h.bot.mono k⟩
theorem Lj {xs:List D} {x:D} {Q:D->Prop} (h:xs.getLast? = some x):dIx (.lst xs) (.int (-1)) Q=Q x:=by simp only[dIx,TL h]
theorem Iz {n:Nat} {a b t w p q:Int} (ha:BL n a) (hb:BL n b) (b0:0<b) (t0:1<=t) (t1:t<=3) (w0:1<=w) (w1:w<=3) (h:Low (a*w+t*b) (b*w) p q):LeanOk (n+5) (p,q):=by
 have bw:BL 2 w:=BL.of_lt (m:=2) (by omega) (by omega)
 have bt:BL 2 t:=BL.of_lt (m:=2) (by omega) (by omega)
 have h1:BL (n+2+1) (a*w+t*b):=by
  have:=(ha.mul bw).add (show BL (n+2) (t*b) by have:=bt.mul hb;rwa [Nat.add_comm] at this)
  rwa [Nat.max_self] at this
 exact⟨h.pos,(h1.le h.lea).mono (by omega),((hb.mul bw).le h.leb).mono (by omega)⟩
end K33
namespace K33
abbrev esD (es:List Ent):D:=.lst (es.map enD)
theorem MR {fs:List P2} {i:Int} {Q:D->Prop} (h0:0<=i) (h1:i<fs.length) (q:∀f,fs[i.toNat]? = some f->Q (pt f)):dIx (pts fs) (.int i) Q:=by
 have hj:i.toNat<fs.length:=by omega
 exact wN (YD (j:=i.toNat) (by omega) (by rw[aT,aC hj];rfl)) (q _ (aC hj))
end K33
def BP (z:Pt):Prop:=BL 20000 z.1/\BL 20000 z.2
def uA:FD:=λds Q=>∃a b c:Pt,ds=[pt a,pt b,pt c]/\(BP a/\BP b/\BP c)/\Q (.int (cM a b c))
theorem Jb:∀ds Q,uA ds Q->ds.length=3:=by rintro ds Q ⟨_,_,_,rfl,_⟩;rfl
theorem Fm:∀ds Q,uA ds Q->Cn { nx:=λ_=>Q .non,rt:=Q } (dO ["one","middle","other","along","across"] ds):=by
 rintro ds Q ⟨a,b,c,rfl,⟨ba,bb,bc⟩,q⟩
 rw[cS 2 rfl]
 unfold Cn
 walk_at "rd"
 exact⟨(bb.1.sub ba.1).mulOk (bc.2.sub ba.2),(bb.2.sub ba.2).mulOk (bc.1.sub ba.1),q⟩
def QY:FD:=λds Q=>∃ps:List Pt,ds=[pts ps]/\(∀z∈ps,BP z)/\ps.length<=900/\Q (pts (rD ps))
theorem Ja:∀ds Q,QY ds Q->ds.length=1:=by rintro ds Q ⟨_,rfl,_⟩;rfl
theorem Gh {α:Type} (xs:List α) (x:α):atI (xs++[x]) (-1)=some x:=by
 unfold atI ixN
 rw[if_neg (by decide),if_pos (by simp;omega)]
 have:((-1:Int)+((xs++[x]).length:Nat)).toNat=xs.length:=by simp;omega
 simp only[this,GQ]
 simp
theorem Gi {α:Type} (xs:List α) (x y:α):atI (xs++[x,y]) (-2)=some x:=by
 unfold atI ixN
 rw[if_neg (by decide),if_pos (by simp;omega)]
 have:((-2:Int)+((xs++[x,y]).length:Nat)).toNat=xs.length:=by simp;omega
 simp only[this,GQ]
 simp
theorem LN (E:DEnds) (u:Option S) (p:Pt) (hp:BP p):∀s:List Pt,(∀z∈s,BP z)->E.nx [u,some (.own ((iG p s).reverse.map pt)),some (.d (pt p))] ->
  DU (Ke (fU (r2 (vC λi j=>decide (j<i)) (r1 qS (aM 1)) (rC (.int 1)))) (fU (r2 (vC λi j=>decide (i<=j)) (cQ uA (aG (r2 dIx (aM 1) (r1 zB (rC (.int 2)))) (aG (r2 dIx (aM 1) (r1 zB (rC (.int 1)))) (aG (bY 2) bI)))) (rC (.int 0))))) mV E [u,some (.own (s.reverse.map pt)),some (.d (pt p))]
 | [],_,h=>by
  refine⟨1,?_⟩
  unfold pJ
  walk_at "rd"
  simp
  exact h
 | [x],_,h=>by
  refine⟨1,?_⟩
  unfold pJ
  walk_at "rd"
  simp
  exact h
 | b::a::r,hs,h=>by
  have ea:((b::a::r).reverse.map pt)=(r.reverse.map pt)++[pt a,pt b]:=by simp
  have eb:((b::a::r).reverse.map pt)=((a::r).reverse.map pt)++[pt b]:=by simp
  have i2:=Gi (r.reverse.map pt) (pt a) (pt b)
  have i1:=Gh ((a::r).reverse.map pt) (pt b)
  rw[<-ea] at i2;rw[<-eb] at i1
  by_cases ht:cM a b p<=0
  ·have e:iG p (b::a::r)=iG p (a::r):=by rw[iG,if_pos ht]
   rw[e] at h
   obtain⟨n,hn⟩:=LN E u p hp (a::r) (λz hz=>hs z (bD _ hz)) h
   refine⟨n+1,?_⟩
   unfold pJ
   generalize hW:pJ (Ke (fU (r2 (vC λi j=>decide (j<i)) (r1 qS (aM 1)) (rC (.int 1)))) (fU (r2 (vC λi j=>decide (i<=j)) (cQ uA (aG (r2 dIx (aM 1) (r1 zB (rC (.int 2)))) (aG (r2 dIx (aM 1) (r1 zB (rC (.int 1)))) (aG (bY 2) bI)))) (rC (.int 0))))) mV n E=W at hn
   walk_at "rd"
   rw[if_pos (by simp;omega)]
   refine wN i2 (wN i1 ⟨a,b,p,rfl,⟨hs a (by simp),hs b (by simp),hp⟩,?_⟩)
   show if cM a b p<=0 then _ else _
   rw[if_pos ht]
   unfold mV
   walk_at "rd"
   refine⟨by simp,?_⟩
   rw[eb,mD]
   exact hn
  ·have e:iG p (b::a::r)=b::a::r:=by rw[iG,if_neg ht]
   rw[e] at h
   refine⟨1,?_⟩
   unfold pJ
   walk_at "rd"
   rw[if_pos (by simp;omega)]
   refine wN i2 (wN i1 ⟨a,b,p,rfl,⟨hs a (by simp),hs b (by simp),hp⟩,?_⟩)
   show if cM a b p<=0 then _ else _
   rw[if_neg ht]
   exact h
theorem WK (p:Pt) (s:List Pt):(iG p s).length<=s.length:=(vJ p s).length_le
theorem JF:∀ds Q,QY ds Q->CC uA { nx:=λ_=>Q .non,rt:=Q } (dO ["points","chain","point"] ds):=by
 rintro ds Q ⟨ps,rfl,hb,hl,q⟩
 rw[cS 2 rfl]
 unfold CC
 simp only[jJ,Km,aU,cX,cD,cO]
 refine cP (λρ=>ρ=[some (.d (pts ps)),some (.own []),none]) (λK hK=>?_) ?_
 ·walk_at "rd"
  exact hK _ rfl
 rintro ρ rfl
 refine cP (λρ=>∃x:Option S,ρ=[some (.d (pts ps)),some (.own ((iV ps).reverse.map pt)),x]) (λK hK=>?_) ?_
 ·walk_at "rd"
  refine nW (λxs ρ=>∃(done rest:List Pt) (x:Option S),ps=done++rest/\xs=rest.map pt/\ρ=[some (.d (pts ps)),some (.own ((iV done).reverse.map pt)),x]) ?_ ?_ _ _ ⟨[],ps,none,rfl,rfl,rfl⟩
  ·rintro x xs ρ ⟨done,rest,u,e,ex,rfl⟩ F _ _ hn _
   cases rest with
   | nil=>cases ex
   | cons z rest =>
    cases ex
    have bd:∀w∈done,BP w:=λw hw=>hb w (by rw[e];simp[hw])
    have bz:BP z:=hb z (by rw[e];simp)
    have ld:done.length<ps.length:=by rw[e];simp
    have sub:∀(L s:List Pt),(∀q∈L.foldl (λs p=>p::iG p s) s,q∈L\/q∈s)/\(L.foldl (λs p=>p::iG p s) s).length<=L.length+s.length:=by
     intro L
     induction L with
     | nil=>intro s;exact⟨λq h=>eJ h,by simp⟩
     | cons y L ih =>
      intro s
      obtain⟨i1,i2⟩:=ih (y::iG y s)
      refine⟨λq h=>?_,?_⟩
      ·rcases i1 q h with h | h
       ·exact eD (by simp[h])
       ·rcases aL.mp h with h | h
        ·exact eD (by simp[h])
        ·exact eJ ((vJ y s).subset h)
      ·have:=WK y s
       simp only[nU,bJ] at i2 ⊢
       omega
    obtain⟨s1,s2⟩:=sub done []
    unfold vP
    simp only[dH,bC,bH]
    refine LN _ _ z bz (iV done) (λw hw=>?_) ?_
    ·rcases s1 w hw with h | h
     ·exact bd w h
     ·cases h
    ·walk_at "rd"
     have l1:=WK z (iV done)
     have l2:(iV done).length<=done.length:=by simpa [iV] using s2
     refine⟨⟨Bq (by simp;omega)⟩,hn _ ⟨done++[z],rest,some (.d (pt z)),by simpa using e,rfl,?_⟩⟩
     unfold iV
     simp
  ·rintro ρ ⟨done,rest,u,e,ex,rfl⟩
   have:rest=[]:=by simpa using ex.symm
   subst this
   rw[dL] at e
   subst e
   exact hK _ ⟨u,rfl⟩
 rintro ρ ⟨x,rfl⟩
 walk_at "rd"
 have e:cutD ((iV ps).reverse.map pt) none (some (-1))=(rD ps).map pt:=by
  unfold cutD rD
  rw[List.map_dropLast]
  generalize (iV ps).reverse.map pt=xs
  have h1:HT.sIx xs.length 0 none=0:=rfl
  have h2:HT.sIx xs.length xs.length (some (-1))=xs.length-1:=by
   unfold HT.sIx
   simp
   omega
  rw[h1,h2,sF,ET,List.dropLast_eq_take]
 rw[e]
 exact q
theorem Ms (z w:Pt):gM [z.1,z.2] [w.1,w.2]=decide (ltP z w):=by
 unfold ltP
 simp only[gM]
 by_cases h:z.1=w.1
 ·rw[if_pos h]
  by_cases h2:z.2=w.2
  ·rw[if_pos h2];simp[h,h2]
  ·rw[if_neg h2];simp[h]
 ·rw[if_neg h];simp[h]
def rS:FD:=λds Q=>∃ps:List Pt,ds=[pts ps]/\(∀z∈ps,BP z)/\ps.length<64/\∀D r:List Pt,Inc D->(∀z,z∈D↔z∈ps)->(2<=D.length->r=BT D)->(D.length<=1->r.length<3)->r.length<=200->Q (pts r)
theorem VP:∀ds Q,rS ds Q->ds.length=1:=by rintro ds Q ⟨_,rfl,_⟩;rfl
theorem SZ:∀ds Q,rS ds Q->NF QY { nx:=λ_=>Q .non,rt:=Q } (dO ["points","rising"] ds):=by
 rintro ds Q ⟨ps,rfl,hb,hl,q⟩
 rw[cS 1 rfl]
 unfold NF
 walk_at "rd"
 unfold NC NA
 walk_at "rd"
 refine⟨ps.map λz=>[z.1,z.2],by rw[cZ];rfl,by simpa using hl,λns h=>?_,λmss hs hm hlen=>?_⟩
 ·obtain⟨z,_,rfl⟩:=cK.mp h;simp
 obtain⟨L,hL⟩:∃L:List Pt,mss=L.map λz=>[z.1,z.2]:=by
  have:∀ms∈mss,∃z:Pt,ms=[z.1,z.2]:=λms h=>by
   obtain⟨z,_,e⟩:=cK.mp ((hm ms).mp h)
   exact⟨z,e.symm⟩
  clear hs hm hlen
  induction mss with
  | nil=>exact⟨[],rfl⟩
  | cons m mss ih =>
   obtain⟨L,e⟩:=ih λms h=>this ms (bD _ h)
   obtain⟨z,e2⟩:=this m (by simp)
   exact⟨z::L,by rw[e,e2];rfl⟩
 subst hL
 have inj:∀z w:Pt,[z.1,z.2]=[w.1,w.2]->z=w:=λz w h=>by simp at h;exact fY h.1 h.2
 have memL:∀z,z∈L↔z∈ps:=λz=>by
  have:=hm [z.1,z.2]
  constructor
  ·intro h
   obtain⟨w,hw,e⟩:=cK.mp (this.mp (cK.mpr ⟨z,h,rfl⟩))
   rw[<-inj _ _ e];exact hw
  ·intro h
   obtain⟨w,hw,e⟩:=cK.mp (this.mpr (cK.mpr ⟨z,h,rfl⟩))
   rw[<-inj _ _ e];exact hw
 have wL:YA L:=by
  unfold YA
  refine (jV.mp hs).imp λ{a b} h=>?_
  rw[Ms] at h
  simpa using h
 have eL:D.lst (qL lV (qL (λz:Pt=>[z.1,z.2]) L))=pts L:=by rw[cZ];rfl
 have lL:L.length<=63:=by simp at hlen;omega
 have bL:∀z∈L,BP z:=λz hz=>hb z ((memL z).mp hz)
 obtain⟨D,HD⟩:=Hv L wL
 obtain⟨o1,o2⟩:=UR wL HD.inc HD.mem
 have h1:∀M:List Pt,(rD M).length<=M.length:=λM=>by
  unfold rD
  have:=Ih M
  simp;omega
 rw[eL]
 refine⟨L,rfl,bL,by omega,L.map pt,rfl,L.reverse,by rw[<-GM],λz hz=>bL z (mO.mp hz),by simp;omega,?_⟩
 have a1:=h1 L
 have a2:=h1 L.reverse
 rw[rB] at a2
 show Sz (((rD L).map pt).length+((rD L.reverse).map pt).length)/\Q (.lst ((rD L).map pt++(rD L.reverse).map pt))
 refine⟨⟨Bq (by simp;omega)⟩,?_⟩
 rw[<-dN]
 exact q D (BT L) HD.inc (λz=>(HD.mem z).trans (memL z)) o1 o2 (by unfold BT;simp;omega)
structure NormOf (share:Int) (cs:List Pt) (m sh:Int) (zs:List Pt):Prop where
 mpos:0<m
 sh_eq:share=m*sh
 cs_eq:cs=zs.map λz=>(m*z.1,m*z.2)
 cop:∀d:Nat,(d:Int)∣sh->(∀z∈zs,(d:Int)∣z.1/\(d:Int)∣z.2)->d=1
theorem uG {a b x y:Int} (ha:0<a) (hb:0<b) (e:a*x=b*y):a / (cF a b:Nat)∣y:=by
 have hg:(0:Int)<(cF a b:Nat):=by
  have:=iY (a:=a) b (by omega);omega
 obtain⟨a',ea⟩:((cF a b:Nat):Int)∣a:=kG ..
 obtain⟨b',eb⟩:((cF a b:Nat):Int)∣b:=jS ..
 have e1:a / (cF a b:Nat)=a':=by
  have:a / ((cF a b:Nat):Int)=(((cF a b:Nat):Int)*a') / ((cF a b:Nat):Int):=congrArg (· / ((cF a b:Nat):Int)) ea
  rw[this,eT _ (by omega)]
 have e2:b / (cF a b:Nat)=b':=by
  have:b / ((cF a b:Nat):Int)=(((cF a b:Nat):Int)*b') / ((cF a b:Nat):Int):=congrArg (· / ((cF a b:Nat):Int)) eb
  rw[this,eT _ (by omega)]
 have cop:cF a' b'=1:=by
  have:=sX (i:=a) (j:=b) (by have:=hg;omega)
  rw[e1,e2] at this
  exact this
 rw[e1]
 have h:a'*x=b'*y:=by
  have:((cF a b:Nat):Int)*(a'*x)=((cF a b:Nat):Int)*(b'*y):=by
   rw[<-kD,<-kD,<-ea,<-eb];exact e
  exact dX (by omega) this
 have d:a'∣b'*y:=⟨x,h.symm⟩
 have d2:a'.natAbs∣b'.natAbs*y.natAbs:=by rw[<-mB];exact lI.mpr d
 exact lI.mp (pP (show Nat.Coprime a'.natAbs b'.natAbs from cop) d2)
theorem QE {a b sh sh':Int} {zs zs':List Pt} (ha:0<a) (hb:0<b) (e1:a*sh=b*sh') (e2:zs.map (λz=>(a*z.1,a*z.2))=zs'.map λz=>(b*z.1,b*z.2))
  (cop:∀d:Nat,(d:Int)∣sh'->(∀z∈zs',(d:Int)∣z.1/\(d:Int)∣z.2)->d=1):a∣b:=by
 have len:zs.length=zs'.length:=by have:=congrArg gU e2;simpa using this
 have hg:(0:Int)<(cF a b:Nat):=by
  have:=iY (a:=a) b (by omega);omega
 obtain⟨a',ea⟩:((cF a b:Nat):Int)∣a:=kG ..
 have e0:a / (cF a b:Nat)=a':=by
  have:a / ((cF a b:Nat):Int)=(((cF a b:Nat):Int)*a') / ((cF a b:Nat):Int):=congrArg (· / ((cF a b:Nat):Int)) ea
  rw[this,eT _ (by omega)]
 have pa:0<a':=by
  apply CQ.mp
  intro hn
  have:((cF a b:Nat):Int)*a'<=0:=gD (by omega) hn
  omega
 have one:=cop a'.toNat (by
  rw[gS (by omega),<-e0];exact uG ha hb e1) λz hz=>by
  rw[gS (by omega),<-e0]
  obtain⟨i,hi,rfl⟩:=eK hz
  have hi':i<zs.length:=by omega
  have ei:(zs.map λz=>(a*z.1,a*z.2))[i]? = (zs'.map λz=>(b*z.1,b*z.2))[i]?:=by rw[e2]
  rw[aT,aT,aC hi,aC hi'] at ei
  simp only[jQ,jW,fD] at ei
  exact⟨uG ha hb ei.1,uG ha hb ei.2⟩
 have:a'=1:=by omega
 rw[this,Int.mul_one] at ea
 rw[ea]
 exact jS ..
theorem WE {a b sh sh':Int} {zs zs':List Pt} (ha:0<a) (hb:0<b) (e1:a*sh=b*sh') (e2:zs.map (λz=>(a*z.1,a*z.2))=zs'.map λz=>(b*z.1,b*z.2))
  (c1:∀d:Nat,(d:Int)∣sh->(∀z∈zs,(d:Int)∣z.1/\(d:Int)∣z.2)->d=1) (c2:∀d:Nat,(d:Int)∣sh'->(∀z∈zs',(d:Int)∣z.1/\(d:Int)∣z.2)->d=1):sh=sh'/\zs=zs':=by
 have h1:=QE ha hb e1 e2 c2
 have h2:=QE hb ha e1.symm e2.symm c1
 have hab:a=b:=Int.le_antisymm (nF hb h1) (nF ha h2)
 subst hab
 refine⟨dX (by omega) e1,?_⟩
 have len:zs.length=zs'.length:=by have:=congrArg gU e2;simpa using this
 apply mM len
 intro i hi hi'
 have ei:(zs.map λz=>(a*z.1,a*z.2))[i]? = (zs'.map λz=>(a*z.1,a*z.2))[i]?:=by rw[e2]
 rw[aT,aT,aC hi,aC hi'] at ei
 simp only[jQ,jW,fD] at ei
 exact fY (dX (by omega) ei.1) (dX (by omega) ei.2)
theorem NormOf.same {share share' m m' sh sh' k k':Int} {cs cs' zs zs':List Pt} (h:NormOf share cs m sh zs) (h':NormOf share' cs' m' sh' zs') (hk:0<k) (hk':0<k') (e1:k*share=k'*share') (e2:cs.map (λz=>(k*z.1,k*z.2))=cs'.map λz=>(k'*z.1,k'*z.2)):sh=sh'/\zs=zs':=by
 refine WE (a:=k*m) (b:=k'*m') (bZ hk h.mpos) (bZ hk' h'.mpos) ?_ ?_ h.cop h'.cop
 ·rw[kD,kD,<-h.sh_eq,<-h'.sh_eq];exact e1
 ·rw[h.cs_eq,h'.cs_eq,cZ,cZ] at e2
  simp only[EH,<-kD] at e2
  exact e2
structure RingIn (ps:List Pt) (z:Pt) (T:List Pt):Prop where
 cvx:Cvx (z::T)
 least:∀q∈T,¬ltP q z
 mem:∀q∈z::T,q∈ps
 left:∀a b,Cyc (z::T) a b->∀q∈ps,0<=cM a b q
def Vd (ps:List Pt):Prop:=∀D,Inc D->(∀z,z∈D↔z∈ps)->2<=D.length->(BT D).length<3
def rT:FD:=λds Q=>∃(share:Int) (ps:List Pt),ds=[.int share,pts ps]/\(0<share/\BL 9000 share)/\(∀z∈ps,BP z)/\ps.length<64 /\
 ((∃z T,RingIn ps z T/\∀m sh zs,NormOf share (z::T) m sh zs->Q (.tup [.int sh,.tup (zs.map pt)]))\/(Vd ps/\Q .non))
theorem VR:∀ds Q,rT ds Q->ds.length=2:=by rintro ds Q ⟨_,_,rfl,_⟩;rfl
theorem TB:∀ds Q,rT ds Q->NG rS AW { nx:=λ_=>Q .non,rt:=Q } (dO ["share","points","corners","divisor","x","y"] ds):=by
 rintro ds Q ⟨share,ps,rfl,⟨hs,bs⟩,hb,hl,hq⟩
 rw[cS 4 rfl]
 unfold NG
 simp only[jJ,Ru,aU,cX,cD,cO]
 refine cP (λρ=>∃r:List Pt,r.length<=200/\((r.length<3/\Q .non)\/(3<=r.length/\∀m sh zs,NormOf share r m sh zs->Q (.tup [.int sh,.tup (zs.map pt)])))/\ρ=[some (.d (.int share)),some (.d (pts ps)),some (.d (pts r)),none,none,none]) (λK hK=>?_) ?_
 ·walk_at "rd"
  refine⟨ps,rfl,hb,hl,λD r iD hm h2 h1 hr=>hK _ ⟨r,hr,?_,rfl⟩⟩
  rcases hq with ⟨z,T,R,q⟩ | ⟨fl,q⟩
  ·have sub:3<=D.length:=by
    have:=uH (z::T) D R.cvx.nodup λx hx=>(hm x).mpr (R.mem x hx)
    have:=R.cvx.len
    omega
   have e:=TF (L:=ps) iD R.cvx R.least (λx hx=>(hm x).mpr (R.mem x hx)) λa b hab x hx=>R.left a b hab x ((hm x).mp hx)
   have er:=h2 (by omega)
   rw[e] at er
   subst er
   exact eJ ⟨R.cvx.len,q⟩
  ·refine eD ⟨?_,q⟩
   by_cases hd:2<=D.length
   ·rw[h2 hd];exact fl D iD hm hd
   ·exact h1 (by omega)
 rintro ρ ⟨r,hr,hq,rfl⟩
 rcases hq with ⟨h3,q⟩ | ⟨h3,q⟩
 ·walk_at "rd"
  rw[if_pos (by simp;omega)]
  exact q
 refine cP (λρ=>ρ=[some (.d (.int share)),some (.d (pts ps)),some (.d (pts r)),none,none,none]) (λK hK=>?_) ?_
 ·walk_at "rd"
  rw[if_neg (by simp;omega)]
  exact hK _ rfl
 rintro ρ rfl
 refine cP (λρ=>ρ=[some (.d (.int share)),some (.d (pts ps)),some (.d (pts r)),some (.d (.int share)),none,none]) (λK hK=>?_) ?_
 ·walk_at "rd"
  exact hK _ rfl
 rintro ρ rfl
 refine cP (λρ=>∃(g:Nat) (x y:Option S),GcdOf share r g/\ρ=[some (.d (.int share)),some (.d (pts ps)),some (.d (pts r)),some (.d (.int g)),x,y]) (λK hK=>?_) ?_
 ·walk_at "rd"
  refine nW (λxs ρ=>∃(done rest:List Pt) (g:Nat) (x y:Option S),r=done++rest/\xs=rest.map pt/\GcdOf share done g/\ρ=[some (.d (.int share)),some (.d (pts ps)),some (.d (pts r)),some (.d (.int g)),x,y]) ?_ ?_ _ _ ⟨[],r,share.toNat,none,none,rfl,rfl,⟨by omega,?_,by simp,λd e1 _=>?_⟩,?_⟩
  ·rintro x xs ρ ⟨done,rest,g,u,v,e,ex,hg,rfl⟩ F _ _ hn _
   cases rest with
   | nil=>cases ex
   | cons z rest =>
    cases ex
    unfold CD
    walk_at "rd"
    refine⟨_,_,rfl,_,_,rfl,?_⟩
    exact hn _ ⟨done++[z],rest,_,_,_,by simpa using e,rfl,hg.snoc z,rfl⟩
  ·rintro ρ ⟨done,rest,g,u,v,e,ex,hg,rfl⟩
   have:rest=[]:=by simpa using ex.symm
   subst this
   rw[dL] at e
   subst e
   exact hK _ ⟨g,u,v,hg,rfl⟩
  ·have:(share.toNat:Int)=share:=by omega
   rw[this];exact oQ _
  ·have:(share.toNat:Int)=share:=by omega
   exact_mod_cast (by rw[this];exact e1:(d:Int)∣(share.toNat:Int))
  ·have:(share.toNat:Int)=share:=by omega
   rw[this]
 rintro ρ ⟨g,x,y,hg,rfl⟩
 have gp:(0:Int)<g:=by have:=hg.pos;omega
 have gb:BL 9000 (g:Int):=hg.bl hs bs
 obtain⟨zs,ez⟩:∃zs,zs=r.map λz=>(z.1 / (g:Int),z.2 / (g:Int)):=⟨_,rfl⟩
 have ec:r=zs.map λz=>((g:Int)*z.1,(g:Int)*z.2):=by
  rw[ez,cZ]
  symm
  conv=>rhs;rw[<-mE r]
  refine gT λz hz=>?_
  obtain⟨a,b⟩:=hg.all z hz
  simp only[AX,id,gG a,gG b]
 obtain⟨sh,es⟩:=hg.sh
 have ediv:share.fdiv g=sh:=by
  rw[cJ _ (by omega),es,eT _ (by omega)]
 walk_at "rd"
 refine⟨gb.divOk (by omega),?_⟩
 refine⟨oH (by simp;omega),?_⟩
 refine sM (λρ=>∃a b,ρ=[a,b,some (.d (.int g))]) pt (λz=>pt (z.1 / (g:Int),z.2 / (g:Int))) r ?_ ⟨_,_,rfl⟩ ?_
 ·rintro z hz ρ ⟨a,b,rfl⟩ K' hK'
  walk_at "rd"
  refine⟨gb.divOk (by omega),gb.divOk (by omega),?_⟩
  rw[cJ _ (by omega),cJ _ (by omega)]
  exact hK' _ ⟨_,_,rfl⟩
 ·have e:qL (λz:Pt=>pt (z.1 / (g:Int),z.2 / (g:Int))) r=zs.map pt:=by rw[ez,cZ];rfl
  rw[ediv,e]
  refine q g sh zs ⟨gp,es,ec,λd h1 h2=>?_⟩
  have:=hg.most (d*g) (by
   rw[es];push_cast
   obtain⟨c,ec⟩:=h1
   exact⟨c,by rw[ec];grind⟩) λz hz=>by
   rw[ec] at hz
   obtain⟨w,hw,rfl⟩:=cK.mp hz
   obtain⟨⟨c1,e1⟩,c2,e2⟩:=h2 w hw
   push_cast
   exact⟨⟨c1,by rw[e1];grind⟩,c2,by rw[e2];grind⟩
  have le:=uD hg.pos this
  have d0:d≠0:=by
   rintro rfl
   rw[Nat.zero_mul] at this
   have:=uX this
   have:=hg.pos
   omega
  apply Nat.le_antisymm ?_ (by omega)
  apply DC.mp
  intro h
  have:2*g<=d*g:=yR _ h
  have:=hg.pos
  omega
def Rot {α:Type} (A B:List α):Prop:=∃X Y,A=X++Y/\B=Y++X
theorem Rot.refl {α:Type} (A:List α):Rot A A:=⟨A,[],by simp,by simp⟩
theorem Rot.symm {α:Type} {A B:List α} (h:Rot A B):Rot B A:=by obtain⟨X,Y,a,b⟩:=h;exact⟨Y,X,b,a⟩
theorem Rot.trans {α:Type} {A B C:List α} (h:Rot A B) (k:Rot B C):Rot A C:=by
 obtain⟨X,Y,rfl,rfl⟩:=h
 obtain⟨X',Y',e,rfl⟩:=k
 rcases List.append_eq_append_iff.mp e with ⟨W,e1,e2⟩ | ⟨W,e1,e2⟩
 ·-- X'=Y++W
  exact⟨W,Y'++Y,by rw[e2];simp,by rw[e1];simp⟩
 ·exact⟨X++X',W,by rw[e1];simp,by rw[e2];simp⟩
theorem Rot.map {α β:Type} {A B:List α} (f:α->β) (h:Rot A B):Rot (A.map f) (B.map f):=by
 obtain⟨X,Y,rfl,rfl⟩:=h;exact⟨X.map f,Y.map f,by simp,by simp⟩
theorem Rot.mem {α:Type} {A B:List α} (h:Rot A B) (x:α):x∈A↔x∈B:=by
 obtain⟨X,Y,rfl,rfl⟩:=h;simp[or_comm]
theorem Rot.nodup {α:Type} {A B:List α} (h:Rot A B) (n:A.Nodup):B.Nodup:=by
 obtain⟨X,Y,rfl,rfl⟩:=h
 rw[oU] at n ⊢
 exact⟨n.2.1,n.1,λa ha b hb e=>n.2.2 b hb a ha e.symm⟩
theorem Rot.head {α:Type} {z:α} {S T:List α} (h:Rot (z::S) (z::T)) (n:(z::S).Nodup):S=T:=by
 obtain⟨X,Y,e1,e2⟩:=h
 cases X with
 | nil=>simp at e1 e2;rw[<-e1] at e2;exact (List.cons.inj e2).2.symm
 | cons x X =>
  cases Y with
  | nil=>simp at e1 e2;rw[e1.2,e2.2]
  | cons y Y =>
   simp at e1 e2
   have h1:=(fL.mp n).1
   rw[e1.2] at h1
   exact absurd (by rw[<-e2.1];simp) h1
theorem Rot.least {z w:Pt} {S T:List Pt} (h:Rot (z::S) (w::T)) (n:(z::S).Nodup) (l1:∀q∈S,¬ltP q z) (l2:∀q∈T,¬ltP q w):z::S=w::T:=by
 have hz:z∈w::T:=(h.mem z).mp (by simp)
 have hw:w∈z::S:=(h.mem w).mpr (by simp)
 have e:z=w:=by
  rcases aL.mp hz with e | hz
  ·exact e
  ·rcases aL.mp hw with e | hw
   ·exact e.symm
   ·rcases rO z w with h | h | h
    ·exact absurd h (l2 z hz)
    ·exact h
    ·exact absurd h (l1 w hw)
 subst e
 rw[h.head n]
theorem Cvx.rot {A B:List Pt} (h:Rot A B) (c:Cvx A):Cvx B:=by obtain⟨X,Y,rfl,rfl⟩:=h;exact c.swap
theorem IJ (cs:List Pt) (hne:cs≠[]):∃z T,Rot cs (z::T)/\∀q∈T,¬ltP q z:=by
 have:∃z∈cs,∀q∈cs,¬ltP q z:=by
  induction cs with
  | nil=>exact absurd rfl hne
  | cons c cs ih =>
   by_cases hc:cs=[]
   ·subst hc;exact⟨c,by simp,λq hq=>by simp at hq;subst hq;exact rN⟩
   ·obtain⟨z,hz,hl⟩:=ih hc
    rcases rO c z with h | h | h
    ·refine⟨c,by simp,λq hq=>?_⟩
     rcases aL.mp hq with rfl | hq
     ·exact rN
     ·exact λk=>hl q hq (qD k h)
    ·subst h
     refine⟨c,by simp,λq hq=>?_⟩
     rcases aL.mp hq with rfl | hq
     ·exact rN
     ·exact hl q hq
    ·refine⟨z,by simp[hz],λq hq=>?_⟩
     rcases aL.mp hq with rfl | hq
     ·exact rX h
     ·exact hl q hq
 obtain⟨z,hz,hl⟩:=this
 obtain⟨X,Y,rfl⟩:=CS hz
 exact⟨z,Y++X,⟨X,z::Y,rfl,rfl⟩,λq hq=>hl q (by simp at hq ⊢;rcases hq with h | h <;> simp[h])⟩
abbrev scl (k:Int) (z:Pt):Pt:=(k*z.1,k*z.2)
theorem NK {k:Int} (hk:0<k) {a b:Pt}:ltP (scl k a) (scl k b)↔ltP a b:=by
 unfold ltP scl
 dsimp only
 rw[AM hk,AM hk]
 constructor
 ·rintro (h | ⟨h,h'⟩)
  ·exact eD h
  ·exact eJ ⟨dX (by omega) h,h'⟩
 ·rintro (h | ⟨h,h'⟩)
  ·exact eD h
  ·exact eJ ⟨by rw[h],h'⟩
theorem JW {k:Int} (hk:0<k) {a b:Pt} (h:scl k a=scl k b):a=b:=by
 simp only[scl,fD] at h
 exact fY (dX (by omega) h.1) (dX (by omega) h.2)
theorem Kr (k:Int) (a b c:Pt):cM (scl k a) (scl k b) (scl k c)=k*k*cM a b c:=by unfold cM scl;dsimp only;grind
theorem Cvx.unscl {k:Int} (hk:0<k) {cs:List Pt} (h:Cvx (cs.map (scl k))):Cvx cs:=by
 refine⟨by simpa using h.len,?_,λa b hab q hq n1 n2=>?_⟩
 ·exact List.Pairwise.of_map (scl k) (λa b hn e=>hn (by rw[e])) h.nodup
 ·have c:Cyc (cs.map (scl k)) (scl k a) (scl k b):=by
   obtain⟨l,r,e⟩:=hab
   refine⟨l.map (scl k),r.map (scl k),?_⟩
   rw[<-AZ,<-dN,e];simp
  have:=h.strict _ _ c (scl k q) (fS hq) (λe=>n1 (JW hk e)) λe=>n2 (JW hk e)
  rw[Kr] at this
  exact iK (by rw[mL];exact this) (bZ hk hk)
def Ak:FD:=λds Q=>∃a b:Int,ds=[.int a,.int b]/\(0<a/\0<b)/\(BL 8000 a/\BL 8000 b)/\∀l,0<l->a∣l->b∣l->l<=a*b->Q (.int l)
theorem Mp:∀ds Q,Ak ds Q->ds.length=2:=by rintro ds Q ⟨_,_,rfl,_⟩;rfl
theorem zN:∀ds Q,Ak ds Q->sV AW { nx:=λ_=>Q .non,rt:=Q } (dO ["one","other"] ds):=by
 rintro ds Q ⟨a,b,rfl,⟨ha,hb⟩,⟨ba,bb⟩,q⟩
 rw[cS 0 rfl]
 unfold sV
 walk_at "rd"
 refine⟨a,b,rfl,?_⟩
 have hg:=JU (a:=a) (b:=b) (by omega)
 have bg:=BL.gcd (a:=a) (b:=b) (by omega) bb
 walk_at "rd"
 have b2:BL 8000 (b.fdiv (cF a b:Nat)):=bb.fdiv
 refine⟨(bg.mono (by decide)).divOk (by omega),ba.mulOk b2,?_⟩
 obtain⟨c,ec⟩:((cF a b:Nat):Int)∣b:=jS ..
 obtain⟨d,ed⟩:((cF a b:Nat):Int)∣a:=kG ..
 have e1:b.fdiv (cF a b:Nat)=c:=by
  rw[cJ _ (by omega)]
  have:b / ((cF a b:Nat):Int)=(((cF a b:Nat):Int)*c) / ((cF a b:Nat):Int):=congrArg (· / ((cF a b:Nat):Int)) ec
  rw[this,eT _ (by omega)]
 rw[e1]
 generalize hG:((cF a b:Nat):Int)=g at *
 have pc:0<c:=by
  apply CQ.mp
  intro hn
  have:g*c<=0:=gD (by omega) hn
  omega
 refine q _ (bZ ha pc) (Int.dvd_mul_right ..) ⟨d,by rw[ed,ec];grind⟩ ?_
 rw[ec]
 have:0<=a*((g-1)*c):=KC (by omega) (KC (by omega) (by omega))
 have e:a*(g*c)=a*c+a*((g-1)*c):=by grind
 omega
abbrev sdD (s:Lc):D:=.tup [pt s.1,pt s.2]
def xH:List (Int × List D)->Int->List D
 | [],_=>[]
 | (k',ds)::r,k=>if k'=k then ds else xH r k
theorem MB:∀(kvs:List (Int × List D)) (k:Int) (d:D) (c:Int),xH (putL kvs k d) c=if k=c then xH kvs c++[d] else xH kvs c
 | [],k,d,c=>by simp only[putL,xH];split <;> rfl
 | (k',ds)::r,k,d,c=>by
  have ih:=MB r k d c
  unfold putL
  by_cases h:k'=k
  ·rw[if_pos h];subst h
   simp only[xH]
   by_cases hc:k'=c
   ·rw[if_pos hc,if_pos hc,if_pos hc]
   ·rw[if_neg hc,if_neg hc,if_neg hc]
  ·rw[if_neg h]
   simp only[xH]
   by_cases hc:k=c
   ·have:¬k'=c:=λe=>h (e.trans hc.symm)
    rw[if_neg this,if_pos hc,ih,if_pos hc,if_neg this]
   ·rw[if_neg hc,ih,if_neg hc]
theorem zF:∀(kvs:List (Int × List D)) (k:Int) (d:D),(putL kvs k d).map (·.1)=if k∈kvs.map (·.1) then kvs.map (·.1) else kvs.map (·.1)++[k]
 | [],k,d=>by simp[putL]
 | (k',ds)::r,k,d=>by
  have ih:=zF r k d
  unfold putL
  by_cases h:k'=k
  ·rw[if_pos h];subst h;simp
  ·rw[if_neg h,aU,ih]
   have h':¬k=k':=λe=>h e.symm
   by_cases hm:k∈r.map (·.1)
   ·rw[if_pos hm,if_pos (by rw[aU];exact .tail _ hm)];rfl
   ·rw[if_neg hm,if_neg (by rw[aU,aL];exact λz=>z.elim h' hm)];rfl
theorem UC:∀(kvs:List (Int × List D)) (c:Int),c∈kvs.map (·.1)->tQ (kvs.map (·.1)) (kvs.map λp=>.lst p.2) c=some (.lst (xH kvs c))
 | [],_,h=>by cases h
 | (k',ds)::r,c,h=>by
  simp only[aU,tQ,xH]
  by_cases hc:k'=c
  ·rw[if_pos hc,if_pos hc]
  ·rw[if_neg hc,if_neg hc]
   rw[aU,aL] at h
   exact UC r c (h.resolve_left λe=>hc e.symm)
theorem TD:∀(kvs:List (Int × List D)) (k:Int) (d:D) (n:Nat),kvs.length<=n->(∀p∈kvs,p.2.length<=n)->(putL kvs k d).length<=n+1/\∀p∈putL kvs k d,p.2.length<=n+1
 | [],k,d,n,_,_=>⟨by simp[putL],λp hp=>by simp[putL] at hp;subst hp;simp⟩
 | (k',ds)::r,k,d,n,hl,hp=>by
  unfold putL
  have hds:=hp (k',ds) (.head _)
  by_cases h:k'=k
  ·rw[if_pos h]
   refine⟨by simpa using oX hl,λp h'=>?_⟩
   rcases aL.mp h' with rfl | h'
   ·simp;exact hds
   ·exact oX (hp p (.tail _ h'))
  ·rw[if_neg h]
   rw[bJ] at hl
   have n1:n=(n-1)+1:=by omega
   obtain⟨i1,i2⟩:=TD r k d n (by omega) λp h'=>hp p (.tail _ h')
   have i3:(putL r k d).length<=r.length+1:=by
    clear i1 i2 hp hds hl
    induction r with
    | nil=>simp[putL]
    | cons z r ih=>unfold putL;split <;> simp <;> omega
   refine⟨by rw[bJ];omega,λp h'=>?_⟩
   rcases aL.mp h' with rfl | h'
   ·exact oX hds
   ·exact i2 p h'
abbrev Ev:=Int × Lc
def kvsOf (E:List Ev):List (Int × List D):=E.foldl (λm e=>putL m e.1 (sdD e.2)) []
theorem Iw (E:List Ev) (e:Ev):kvsOf (E++[e])=putL (kvsOf E) e.1 (sdD e.2):=by unfold kvsOf;rw[tM];rfl
theorem Qk (E:List Ev):((kvsOf E).length<=E.length/\∀p∈kvsOf E,p.2.length<=E.length)/\((kvsOf E).map (·.1)).Nodup/\(∀c,c∈(kvsOf E).map (·.1)↔∃e∈E,e.1=c)/\∀c,xH (kvsOf E) c=(E.filter λe=>decide (e.1=c)).map λe=>sdD e.2:=by
 refine snoc_ind (P:=λE=>((kvsOf E).length<=E.length/\∀p∈kvsOf E,p.2.length<=E.length)/\((kvsOf E).map (·.1)).Nodup/\(∀c,c∈(kvsOf E).map (·.1)↔∃e∈E,e.1=c)/\∀c,xH (kvsOf E) c=(E.filter λe=>decide (e.1=c)).map λe=>sdD e.2) ?_ ?_ E
 ·exact⟨⟨aZ _,λp h=>by cases h⟩,KG,λc=>⟨λh=>(by cases h),λ⟨e,h,_⟩=>(by cases h)⟩,λc=>rfl⟩
 ·rintro E e ⟨⟨h1,h2⟩,h3,h4,h5⟩
  rw[Iw]
  refine⟨by rw[bV];exact TD _ _ _ _ h1 h2,?_,λc=>?_,λc=>?_⟩
  ·rw[zF]
   split
   ·exact h3
   ·rename_i n
    exact oU.mpr ⟨h3,kH _ _,λa ha b hb e'=>n (by rw[cG.mp hb] at e';exact e' ▸ ha)⟩
  ·rw[zF]
   split
   ·rename_i m
    rw[h4 c]
    constructor
    ·rintro⟨x,hx,rfl⟩;exact⟨x,eP _ hx,rfl⟩
    ·rintro⟨x,hx,rfl⟩
     rcases cH.mp hx with hx | hx
     ·exact⟨x,hx,rfl⟩
     ·rw[cG.mp hx];exact (h4 _).mp m
   ·rw[cH,h4 c,cG]
    constructor
    ·rintro (⟨x,hx,rfl⟩ | rfl)
     ·exact⟨x,eP _ hx,rfl⟩
     ·exact⟨e,bK _ (.head _),rfl⟩
    ·rintro⟨x,hx,rfl⟩
     rcases cH.mp hx with hx | hx
     ·exact .inl ⟨x,hx,rfl⟩
     ·rw[cG.mp hx];exact .inr rfl
  ·rw[MB,h5 c,CT,dN]
   by_cases hc:e.1=c
   ·rw[if_pos hc];simp[hc]
   ·rw[if_neg hc];simp[hc]
where
 snoc_ind {α:Type} {P:List α->Prop} (h0:P []) (hs:∀E e,P E->P (E++[e])) (E:List α):P E:=by
  have:∀(n:Nat) (E:List α),E.length=n->P E:=by
   intro n
   induction n with
   | zero=>intro E h;rw[iM.mp h];exact h0
   | succ n ih =>
    intro E h
    rcases eW E with rfl | ⟨E',e,rfl⟩
    ·cases h
    ·rw[xQ] at h ⊢
     exact hs E' e (ih E' (by simpa using h))
  exact this _ E rfl
namespace K33
abbrev ky:Ent->Int:=λe=>e.1
abbrev Dc (es:List Ent):D:=.lst (es.map λe=>btD e.2)
def kvG (es:List Ent):List (Int × List D):=es.foldl (λm e=>putL m e.1 (btD e.2)) []
theorem zH (es:List Ent) (e:Ent):kvG (es++[e])=putL (kvG es) e.1 (btD e.2):=by unfold kvG;rw[tM];rfl
structure KvG (es:List Ent):Prop where
 sz:(kvG es).length<=es.length/\∀p∈kvG es,p.2.length<=es.length
 nd:((kvG es).map (·.1)).Nodup
 mem:∀c,c∈(kvG es).map (·.1)↔∃e∈es,e.1=c
 at':∀c,xH (kvG es) c=(grp ky es c).map λe=>btD e.2
theorem Iv (es:List Ent):KvG es:=by
 refine Qk.snoc_ind (P:=KvG) ?_ ?_ es
 ·exact⟨⟨aZ _,λp h=>by cases h⟩,KG,λc=>⟨λh=>(by cases h),λ⟨e,h,_⟩=>(by cases h)⟩,λc=>rfl⟩
 ·rintro E e ⟨⟨h1,h2⟩,h3,h4,h5⟩
  refine⟨by rw[zH,bV];exact TD _ _ _ _ h1 h2,?_,λc=>?_,λc=>?_⟩
  ·rw[zH,zF]
   split
   ·exact h3
   ·rename_i n
    exact oU.mpr ⟨h3,kH _ _,λa ha b hb e'=>n (by rw[cG.mp hb] at e';exact e' ▸ ha)⟩
  ·rw[zH,zF]
   split
   ·rename_i m
    rw[h4 c]
    constructor
    ·rintro⟨x,hx,rfl⟩;exact⟨x,eP _ hx,rfl⟩
    ·rintro⟨x,hx,rfl⟩
     rcases cH.mp hx with hx | hx
     ·exact⟨x,hx,rfl⟩
     ·rw[cG.mp hx];exact (h4 _).mp m
   ·rw[cH,h4 c,cG]
    constructor
    ·rintro (⟨x,hx,rfl⟩ | rfl)
     ·exact⟨x,eP _ hx,rfl⟩
     ·exact⟨e,bK _ (.head _),rfl⟩
    ·rintro⟨x,hx,rfl⟩
     rcases cH.mp hx with hx | hx
     ·exact .inl ⟨x,hx,rfl⟩
     ·rw[cG.mp hx];exact .inr rfl
  ·rw[zH,MB,h5 c,grp,grp,CT,dN]
   by_cases hc:e.1=c
   ·rw[if_pos hc];simp[ky,hc]
   ·rw[if_neg hc];simp[ky,hc]
theorem Aw:∀(kvs:List (Int × List D)) (c:Int),c ∉ kvs.map (·.1)->tQ (kvs.map (·.1)) (kvs.map λp=>.lst p.2) c=none
 | [],_,h=>rfl
 | (k',ds)::r,c,h=>by
  simp only[aU,tQ]
  rw[aU,aL,not_or] at h
  rw[if_neg λe=>h.1 e.symm]
  exact Aw r c h.2
structure Grp (es:List Ent) (ks:List Int) (xs:List D):Prop where
 len:ks.length=xs.length
 kl:ks.length<=es.length
 nodup:ks.Nodup
 mem:∀c,c∈ks↔∃e∈es,e.1=c
 here:∀c∈ks,tQ ks xs c=some (Dc (grp ky es c))
 get:∀c,(tQ ks xs c).getD (.lst [])=Dc (grp ky es c)
theorem Tc (es:List Ent):Grp es ((kvG es).map (·.1)) ((kvG es).map λp=>.lst p.2):=by
 obtain⟨⟨h1,h2⟩,h3,h4,h5⟩:=Iv es
 have here:∀c∈(kvG es).map (·.1),tQ ((kvG es).map (·.1)) ((kvG es).map λp=>.lst p.2) c=some (Dc (grp ky es c)):=λc hc=>by rw[UC _ c hc,h5 c]
 refine⟨by simp,by simpa using h1,h3,h4,here,λc=>?_⟩
 by_cases hc:c∈(kvG es).map (·.1)
 ·rw[here c hc];rfl
 ·rw[Aw _ c hc]
  have:grp ky es c=[]:=jP λn=>hc ((h4 c).mpr (Me n))
  rw[this];rfl
def F_byNum:FD:=λds Q=>∃es:List Ent,ds=[esD es]/\es.length<=10/\∀ks xs,Grp es ks xs->Q (.dct ks xs)
theorem len_byNum:∀ds Q,F_byNum ds Q->ds.length=1:=by rintro ds Q ⟨_,rfl,_⟩;rfl
theorem pure_bits_by_number:∀ds Q,F_byNum ds Q->tV { nx:=λ_=>Q .non,rt:=Q } (dO ["triangles","groups","number","bit"] ds):=by
 rintro ds Q ⟨es,rfl,hl,q⟩
 rw[cS 3 rfl]
 unfold tV
 simp only[jJ,Kn,aU,cX,cD,cO]
 refine cP (λρ=>ρ=[some (.d (esD es)),some (.dcl (kvG [])),none,none]) (λK hK=>?_) ?_
 ·walk_at "rd"
  exact hK _ rfl
 rintro ρ rfl
 refine cP (λρ=>∃u v,ρ=[some (.d (esD es)),some (.dcl (kvG es)),u,v]) (λK hK=>?_) ?_
 ·simp only[rQ,riL,bY,aH]
  refine LM _ (λi ρ=>∃u v,ρ=[some (.d (esD es)),some (.dcl (kvG (es.take i))),u,v]) ?_ ?_ _ ⟨_,_,rfl⟩
  ·rintro i x ρ hx ⟨u,v,rfl⟩ F hr hb hn hc
   rw[aT] at hx
   cases he:es[i]? with
   | none=>rw[he] at hx;cases hx
   | some e =>
    rw[he] at hx
    cases hx
    have et:es.take (i+1)=es.take i++[e]:=by rw[oV,he];rfl
    obtain⟨⟨k1,k2⟩,_⟩:=Iv (es.take i)
    have tl:(es.take i).length<=10:=by rw[fC];omega
    unfold qM enD
    simp only[qN,fP,pG,dH,Cj,bY,bJ,dU,aH,aI,bC,bH,true_and]
    refine⟨oH (by omega),λp hp=>oH (by have:=k2 p hp;omega),?_⟩
    refine hn _ ⟨some (.d (.int e.1)),some (.d (btD e.2)),?_⟩
    rw[et,zH]
  ·rintro ρ ⟨u,v,rfl⟩
   rw[aS,uV]
   exact hK _ ⟨u,v,rfl⟩
 rintro ρ ⟨u,v,rfl⟩
 simp only[JB,S.fz,fZ,bY,aH,aI,bC,bH]
 exact q _ _ (Tc es)
def Hgt (fs:List P2) (c:Int) (h:P2):Prop:=∃s t:P2,fs[c.toNat]? = some s/\fs[(c+1).toNat]? = some t/\Low (t.1*s.2-s.1*t.2) (t.2*s.2) h.1 h.2
def F_joined33:FD:=λds Q=>∃(c:Int) (x y:D) (fs:List P2),ds=[.int c,x,y,pts fs]/\(0<=c/\c+1<(fs.length:Int))/\(∀f∈fs,LeanOk 40 f)/\∀h,Hgt fs c h->Q (.tup [.int c,pt h,.lst [x,y]])
theorem len_joined33:∀ds Q,F_joined33 ds Q->ds.length=4:=by rintro ds Q ⟨_,_,_,_,rfl,_⟩;rfl
theorem pure_joined33:∀ds Q,F_joined33 ds Q->QQ EC { nx:=λ_=>Q .non,rt:=Q } (dO ["number","one","other","leans"] ds):=by
 rintro ds Q ⟨c,x,y,fs,rfl,⟨c0,c1⟩,hf,q⟩
 rw[cS 0 rfl]
 unfold QQ
 walk_at "rd"
 refine MR (by omega) (by omega) λt ht=>?_
 refine MR c0 (by omega) λs hs=>?_
 have os:=hf s (bF hs)
 have ot:=hf t (bF ht)
 refine⟨t.1,t.2,s.1,s.2,rfl,⟨ot.pos,os.pos⟩,⟨ot.top.mono (by decide),ot.bot.mono (by decide),os.top.mono (by decide),os.bot.mono (by decide)⟩,λp q' l=>?_⟩
 walk_at "rd"
 exact q (p,q') ⟨s,t,hs,ht,l⟩
end K33
abbrev mv (k r w:Int) (z:Pt):Pt:=(k*z.1+r,k*z.2+w)
structure PushOf (sh0:Int) (cs:List Pt) (sign p q u v:Int) (sh:Int) (zs:List Pt):Prop where
 ex:∃(κ s r w m:Int) (z:Pt) (T:List Pt),(0<κ/\s=κ*sh0/\s<=sh0*q*v)/\(r*q=p*s/\w*v=u*s)/\Rot (cs.map (mv (sign*κ) r w)) (z::T)/\(∀q∈T,¬ltP q z)/\Cvx (z::T)/\NormOf s (z::T) m sh zs
def uR:FD:=λds Q=>∃(sh0 sign p q u v:Int) (cs:List Pt),ds=[.tup [.int sh0,.tup (cs.map pt)],.tup [.int sign,.tup [.int p,.int q],.tup [.int u,.int v]]]/\(0<sh0/\0<q/\0<v/\(sign=1\/sign = -1)) /\
 (BL 2000 sh0/\BL 2000 q/\BL 2000 v/\BL 7000 p/\BL 7000 u)/\(∀z∈cs,BL 7000 z.1/\BL 7000 z.2)/\Cvx cs/\cs.length<64/\∀sh zs,PushOf sh0 cs sign p q u v sh zs->Q (.tup [.int sh,.tup (zs.map pt)])
theorem YW:∀ds Q,uR ds Q->ds.length=2:=by rintro ds Q ⟨_,_,_,_,_,_,_,rfl,_⟩;rfl
theorem Mx (k r w:Int) (a b c:Pt):cM (mv k r w a) (mv k r w b) (mv k r w c)=k*k*cM a b c:=by unfold cM mv;dsimp only;grind
theorem Jj {k r w:Int} (hk:k≠0) {a b:Pt} (h:mv k r w a=mv k r w b):a=b:=by
 simp only[mv,fD] at h
 have h1:k*a.1=k*b.1:=by omega
 have h2:k*a.2=k*b.2:=by omega
 exact fY (dX hk h1) (dX hk h2)
theorem Se {k:Int} (h:k≠0):0<k*k:=by
 rcases Int.lt_or_gt_of_ne h with h | h
 ·have:=bZ (a:=-k) (b:=-k) (by omega) (by omega)
  rwa [Int.neg_mul_neg] at this
 ·exact bZ h h
theorem TN {a b:Int} {n:Nat} (h0:0<a) (h:a<=b) (hb:BL n b):BL n a:=hb.le (by omega)
theorem WQ:∀ds Q,uR ds Q->QR rT Ak { nx:=λ_=>Q .non,rt:=Q } (dO ["piece","move","dx","dy","share","scale","right","up"] ds):=by
 rintro ds Q ⟨sh0,sign,p,q,u,v,cs,rfl,⟨h0,hq,hv,hs⟩,⟨b0,bq,bv,bp,bu⟩,bc,cv,hl,hQ⟩
 rw[cS 6 rfl]
 unfold QR
 simp only[jJ,Nx,aU,cX,cD,cO]
 generalize hP:D.tup [.int sh0,.tup (cs.map pt)]=PD
 generalize hM:D.tup [.int sign,.tup [.int p,.int q],.tup [.int u,.int v]]=MD
 refine cP (λρ=>ρ=[some (.d PD),some (.d MD),some (.d (.tup [.int p,.int q])),none,none,none,none,none]) (λK hK=>?_) ?_
 ·rw[<-hP,<-hM] at hK ⊢
  walk_at "rd"
  exact hK _ rfl
 rintro ρ rfl
 refine cP (λρ=>ρ=[some (.d PD),some (.d MD),some (.d (.tup [.int p,.int q])),some (.d (.tup [.int u,.int v])),none,none,none,none]) (λK hK=>?_) ?_
 ·rw[<-hP,<-hM] at hK ⊢
  walk_at "rd"
  exact hK _ rfl
 rintro ρ rfl
 refine cP (λρ=>∃s:Int,(0<s/\sh0∣s/\q∣s/\v∣s/\s<=sh0*q*v)/\ρ=[some (.d PD),some (.d MD),some (.d (.tup [.int p,.int q])),some (.d (.tup [.int u,.int v])),some (.d (.int s)),none,none,none]) (λK hK=>?_) ?_
 ·rw[<-hP,<-hM] at hK ⊢
  walk_at "rd"
  refine⟨sh0,q,rfl,⟨h0,hq⟩,⟨b0.mono (by decide),bq.mono (by decide)⟩,λl l0 l1 l2 l3=>?_⟩
  refine⟨l,v,rfl,⟨l0,hv⟩,⟨(TN l0 l3 (b0.mul bq)).mono (by decide),bv.mono (by decide)⟩,λs s0 s1 s2 s3=>?_⟩
  refine hK _ ⟨s,⟨s0,lG l1 s1,lG l2 s1,s2,?_⟩,rfl⟩
  exact Int.le_trans s3 (Int.mul_le_mul_of_nonneg_right l3 (by omega))
 rintro ρ ⟨s,⟨s0,⟨κ,e1⟩,⟨cq,e2⟩,⟨cv',e3⟩,s4⟩,rfl⟩
 have bs:BL 6000 s:=TN s0 s4 ((b0.mul bq).mul bv)
 have pk:0<κ:=by
  apply CQ.mp
  intro hn
  have:sh0*κ<=0:=gD (by omega) hn
  omega
 have d1:s.fdiv sh0=κ:=by rw[cJ _ (by omega),e1,eT _ (by omega)]
 have d2:s.fdiv q=cq:=by rw[cJ _ (by omega),e2,eT _ (by omega)]
 have d3:s.fdiv v=cv':=by rw[cJ _ (by omega),e3,eT _ (by omega)]
 have bk:BL 6000 κ:=by rw[<-d1];exact bs.fdiv
 have bcq:BL 6000 cq:=by rw[<-d2];exact bs.fdiv
 have bcv:BL 6000 cv':=by rw[<-d3];exact bs.fdiv
 have bsg:BL 1 sign:=by rcases hs with rfl | rfl <;> exact BL.const (by decide)
 refine cP (λρ=>ρ=[some (.d PD),some (.d MD),some (.d (.tup [.int p,.int q])),some (.d (.tup [.int u,.int v])),some (.d (.int s)),some (.d (.int (sign*κ))),none,none]) (λK hK=>?_) ?_
 ·rw[<-hP,<-hM] at hK ⊢
  walk_at "rd"
  rw[d1]
  exact⟨(b0.mono (by decide)).divOk (by omega),bsg.mulOk bk,hK _ rfl⟩
 rintro ρ rfl
 refine cP (λρ=>ρ=[some (.d PD),some (.d MD),some (.d (.tup [.int p,.int q])),some (.d (.tup [.int u,.int v])),some (.d (.int s)),some (.d (.int (sign*κ))),some (.d (.int (p*cq))),none]) (λK hK=>?_) ?_
 ·rw[<-hP,<-hM] at hK ⊢
  walk_at "rd"
  rw[d2]
  exact⟨(bq.mono (by decide)).divOk (by omega),bp.mulOk bcq,hK _ rfl⟩
 rintro ρ rfl
 refine cP (λρ=>ρ=[some (.d PD),some (.d MD),some (.d (.tup [.int p,.int q])),some (.d (.tup [.int u,.int v])),some (.d (.int s)),some (.d (.int (sign*κ))),some (.d (.int (p*cq))),some (.d (.int (u*cv')))]) (λK hK=>?_) ?_
 ·rw[<-hP,<-hM] at hK ⊢
  walk_at "rd"
  rw[d3]
  exact⟨(bv.mono (by decide)).divOk (by omega),bu.mulOk bcv,hK _ rfl⟩
 rintro ρ rfl
 rw[<-hP]
 have bkk:=bsg.mul bk
 walk_at "rd"
 refine⟨oH (by simp;omega),?_⟩
 refine sM (λρ=>∃a b,ρ=[a,b,some (.d (.int (sign*κ))),some (.d (.int (p*cq))),some (.d (.int (u*cv')))]) pt (λz=>pt (mv (sign*κ) (p*cq) (u*cv') z)) cs ?_ ⟨_,_,rfl⟩ ?_
 ·rintro z hz ρ ⟨a,b,rfl⟩ K' hK'
  walk_at "rd"
  obtain⟨z1,z2⟩:=bc z hz
  exact⟨bkk.mulOk z1,bkk.mulOk z2,hK' _ ⟨_,_,rfl⟩⟩
 have hk0:sign*κ≠0:=by rcases hs with rfl | rfl <;> omega
 have cv2:Cvx (cs.map (mv (sign*κ) (p*cq) (u*cv'))):=cv.map (Se hk0) (Mx _ _ _) λa b h=>Jj hk0 h
 obtain⟨z,T,rot,least⟩:=IJ (cs.map (mv (sign*κ) (p*cq) (u*cv'))) (by intro e;have:=cv2.len;rw[e] at this;simp at this)
 have cz:=Cvx.rot rot cv2
 refine⟨s,cs.map (mv (sign*κ) (p*cq) (u*cv')),by show _=[D.int s,.lst (qL pt (qL (mv (sign*κ) (p*cq) (u*cv')) cs))];rw[cZ];rfl,⟨s0,bs.mono (by decide)⟩,λw hw=>?_,by simpa using hl,eD ⟨z,T,⟨cz,least,λa ha=>(rot.mem a).mpr ha,λa b hab c hc=>cz.side hab ((rot.mem c).mp hc)⟩,λm sh zs N=>hQ sh zs ⟨κ,s,p*cq,u*cv',m,z,T,⟨pk,by rw[e1];exact mL ..,s4⟩,⟨by rw[e2];grind,by rw[e3];grind⟩,rot,least,cz,N⟩⟩⟩
 obtain⟨x,hx,rfl⟩:=cK.mp hw
 obtain⟨x1,x2⟩:=bc x hx
 exact⟨((bkk.mul x1).add (bp.mul bcq)).mono (by decide),((bkk.mul x2).add (bu.mul bcv)).mono (by decide)⟩
structure ImgOf (sh0:Int) (cs:List Pt) (sign p q u v:Int) (e:Int) (E:List Pt):Prop where
 ex:∃E',Rot E' E/\E'.length=cs.length/\∀(i:Nat) (a b:Pt),cs[i]? = some a->E'[i]? = some b->b.1*(sh0*q)=e*(sign*a.1*q+p*sh0)/\b.2*(sh0*v)=e*(sign*a.2*v+u*sh0)
theorem PushOf.norm {sh0 sign p q u v sh e m' sh':Int} {cs zs E zs':List Pt} (P:PushOf sh0 cs sign p q u v sh zs) (h0:0<sh0) (hq:0<q) (hv:0<v) (he:0<e) (I:ImgOf sh0 cs sign p q u v e E) {w:Pt} {T':List Pt} (hE:E=w::T') (hl:∀x∈T',¬ltP x w) (N:NormOf e E m' sh' zs'):sh=sh'/\zs=zs':=by
 obtain⟨κ,s,r,w',m,z,T,⟨pk,es,_⟩,⟨er,ew⟩,rot,least,cz,N0⟩:=P
 obtain⟨E',rotE,len,pt⟩:=I
 have ps:0<s:=by rw[es];exact bZ pk h0
 have lists:(cs.map (mv (sign*κ) r w')).map (scl e)=E'.map (scl s):=by
  apply mM (by simp[len])
  intro i h1 h2
  simp only[aS] at h1 h2
  simp only[pY]
  obtain⟨g1,g2⟩:=pt i _ _ (aC h1) (aC h2)
  have k1:(0:Int)<sh0*q:=bZ h0 hq
  have k2:(0:Int)<sh0*v:=bZ h0 hv
  refine fY ?_ ?_
  ·show e*(sign*κ*cs[i].1+r)=s*E'[i].1
   refine eI (a:=sh0*q) (by omega) ?_
   rw[kD s,g1,es]
   rw[es] at er
   grind
  ·show e*(sign*κ*cs[i].2+w')=s*E'[i].2
   refine eI (a:=sh0*v) (by omega) ?_
   rw[kD s,g2,es]
   rw[es] at ew
   grind
 have rr:Rot ((z::T).map (scl e)) (E.map (scl s)):=((rot.symm.map (scl e)).trans (by rw[lists];exact Rot.refl _)).trans (rotE.map (scl s))
 subst hE
 rw[aU,aU] at rr
 have nd:(scl e z::T.map (scl e)).Nodup:=by
  have:((z::T).map (scl e)).Nodup:=jT (scl e) (λa b hn h=>hn (JW he h)) cz.nodup
  exact this
 have eq:=rr.least nd (λx hx=>by obtain⟨y,hy,rfl⟩:=cK.mp hx;rw[NK he];exact least y hy) λx hx=>by obtain⟨y,hy,rfl⟩:=cK.mp hx;rw[NK ps];exact hl y hy
 exact N0.same N he ps (mL ..) (by simpa using eq)
abbrev lo (x:Int):Pt:=(x,x*x)
abbrev hi (top x:Int):Pt:=(x,top-x*x)
section
variable {top:Int}
end
theorem Jd (z w:Pt):HT.lexLt [z.1,z.2] [w.1,w.2]=decide (ltP z w):=by
 unfold ltP
 simp only[HT.lexLt]
 by_cases h:z.1=w.1
 ·rw[if_pos h]
  by_cases h2:z.2=w.2
  ·rw[if_pos h2];simp[h,h2]
  ·rw[if_neg h2];simp[h]
 ·rw[if_neg h];simp[h]
theorem DV {α:Type} (j:Nat) (xs:List α):Rot xs (turned j xs):=⟨xs.take j,xs.drop j,by rw[fW],rfl⟩
theorem NQ {α β:Type} (j:Nat) (f:α->β) (xs:List α):turned j (xs.map f)=(turned j xs).map f:=by unfold turned;simp
theorem DueOf.norm {share:Int} {cs:List Pt} {m sh:Int} {ds:List Pt} {j:Nat} (h:DueOf share cs m sh ds j):NormOf share (turned j cs) m sh (turned j ds):=by
 refine⟨h.mpos,h.sh_eq,?_,λd h1 h2=>h.cop d h1 λz hz=>h2 z (((DV j ds).mem z).mp hz)⟩
 conv=>lhs;rw[h.cs_eq]
 exact NQ j _ ds
theorem DueOf.first {share:Int} {cs:List Pt} {m sh:Int} {ds:List Pt} {j:Nat} (h:DueOf share cs m sh ds j):∃w T,turned j cs=w::T/\∀x∈T,¬ltP x w:=by
 obtain⟨z,T,e⟩:∃z T,turned j ds=z::T:=by
  have hj:=h.j_lt
  refine⟨ds[j],ds.drop (j+1)++ds.take j,?_⟩
  show ds.drop j++ds.take j=_
  rw[fQ hj];rfl
 have ez:ds[j]? = some z:=by
  have:(turned j ds)[0]? = some z:=by rw[e];rfl
  have hj:=h.j_lt
  unfold turned at this
  rw[dA (by simp;omega),sG] at this
  simpa using this
 refine⟨scl m z,T.map (scl m),?_,λx hx=>?_⟩
 ·conv=>lhs;rw[h.cs_eq]
  rw[NQ,e];rfl
 ·obtain⟨y,hy,rfl⟩:=cK.mp hx
  rw[NK h.mpos]
  have:=h.least y (((DV j ds).mem y).mpr (by rw[e];simp[hy])) z ez
  rw[Jd] at this
  simpa using this
theorem FN {f:D->D->Option Bool}:∀(xs:List D),(∀x∈xs,f x x=some true)->eqL f xs xs=some true
 | [],_=>rfl
 | x::xs,h=>by
  simp only[eqL,h x (by simp),FN xs λy hy=>h y (by simp[hy])]
  rfl
theorem Bh (n:Nat) (i:Int):eqF (n+1) (.int i) (.int i)=some true:=by simp[eqF]
theorem Ma (n:Nat) (z:Pt):eqF (n+2) (pt z) (pt z)=some true:=by
 show eqL (eqF (n+1)) _ _=_
 refine FN _ λx hx=>?_
 simp only[aL,eB,or_false] at hx
 rcases hx with rfl | rfl <;> exact Bh n _
abbrev pce (sh:Int) (zs:List Pt):D:=.tup [.int sh,.tup (zs.map pt)]
theorem Px (n:Nat) (sh:Int) (zs:List Pt):eqL (eqF (n+3)) [.int sh,.tup (zs.map pt)] [.int sh,.tup (zs.map pt)]=some true:=by
 refine FN _ λx hx=>?_
 simp only[aL,eB,or_false] at hx
 rcases hx with rfl | rfl
 ·exact Bh _ _
 ·show eqL (eqF (n+2)) _ _=_
  refine FN _ λy hy=>?_
  obtain⟨z,_,rfl⟩:=cK.mp hy
  exact Ma _ _
def IsSign (s:Int):Prop:=s=1\/s = -1
theorem IsSign.bl {s:Int} (h:IsSign s):BL 10 s:=by rcases h with rfl | rfl <;> exact BL.const
theorem IsSign.abs {s:Int} (h:IsSign s):s.natAbs=1:=by rcases h with rfl | rfl <;> rfl
theorem IsSign.natAbs_mul {s a:Int} (h:IsSign s):(s*a).natAbs=a.natAbs:=by rw[mB,h.abs,Nat.one_mul]
def lX:FD:=λds Q=>∃s a b:Int,ds=[.int s,fr a b]/\IsSign s/\BL 4000 a/\Q (fr (s*a) b)
theorem YY:∀ds Q,lX ds Q->ds.length=2:=by rintro ds Q ⟨a,b,c,rfl,_⟩;rfl
theorem WS:∀ds Q,lX ds Q->QS { nx:=λ_=>Q .non,rt:=Q } (dO ["sign","one"] ds):=by
 rintro ds Q ⟨s,a,b,rfl,hs,ba,q⟩
 rw[cS 0 rfl]
 unfold QS
 walk_at "rd"
 exact⟨hs.bl.mulOk ba,q⟩
abbrev mvM (s c d e f:Int):D:=.tup [.int s,fr c d,fr e f]
abbrev sp (a b g h:Int):D:=.tup [fr a b,fr g h]
def OY:FD:=λds Q=>∃s c d e f a b g h:Int,ds=[mvM s c d e f,sp a b g h]/\IsSign s/\(0<d/\0<f/\0<b/\0<h)/\(BL 4000 c/\BL 4000 d/\BL 4000 e/\BL 4000 f/\BL 4000 a/\BL 4000 b/\BL 4000 g/\BL 4000 h) /\
 ∀p q r t,Low (s*a*d+c*b) (b*d) p q->Low (s*g*f+e*h) (h*f) r t->Q (sp p q r t)
theorem Mq:∀ds Q,OY ds Q->ds.length=2:=by rintro ds Q ⟨_,_,_,_,_,_,_,_,_,rfl,_⟩;rfl
theorem Ka:∀ds Q,OY ds Q->Kl GF lX { nx:=λ_=>Q .non,rt:=Q } (dO ["move","spot","sign"] ds):=by
 rintro ds Q ⟨s,c,d,e,f,a,b,g,h,rfl,hs,⟨d0,f0,b0,h0⟩,⟨bc,bd,be,bf,ba,bb,bg,bh⟩,q⟩
 rw[cS 1 rfl]
 unfold Kl
 walk_at "rd"
 refine⟨s,a,b,rfl,hs,ba,_,_,_,_,rfl,⟨b0,d0⟩,⟨ba.le (wE hs.natAbs_mul),bb,bc,bd⟩,λp q' l1=>?_⟩
 refine⟨s,g,h,rfl,hs,bg,_,_,_,_,rfl,⟨h0,f0⟩,⟨bg.le (wE hs.natAbs_mul),bh,be,bf⟩,λr t l2=>?_⟩
 exact q _ _ _ _ l1 l2
def uP:FD:=λds Q=>∃s c d e f s' c' d' e' f':Int,ds=[mvM s c d e f,mvM s' c' d' e' f']/\(IsSign s/\IsSign s')/\(0<d/\0<f/\0<d'/\0<f')/\(BL 4000 c/\BL 4000 d/\BL 4000 e/\BL 4000 f/\BL 4000 c'/\BL 4000 d'/\BL 4000 e'/\BL 4000 f') /\
 ∀p q r t,Low (s'*c*d'+c'*d) (d*d') p q->Low (s'*e*f'+e'*f) (f*f') r t->Q (mvM (s*s') p q r t)
theorem YS:∀ds Q,uP ds Q->ds.length=2:=by rintro ds Q ⟨_,_,_,_,_,_,_,_,_,_,rfl,_⟩;rfl
theorem WO:∀ds Q,uP ds Q->QP OY { nx:=λ_=>Q .non,rt:=Q } (dO ["first","second","shift"] ds):=by
 rintro ds Q ⟨s,c,d,e,f,s',c',d',e',f',rfl,⟨hs,hs'⟩,⟨d0,f0,d0',f0'⟩,⟨bc,bd,be,bf,bc',bd',be',bf'⟩,q⟩
 rw[cS 1 rfl]
 unfold QP
 walk_at "rd"
 refine⟨s',c',d',e',f',c,d,e,f,rfl,hs',⟨d0',f0',d0,f0⟩,⟨bc',bd',be',bf',bc,bd,be,bf⟩,λp q' r t l1 l2=>?_⟩
 walk_at "rd"
 exact⟨hs.bl.mulOk hs'.bl,q _ _ _ _ l1 l2⟩
def pU:FD:=λds Q=>∃s c d e f:Int,ds=[mvM s c d e f]/\IsSign s/\(BL 4000 c/\BL 4000 e)/\Q (mvM s (-s*c) d (-s*e) f)
theorem SK:∀ds Q,pU ds Q->ds.length=1:=by rintro ds Q ⟨_,_,_,_,_,rfl,_⟩;rfl
theorem IsSign.neg {s:Int} (h:IsSign s):IsSign (-s):=by rcases h with rfl | rfl;exact .inr rfl;exact .inl rfl
theorem OT:∀ds Q,pU ds Q->IQ lX { nx:=λ_=>Q .non,rt:=Q } (dO ["move","sign"] ds):=by
 rintro ds Q ⟨s,c,d,e,f,rfl,hs,⟨bc,be⟩,q⟩
 rw[cS 1 rfl]
 unfold IQ
 walk_at "rd"
 exact⟨_,_,_,rfl,hs.neg,bc,_,_,_,rfl,hs.neg,be,q⟩
namespace K34
open K33
structure Told (e:Int) (A:List Pt) (sh:Int) (zs:List Pt):Prop where
 ex:∃(w:Pt) (T:List Pt) (m:Int),Rot A (w::T)/\(∀x∈T,¬ltP x w)/\NormOf e (w::T) m sh zs
theorem Told.same {e1 e2 sh1 sh2:Int} {A B zs1 zs2:List Pt} (a:Told e1 A sh1 zs1) (b:Told e2 B sh2 zs2) (h1:0<e1) (h2:0<e2) (eq:A.map (scl e2)=B.map (scl e1)) (nd:A.Nodup):sh1=sh2/\zs1=zs2:=by
 obtain⟨w1,T1,m1,ra,l1,N1⟩:=a
 obtain⟨w2,T2,m2,rb,l2,N2⟩:=b
 have rr:Rot ((w1::T1).map (scl e2)) ((w2::T2).map (scl e1)):=((ra.symm.map (scl e2)).trans (by rw[eq];exact Rot.refl _)).trans (rb.map (scl e1))
 have nd1:((w1::T1).map (scl e2)).Nodup:=jT (scl e2) (λa b hn h=>hn (JW h2 h)) (ra.nodup nd)
 rw[aU,aU] at rr
 rw[aU] at nd1
 have eq:=rr.least nd1 (λx hx=>by obtain⟨y,hy,rfl⟩:=cK.mp hx;rw[NK h2];exact l1 y hy) λx hx=>by obtain⟨y,hy,rfl⟩:=cK.mp hx;rw[NK h1];exact l2 y hy
 exact N1.same N2 h2 h1 (mL ..) (by simpa using eq)
theorem Told.rot {e sh:Int} {A B zs:List Pt} (a:Told e A sh zs) (r:Rot A B):Told e B sh zs:=by
 obtain⟨w,T,m,ra,l,N⟩:=a
 exact⟨w,T,m,r.symm.trans ra,l,N⟩
theorem Told.ring {e sh:Int} {A zs:List Pt} (a:Told e A sh zs):∃A',Rot A A'/\zs.map (scl e)=A'.map (scl sh):=by
 obtain⟨w,T,m,ra,l,N⟩:=a
 refine⟨w::T,ra,?_⟩
 have h1:=N.cs_eq
 have h2:=N.sh_eq
 rw[h1,cZ]
 refine gT λz _=>?_
 show scl e z=(sh*(m*z.1),sh*(m*z.2))
 rw[h2]
 exact fY (by dsimp only[scl];grind) (by dsimp only[scl];grind)
theorem UP {share:Int} {cs:List Pt} {m sh:Int} {ds:List Pt} {j:Nat} (h:DueOf share cs m sh ds j):Told share cs sh (turned j ds):=by
 obtain⟨w,T,e,l⟩:=h.first
 have N:=h.norm
 rw[e] at N
 exact⟨w,T,m,by rw[<-e];exact DV j cs,l,N⟩
theorem QL {sh0 sign p q u v sh:Int} {cs zs:List Pt} (P:PushOf sh0 cs sign p q u v sh zs):∃κ r w:Int,(0<κ/\r*q=p*(κ*sh0)/\w*v=u*(κ*sh0))/\Told (κ*sh0) (cs.map (L2.R2.mv (sign*κ) r w)) sh zs:=by
 obtain⟨κ,s,r,w,m,z,T,⟨pk,es,_⟩,⟨er,ew⟩,rot,least,_,N⟩:=P
 subst es
 exact⟨κ,r,w,⟨pk,er,ew⟩,z,T,m,rot,least,N⟩
theorem Pz (share:Int) (hs:0<share) (cs:List Pt):∃g,GcdOf share cs g:=by
 have key:∀(todo done:List Pt),(∃g,GcdOf share done g)->∃g,GcdOf share (done++todo) g:=by
  intro todo
  induction todo with
  | nil=>intro done h;simpa using h
  | cons z todo ih =>
   intro done ⟨g,h⟩
   have:=ih (done++[z]) ⟨_,h.snoc z⟩
   simpa using this
 refine key cs [] ⟨share.natAbs,?_⟩
 refine⟨by omega,Int.natAbs_dvd.mpr (oQ _),λz hz=>absurd hz eB,λd h1 _=>?_⟩
 exact Int.ofNat_dvd.mp (Int.dvd_natAbs.mpr h1)
theorem Mz {e:Int} (he:0<e) (cs:List Pt):∃m sh zs,NormOf e cs m sh zs:=by
 obtain⟨g,G⟩:=Pz e he cs
 have gp:(0:Int)<g:=by have:=G.pos;omega
 have back:∀x:Int,(g:Int)∣x->(g:Int)*(x / g)=x:=λx h=>gG h
 refine⟨g,e / g,cs.map λz=>(z.1 / g,z.2 / g),⟨gp,(back e G.sh).symm,?_,λd h1 h2=>?_⟩⟩
 ·rw[cZ]
  conv=>lhs;rw[<-mE cs]
  refine gT λz hz=>?_
  obtain⟨a,b⟩:=G.all z hz
  exact fY (back _ a).symm (back _ b).symm
 ·have dg:((d*g:Nat):Int)∣e:=by
   rw[<-back e G.sh]
   obtain⟨c,hc⟩:=h1
   exact⟨c,by rw[hc];push_cast;grind⟩
  have da:∀z∈cs,((d*g:Nat):Int)∣z.1/\((d*g:Nat):Int)∣z.2:=λz hz=>by
   obtain⟨a,b⟩:=G.all z hz
   obtain⟨⟨c1,h3⟩,⟨c2,h4⟩⟩:=h2 _ (cK.mpr ⟨z,hz,rfl⟩)
   dsimp only at h3 h4
   exact⟨⟨c1,by rw[<-back z.1 a,h3];push_cast;grind⟩,⟨c2,by rw[<-back z.2 b,h4];push_cast;grind⟩⟩
  have:=G.most _ dg da
  have le:=uD G.pos this
  have dp:0<d:=by
   rcases sH d with h | h
   ·subst h;rw[Nat.zero_mul] at this
    have:=uX this
    have:=G.pos;omega
   ·exact h
  have g0:=G.pos
  by_cases h:d=1
  ·exact h
  ·have:2*g<=d*g:=yR g (by omega)
   omega
theorem Cs {e:Int} (he:0<e) {A:List Pt} (hA:A≠[]):∃sh zs,Told e A sh zs:=by
 obtain⟨w,T,r,l⟩:=IJ A hA
 obtain⟨m,sh,zs,N⟩:=Mz he (w::T)
 exact⟨sh,zs,w,T,m,r,l,N⟩
theorem Vf {a b c:Pt} (h:0<cM a b c):Cvx [a,b,c]:=by
 have e1:cM b c a=cM a b c:=by unfold cM;grind
 have e2:cM c a b=cM a b c:=by unfold cM;grind
 have ab:a≠b:=λe=>by subst e;unfold cM at h;grind
 have ac:a≠c:=λe=>by subst e;unfold cM at h;grind
 have bc:b≠c:=λe=>by subst e;unfold cM at h;grind
 refine⟨by simp,by simp[ab,ac,bc],λx y k q hq n1 n2=>?_⟩
 have m:(x=a/\y=b)\/(x=b/\y=c)\/(x=c/\y=a):=by
  obtain⟨l,r,e⟩:=k
  match l,e with
  | [],e=>simp at e;exact .inl ⟨e.1.symm,e.2.1.symm⟩
  | [_],e=>simp at e;exact .inr (.inl ⟨e.2.1.symm,e.2.2.1.symm⟩)
  | [_,_],e=>simp at e;exact .inr (.inr ⟨e.2.2.1.symm,e.2.2.2.1.symm⟩)
  | [_,_,_],e=>simp at e
  | _::_::_::_::l,e=>simp at e
 simp only[aL,eB,or_false] at hq
 rcases m with ⟨rfl,rfl⟩ | ⟨rfl,rfl⟩ | ⟨rfl,rfl⟩
 ·rcases hq with rfl | rfl | rfl
  ·exact (n1 rfl).elim
  ·exact (n2 rfl).elim
  ·exact h
 ·rcases hq with rfl | rfl | rfl
  ·rw[e1];exact h
  ·exact (n1 rfl).elim
  ·exact (n2 rfl).elim
 ·rcases hq with rfl | rfl | rfl
  ·exact (n2 rfl).elim
  ·rw[e2];exact h
  ·exact (n1 rfl).elim
def tY (s t:P2) (b:Bool):List Pt:=match b with
 | true=>[(0,0),(s.2*t.2,s.1*t.2),(s.2*t.2,t.1*s.2)]
 | false=>[(0,0),(s.2*t.2,t.1*s.2),(0,t.1*s.2-s.1*t.2)]
structure Rise (s t:P2):Prop where
 sp:0<s.2
 tp:0<t.2
 lt:s.1*t.2<t.1*s.2
theorem QX {s t:P2} (h:Rise s t) (b:Bool):Cvx (tY s t b):=by
 have sp:0<s.2*t.2:=bZ h.sp h.tp
 have d:0<t.1*s.2-s.1*t.2:=by have:=h.lt;omega
 have k:=bZ sp d
 cases b <;> (refine Vf ?_;unfold cM;dsimp only;grind)
structure WedgeOf (s t:P2) (b:Bool) (sh:Int) (zs:List Pt):Prop where
 told:Told (s.2*t.2) (tY s t b) sh zs
theorem WedgeOf.one {s t:P2} {b:Bool} {sh sh':Int} {zs zs':List Pt} (h:Rise s t) (x:WedgeOf s t b sh zs) (y:WedgeOf s t b sh' zs'):sh=sh'/\zs=zs' :=
 x.told.same y.told (bZ h.sp h.tp) (bZ h.sp h.tp) rfl (QX h b).nodup
theorem WedgeOf.pos {s t:P2} {b:Bool} {sh:Int} {zs:List Pt} (h:Rise s t) (x:WedgeOf s t b sh zs):0<sh/\sh∣s.2*t.2/\Cvx zs/\zs.length=3:=by
 obtain⟨w,T,m,ra,l,N⟩:=x.told
 have sp:0<s.2*t.2:=bZ h.sp h.tp
 have hm:=N.mpos
 have he:=N.sh_eq
 have p:0<sh:=by
  apply CQ.mp;intro hn
  have:m*sh<=0:=gD (by omega) hn
  omega
 have c:=Cvx.rot ra (QX h b)
 have lr:(w::T).length=3:=by
  obtain⟨X,Y,e1,e2⟩:=ra
  have a:=congrArg gU e1
  have b':=congrArg gU e2
  rw[bV] at a b'
  have:(tY s t b).length=3:=by cases b <;> rfl
  omega
 have ce:=N.cs_eq
 rw[ce] at c
 refine⟨p,⟨m,by rw[he,mL]⟩,Cvx.unscl hm c,?_⟩
 have:=congrArg gU ce
 simp only[aS] at this
 omega
theorem Rot.mapOf {α β:Type} {f:α->β} {A:List α} {B':List β} (r:Rot (A.map f) B'):∃B,Rot A B/\B'=B.map f:=by
 obtain⟨X,Y,e1,e2⟩:=r
 obtain⟨X',Y',h1,h2,h3⟩:=wC.mp e1
 exact⟨Y'++X',⟨X',Y',h1,rfl⟩,by rw[e2,dN,h2,h3]⟩
theorem Ah {s t:P2} {b:Bool} {sh sh':Int} {zs zs':List Pt} (h:Rise s t) (x:WedgeOf s t b sh zs) (P:PushOf sh zs (-1) 1 1 t.1 t.2 sh' zs'):WedgeOf s t (!b) sh' zs':=by
 obtain⟨κ,r,w,⟨pk,er,ew⟩,tl⟩:=QL P
 obtain⟨A',ra,ea⟩:=x.told.ring
 obtain⟨p,_,cz,_⟩:=x.pos h
 have sp:0<s.2*t.2:=bZ h.sp h.tp
 have tp:=h.tp
 have rb:Rot (A'.map λa=>((s.2*t.2-a.1,t.1*s.2-a.2):Pt)) (tY s t (!b)):=by
  refine (ra.symm.map _).trans ?_
  cases b with
  | true=>exact⟨[(s.2*t.2-0,t.1*s.2-0),(s.2*t.2-s.2*t.2,t.1*s.2-s.1*t.2)],[(s.2*t.2-s.2*t.2,t.1*s.2-t.1*s.2)],rfl,by show tY s t false=_;simp[tY]⟩
  | false=>exact⟨[(s.2*t.2-0,t.1*s.2-0)],[(s.2*t.2-s.2*t.2,t.1*s.2-t.1*s.2),(s.2*t.2-0,t.1*s.2-(t.1*s.2-s.1*t.2))],rfl,by show tY s t true=_;simp[tY];omega⟩
 have k0:0<κ*sh:=bZ pk p
 have lists:(zs.map (L2.R2.mv (-1*κ) r w)).map (scl (s.2*t.2))=(A'.map λa=>((s.2*t.2-a.1,t.1*s.2-a.2):Pt)).map (scl (κ*sh)):=by
  have len:zs.length=A'.length:=by have:=congrArg gU ea;simpa using this
  apply mM (by simp[len])
  intro i h1 h2
  simp only[aS] at h1 h2
  simp only[pY]
  have e:(zs.map (scl (s.2*t.2)))[i]? = (A'.map (scl sh))[i]?:=by rw[ea]
  rw[aT,aT,aC h1,aC h2] at e
  simp only[jQ,jW,scl,fD] at e
  obtain⟨e1,e2⟩:=e
  generalize zs[i]=y at e1 e2
  generalize A'[i]=a at e1 e2
  refine fY ?_ ?_
  ·show s.2*t.2*(-1*κ*y.1+r)=κ*sh*(s.2*t.2-a.1)
   have:r=κ*sh:=by omega
   rw[this];grind
  ·show s.2*t.2*(-1*κ*y.2+w)=κ*sh*(t.1*s.2-a.2)
   grind
 have nd:(zs.map (L2.R2.mv (-1*κ) r w)).Nodup:=jT _ (λa b hn e=>hn (Jj (by omega) e)) cz.nodup
 obtain⟨sh2,zs2,T2⟩:=Cs sp (A:=A'.map λa=>((s.2*t.2-a.1,t.1*s.2-a.2):Pt)) (by
  intro e
  have:=rb.mem (0,0)
  rw[e] at this
  have h0:((0,0):Pt)∈tY s t (!b):=by cases b <;> simp[tY]
  exact absurd (this.mpr h0) eB)
 obtain⟨rfl,rfl⟩:=tl.same T2 k0 sp lists nd
 exact⟨T2.rot rb⟩
abbrev thw (sign share p q u v:Int) (z:Pt):Pt:=(sign*z.1*(q*v)+p*v*share,sign*z.2*(q*v)+u*q*share)
theorem Cr {sign share p q u v:Int} (hs:sign=1\/sign = -1) (hq:0<q) (hv:0<v) {a b:Pt} (h:thw sign share p q u v a=thw sign share p q u v b):a=b:=by
 simp only[thw,fD] at h
 have k:=bZ hq hv
 have h1:sign*a.1*(q*v)=sign*b.1*(q*v):=by omega
 have h2:sign*a.2*(q*v)=sign*b.2*(q*v):=by omega
 have g1:=eI (by omega) h1
 have g2:=eI (by omega) h2
 rcases hs with rfl | rfl
 ·exact fY (by omega) (by omega)
 ·exact fY (by omega) (by omega)
def Home (sh0:Int) (zs0:List Pt) (m:Mv) (sh:Int) (zs:List Pt):Prop:=Told (sh0*(m.2.1.2*m.2.2.2)) (zs0.map (thw m.1 sh0 m.2.1.1 m.2.1.2 m.2.2.1 m.2.2.2)) sh zs
structure MvOk (m:Mv):Prop where
 sg:m.1=1\/m.1 = -1
 q0:0<m.2.1.2
 v0:0<m.2.2.2
theorem Home.one {sh0 sh sh':Int} {zs0 zs zs':List Pt} {m:Mv} (h0:0<sh0) (nd:zs0.Nodup) (hm:MvOk m) (a:Home sh0 zs0 m sh zs) (b:Home sh0 zs0 m sh' zs'):sh=sh'/\zs=zs' :=
 have e:=bZ h0 (bZ hm.q0 hm.v0)
 Told.same a b e e rfl (jT _ (λa b hn e=>hn (Cr hm.sg hm.q0 hm.v0 e)) nd)
theorem SC {sh0 sh1 t1 t2 sh sh':Int} {zs0 zs1 zs zs':List Pt} {m m1:Mv} (h0:0<sh0) (h1:0<sh1) (nd:zs0.Nodup) (tp:0<t2) (hm:MvOk m) (P:PushOf sh0 zs0 (-1) 1 1 t1 t2 sh1 zs1)
  (e1:m1.1 = -m.1) (l1:Low (m.1*m.2.1.2+m.2.1.1) m.2.1.2 m1.2.1.1 m1.2.1.2) (l2:Low (m.1*t1*m.2.2.2+m.2.2.1*t2) (t2*m.2.2.2) m1.2.2.1 m1.2.2.2) (a:Home sh0 zs0 m sh zs) (b:Home sh1 zs1 m1 sh' zs'):sh=sh'/\zs=zs':=by
 obtain⟨κ,r,w,⟨pk,er,ew⟩,tl⟩:=QL P
 obtain⟨A',ra,ea⟩:=tl.ring
 obtain⟨Z,rz,rfl⟩:=Rot.mapOf ra
 obtain⟨sg,⟨p,q⟩,u,v⟩:=m
 obtain⟨sg',⟨p',q'⟩,u',v'⟩:=m1
 obtain⟨hs,hq,hv⟩:=hm
 dsimp only at e1 l1 l2 hs hq hv
 subst e1
 have a':Told (sh0*(q*v)) (Z.map (thw sg sh0 p q u v)) sh zs:=Told.rot a (rz.map _)
 have q0':=l1.pos
 have v0':=l2.pos
 have w1:=l1.worth
 have w2:=l2.worth
 have k0:=bZ h0 (bZ hq hv)
 have k1:=bZ h1 (bZ q0' v0')
 have er':r=κ*sh0:=by omega
 subst er'
 refine Told.same a' b k0 k1 ?_ (jT _ (λa b hn e=>hn (Cr hs hq hv e)) (rz.nodup nd))
 have len:zs1.length=Z.length:=by have:=congrArg gU ea;simpa using this
 apply mM (by simp[len])
 intro i g1 g2
 simp only[aS] at g1 g2
 simp only[pY]
 have e:(zs1.map (scl (κ*sh0)))[i]? = ((Z.map (L2.R2.mv (-1*κ) (κ*sh0) w)).map (scl sh1))[i]?:=by rw[ea]
 rw[cZ,aT,aT,aC g1,aC g2] at e
 simp only[jQ,jW,scl,AX,L2.R2.mv,fD] at e
 obtain⟨x1,x2⟩:=e
 generalize zs1[i]=y at x1 x2
 generalize Z[i]=z at x1 x2
 have kk:=bZ pk h0
 refine fY ?_ ?_
 ·show sh1*(q'*v')*(sg*z.1*(q*v)+p*v*sh0)=sh0*(q*v)*(-sg*y.1*(q'*v')+p'*v'*sh1)
  refine eI (a:=κ*sh0*q) (vY (bZ kk hq)) ?_
  grind
 ·show sh1*(q'*v')*(sg*z.2*(q*v)+u*q*sh0)=sh0*(q*v)*(-sg*y.2*(q'*v')+u'*q'*sh1)
  refine eI (a:=κ*sh0*(t2*v)) (vY (bZ kk (bZ tp hv))) ?_
  grind
end K34
namespace K34
open K33
def cellOf (ns:List Int) (k:Int):Int:=if k<(ns.length:Int) then (ns.getD k.toNat 0).fmod big else 0
def uQ:FD:=λds Q=>∃(ns:List Int) (k:Int),ds=[il ns,.int k]/\0<=k/\∀c,0<=c->c<big->c=cellOf ns k->Q (.int c)
theorem YT:∀ds Q,uQ ds Q->ds.length=2:=by rintro ds Q ⟨_,_,rfl,_⟩;rfl
theorem JG:∀ds Q,uQ ds Q->FZ { nx:=λ_=>Q .non,rt:=Q } (dO ["_law_script","_law_k"] ds):=by
 rintro ds Q ⟨ns,k,rfl,hk,q⟩
 rw[cS 0 rfl]
 unfold FZ
 walk_at "rd"
 split
 ·rename_i hlt
  have hlt:k<(ns.length:Int):=by simpa using hlt
  have hj:k.toNat<ns.length:=by omega
  refine wN (x:=.int ns[k.toNat]) (YD (j:=k.toNat) (by omega) (by rw[aT,aC hj];rfl)) ?_
  refine⟨ZM,lM,?_⟩
  obtain⟨e0,e1⟩:=eU (a:=ns[k.toNat]) (b:=big) (by decide)
  refine q _ e0 e1 ?_
  unfold cellOf
  rw[if_pos hlt,bR,aC hj,kJ]
 ·rename_i hlt
  have hlt:¬k<(ns.length:Int):=by simpa using hlt
  refine q 0 (by decide) (by decide) ?_
  unfold cellOf
  rw[if_neg hlt]
structure Lean34 (f:P2):Prop where
 pos:0<f.2
 top:BL 40 f.1
 bot:BL 12 f.2
theorem Lean34.ok {f:P2} (h:Lean34 f):LeanOk 40 f:=⟨h.pos,h.top,h.bot.mono (by decide)⟩
structure Leans (fs:List P2):Prop where
 each:∀f∈fs,Lean34 f
 rise:∀(i:Nat) (s t:P2),fs[i]? = some s->fs[i+1]? = some t->s.1*t.2<t.1*s.2
theorem Leans.at {fs:List P2} (h:Leans fs) {i:Nat} {s t:P2} (hs:fs[i]? = some s) (ht:fs[i+1]? = some t):Rise s t:=⟨(h.each s (bF hs)).pos,(h.each t (bF ht)).pos,h.rise i s t hs ht⟩
def zZ:FD:=λds Q=>∃n m:Int,ds=[.int n,.int m]/\(1<=m/\m<=5)/\∀fs:List P2,(fs.length:Int)=m->Leans fs->Q (pts fs)
theorem VO:∀ds Q,zZ ds Q->ds.length=2:=by rintro ds Q ⟨_,_,rfl,_⟩;rfl
theorem HR:∀ds Q,zZ ds Q->BX JJ OZ { nx:=λ_=>Q .non,rt:=Q } (dO ["_law_number","_law_many","_law_found","_law_k","_law_top","_law_bottom"] ds):=by
 rintro ds Q ⟨n,m,rfl,⟨m0,m1⟩,q⟩
 rw[cS 4 rfl]
 unfold BX
 simp only[jJ,Ru,aU,cX,cD,cO]
 refine cP (λρ=>∃f:P2,(LeanOk 10 f/\BL 2 f.2)/\ρ=[some (.d (.int n)),some (.d (.int m)),some (.own ([f].map pt)),none,none,none]) (λK hK=>?_) ?_
 ·walk_at "rd"
  obtain⟨a0,a1⟩:=eU (a:=n) (b:=9) (by decide)
  obtain⟨b0,b1⟩:=eU (a:=n.fdiv 9) (b:=2) (by decide)
  refine⟨lM,(BL.const (n:=9000) (by decide)).divOk (by decide),lM,?_⟩
  have w:BL 2 (1+(n.fdiv 9).fmod 2):=BL.of_lt (m:=2) (by omega) (by omega)
  have t:BL 10 (n.fmod 9-4):=BL.of_lt (m:=10) (by omega) (by omega)
  refine⟨_,_,rfl,⟨by omega,w.mono (by decide)⟩,λp q' l=>hK _ ⟨(p,q'),⟨⟨l.pos,t.le l.lea,(w.le l.leb).mono (by decide)⟩,w.le l.leb⟩,rfl⟩⟩
 rintro ρ ⟨f,⟨hf,hf2⟩,rfl⟩
 refine cP (λρ=>∃(fs:List P2) (u v w:Option S),((fs.length:Int)=m/\Leans fs)/\ρ=[some (.d (.int n)),some (.d (.int m)),some (.own (fs.map pt)),u,v,w]) (λK hK=>?_) ?_
 ·simp only[rQ,XD,aG,bI,r2,tE,aM,rC,aH,aI,L2.R2.S.val]
  refine⟨⟨by omega,by omega⟩,?_⟩
  refine JT 0 (m-1).toNat (λi ρ=>∃(gs:List P2) (g:P2) (u v w:Option S),(gs.length=i/\Leans (gs++[g])/\LeanOk (10+5*i) g/\BL (2+2*i) g.2)/\ρ=[some (.d (.int n)),some (.d (.int m)),some (.own ((gs++[g]).map pt)),u,v,w]) ?_ ?_ _ ⟨[],f,none,none,none,⟨rfl,⟨λz hz=>by rw[cG.mp hz];exact⟨hf.pos,hf.top.mono (by decide),hf2.mono (by decide)⟩,λi s t h1 h2=>by cases i <;> simp at h2⟩,hf,hf2⟩,rfl⟩
  ·rintro i ρ hi ⟨gs,g,u,v,w,⟨hl,hall,hg,hg2⟩,rfl⟩ F hr hb hn hc
   have hlast:((gs++[g]).map pt).getLast? = some (.tup [.int g.1,.int g.2]):=by rw[dN,aU,cX,List.getLast?_concat]
   unfold vM
   walk_at "rd"
   refine⟨(BL.const (n:=9000) (by decide)).divOk (by decide),?_⟩
   refine⟨_,_,_,rfl,⟨by decide,BL.const (by decide)⟩,⟨by omega,by omega⟩,λt t0 t1=>?_⟩
   walk_at "rd"
   refine⟨(BL.const (n:=9000) (by decide)).divOk (by decide),?_⟩
   refine⟨_,_,_,rfl,⟨by decide,BL.const (by decide)⟩,⟨by omega,by omega⟩,λy y0 y1=>?_⟩
   obtain⟨c0,c1⟩:=eU (a:=y) (b:=3) (by decide)
   walk_at "rd"
   simp only[Lj hlast]
   walk_at "rd"
   have bw:BL 2 (1+y.fmod 3):=BL.of_lt (m:=2) (by omega) (by omega)
   have bt:BL 2 (1+t):=BL.of_lt (m:=2) (by omega) (by omega)
   have g4:=(hall.each g (bK _ (.head _))).ok
   refine⟨lM,g4.top.mulOk bw,bt.mulOk g4.bot,g4.bot.mulOk bw,?_⟩
   refine⟨_,_,rfl,⟨bZ hg.pos (by omega),(hg.bot.mul bw).mono (by omega)⟩,λp q' l=>?_⟩
   have nw:=Iz hg.top hg.bot hg.pos (by omega) (by omega) (by omega) (by omega) l
   have nb:BL (2+2*i+2) q':=(hg2.mul bw).le l.leb
   refine⟨oH (by rw[aS,bV];simp;omega),hn _ ⟨gs++[g],(p,q'),_,_,_,⟨by simp;omega,⟨λz hz=>?_,λk s t' h1 h2=>?_⟩,nw.mono (by omega),nb.mono (by omega)⟩,by rw[show (gs++[g]++[(p,q')]).map pt=(gs++[g]).map pt++[fr p q'] from dN]⟩⟩
   ·rcases cH.mp hz with hz | hz
    ·exact hall.each z hz
    ·rw[cG.mp hz];exact⟨l.pos,nw.top.mono (by omega),nb.mono (by omega)⟩
   ·have ln:(gs++[g]).length=i+1:=by simp;omega
    by_cases hk:k+1<i+1
    ·rw[dA (by omega)] at h1 h2
     exact hall.rise k s t' h1 h2
    ·have kl:k+1<(gs++[g]++[(p,q')]).length:=(aX.mp h2).1
     have ki:k=i:=by rw[bV,ln] at kl;simp at kl;omega
     subst ki
     rw[dA (by omega),dP (by omega),hl,Nat.sub_self] at h1
     rw[dP (by omega),ln,Nat.sub_self] at h2
     cases h1;cases h2
     dsimp only
     have wt:=l.worth
     have w0:0<1+y.fmod 3:=by omega
     have tp:0<(1+t)*g.2*q':=bZ (bZ (by omega) hg.pos) l.pos
     refine Int.lt_of_mul_lt_mul_right (a:=1+y.fmod 3) ?_ (Int.le_of_lt w0)
     have e1:p*g.2*(1+y.fmod 3)=g.1*q'*(1+y.fmod 3)+(1+t)*g.2*q':=by
      have:p*(g.2*(1+y.fmod 3))=(g.1*(1+y.fmod 3)+(1+t)*g.2)*q':=wt
      grind
     rw[e1];omega
  ·rintro ρ ⟨gs,g,u,v,w,⟨hl,hall,hg,_⟩,rfl⟩
   exact hK _ ⟨gs++[g],u,v,w,⟨by simp;omega,hall⟩,rfl⟩
 rintro ρ ⟨fs,u,v,w,⟨hl,hall⟩,rfl⟩
 simp only[JB,S.fz,fZ,bY,aH,aI,bC,bH]
 exact q fs hl hall
structure MvB (m:Mv):Prop where
 ok:MvOk m
 p:BL 210 m.2.1.1
 q:BL 3 m.2.1.2
 u:BL 210 m.2.2.1
 v:BL 3 m.2.2.2
def yJ:FD:=λds Q=>∃n:Int,ds=[.int n]/\BL 210 n/\∀m:Mv,MvB m->Q (mvD m)
theorem YV:∀ds Q,yJ ds Q->ds.length=1:=by rintro ds Q ⟨_,rfl,_⟩;rfl
theorem Oq {f:Int} {x:Int} (h0:0<=f) (h1:BL 200 f) (a0:0<=x) (a1:x<2*f+1):BL 210 (x-f):=by
 refine (h1.mono (by decide)).le ?_
 omega
theorem JH:∀ds Q,yJ ds Q->zQ OZ { nx:=λ_=>Q .non,rt:=Q } (dO ["_law_number","_law_far","_law_dx","_law_dy"] ds):=by
 rintro ds Q ⟨n,rfl,bn,q⟩
 rw[cS 3 rfl]
 unfold zQ
 simp only[jJ,Kn,aU,cX,cD,cO]
 refine cP (λρ=>∃f:Int,(0<=f/\BL 200 f)/\ρ=[some (.d (.int n)),some (.d (.int f)),none,none]) (λK hK=>?_) ?_
 ·walk_at "rd"
  obtain⟨a0,a1⟩:=eU (a:=n.fdiv 2) (b:=2) (by decide)
  refine⟨ZM,(BL.const (n:=9000) (by decide)).divOk (by decide),lM,?_⟩
  refine Au a0 (by simpa using a1) λx hx=>?_
  obtain⟨f,rfl,f0,f1⟩:=Ta hx
  exact hK _ ⟨f,⟨f0,f1⟩,rfl⟩
 rintro ρ ⟨f,⟨f0,f1⟩,rfl⟩
 have fp:(2*f+1)≠0:=by omega
 refine cP (λρ=>∃x:P2,(0<x.2/\BL 210 x.1/\BL 3 x.2)/\ρ=[some (.d (.int n)),some (.d (.int f)),some (.d (pt x)),none]) (λK hK=>?_) ?_
 ·walk_at "rd"
  obtain⟨a0,a1⟩:=eU (a:=n*48271) (b:=1000000007) (by decide)
  obtain⟨b0,b1⟩:=eU (a:=n.fdiv 4) (b:=4) (by decide)
  obtain⟨c0,c1⟩:=eU (a:=(n*48271).fmod 1000000007*69621) (b:=2*f+1) (by omega)
  refine⟨bn.mulOk (BL.const (n:=20)),lM,(BL.of_lt (m:=40) (by omega) (by omega)).mulOk (BL.const (n:=20)),(BL.const (n:=20)).mulOk f1,⟨fp⟩,(BL.const (n:=9000) (by decide)).divOk (by decide),lM,?_⟩
  have bq:BL 3 (1+(n.fdiv 4).fmod 4):=BL.of_lt (m:=3) (by omega) (by omega)
  refine⟨_,_,rfl,⟨by omega,bq.mono (by decide)⟩,λp q' l=>hK _ ⟨(p,q'),⟨l.pos,(Oq f0 f1 c0 c1).le l.lea,bq.le l.leb⟩,rfl⟩⟩
 rintro ρ ⟨x,hx,rfl⟩
 refine cP (λρ=>∃y:P2,(0<y.2/\BL 210 y.1/\BL 3 y.2)/\ρ=[some (.d (.int n)),some (.d (.int f)),some (.d (pt x)),some (.d (pt y))]) (λK hK=>?_) ?_
 ·walk_at "rd"
  obtain⟨b0,b1⟩:=eU (a:=n.fdiv 16) (b:=3) (by decide)
  obtain⟨c0,c1⟩:=eU (a:=n) (b:=2*f+1) (by omega)
  refine⟨(BL.const (n:=20)).mulOk f1,⟨fp⟩,(BL.const (n:=9000) (by decide)).divOk (by decide),lM,?_⟩
  have bq:BL 3 (1+(n.fdiv 16).fmod 3):=BL.of_lt (m:=3) (by omega) (by omega)
  refine⟨_,_,rfl,⟨by omega,bq.mono (by decide)⟩,λp q' l=>hK _ ⟨(p,q'),⟨l.pos,(Oq f0 f1 c0 c1).le l.lea,bq.le l.leb⟩,rfl⟩⟩
 rintro ρ ⟨y,hy,rfl⟩
 walk_at "rd"
 obtain⟨b0,b1⟩:=eU (a:=n) (b:=2) (by decide)
 exact⟨lM,(BL.const (n:=20)).mulOk (BL.of_lt (m:=20) (by omega) (by omega)),q (_,x,y) ⟨⟨by dsimp only;omega,hx.1,hy.1⟩,hx.2.1,hx.2.2,hy.2.1,hy.2.2⟩⟩
abbrev xM (w:Wd):List Pt:=[w.2.1,w.2.2.1,w.2.2.2]
def uS:FD:=λds Q=>∃(s t:P2) (b:Bool),ds=[pt s,pt t,.bl b]/\(Lean34 s/\Lean34 t)/\∀w:Wd,WedgeOf s t b w.1 (xM w)->Q (wdD w)
theorem VU:∀ds Q,uS ds Q->ds.length=3:=by rintro ds Q ⟨_,_,_,rfl,_⟩;rfl
theorem Oo {s t:P2} {v:Bool} {share:Int} {a b c:P2} {Q:D->Prop} (h0:0<share) (h1:BL 100 share) (he:share=s.2*t.2) (hr:tY s t v=[a,b,c]) (q:∀w:Wd,WedgeOf s t v w.1 (xM w)->Q (wdD w)):OX [.int share,pts [a,b,c]] Q:=by
 refine⟨share,[a,b,c],rfl,⟨h0,h1⟩,⟨by simp,by simp⟩,λm sh zs j d=>?_⟩
 have l:(turned j zs).length=3:=by
  rw[Ag (jA d.j_lt),d.len];rfl
 have T:=UP d
 match hz:turned j zs,l with
 | [x,y,z],_ =>
  rw[hz,<-hr,he] at T
  exact q (sh,x,y,z) ⟨T⟩
theorem HU:∀ds Q,uS ds Q->BZ OX { nx:=λ_=>Q .non,rt:=Q } (dO ["_law_s","_law_t","_law_opening","_law_share","_law_low","_law_high"] ds):=by
 rintro ds Q ⟨s,t,b,rfl,⟨hs,ht⟩,q⟩
 rw[cS 3 rfl]
 unfold BZ
 simp only[jJ,Kn,aU,cX,cD,cO]
 have sp:0<s.2*t.2:=bZ hs.pos ht.pos
 have sb:BL 100 (s.2*t.2):=(hs.bot.mul ht.bot).mono (by decide)
 refine cP (λρ=>ρ=[some (.d (pt s)),some (.d (pt t)),some (.d (.bl b)),some (.d (.int (s.2*t.2))),none,none]) (λK hK=>?_) ?_
 ·walk_at "rd"
  exact⟨hs.bot.mulOk ht.bot,hK _ rfl⟩
 rintro ρ rfl
 refine cP (λρ=>ρ=[some (.d (pt s)),some (.d (pt t)),some (.d (.bl b)),some (.d (.int (s.2*t.2))),some (.d (.int (s.1*t.2))),none]) (λK hK=>?_) ?_
 ·walk_at "rd"
  exact⟨hs.top.mulOk ht.bot,hK _ rfl⟩
 rintro ρ rfl
 refine cP (λρ=>ρ=[some (.d (pt s)),some (.d (pt t)),some (.d (.bl b)),some (.d (.int (s.2*t.2))),some (.d (.int (s.1*t.2))),some (.d (.int (t.1*s.2)))]) (λK hK=>?_) ?_
 ·walk_at "rd"
  exact⟨ht.top.mulOk hs.bot,hK _ rfl⟩
 rintro ρ rfl
 cases b with
 | true =>
  walk_at "rd"
  exact Oo (a:=(0,0)) (b:=(s.2*t.2,s.1*t.2)) (c:=(s.2*t.2,t.1*s.2)) sp sb rfl rfl q
 | false =>
  walk_at "rd"
  exact Oo (a:=(0,0)) (b:=(s.2*t.2,t.1*s.2)) (c:=(0,t.1*s.2-s.1*t.2)) sp sb rfl rfl q
end K34
namespace K34
open K33
structure EntOk (fs:List P2) (b:Bool) (e:Ent):Prop where
 lo:0<=e.1
 hi:e.1+1<(fs.length:Int)
 wd:∀s t,fs[e.1.toNat]? = some s->fs[(e.1+1).toNat]? = some t->WedgeOf s t b e.2.1.1 (xM e.2.1)
 mv:MvB e.2.2
structure Drw (fs:List P2) (b:Bool) (es:List Ent):Prop where
 len:es.length<=10
 each:∀e∈es,EntOk fs b e
def zY:FD:=λds Q=>∃(ns:List Int) (fs:List P2),ds=[il ns,pts fs]/\(2<=fs.length/\fs.length<=5)/\Leans fs/\∀os cs:List Ent,Drw fs true os->Drw fs false cs->os.length+cs.length<=10->Q (.lst [esD os,esD cs])
theorem VN:∀ds Q,zY ds Q->ds.length=2:=by rintro ds Q ⟨_,_,rfl,_⟩;rfl
theorem WA {fs:List P2} {b:Bool} {es:List Ent} {e:Ent} (h:∀e∈es,EntOk fs b e) (he:EntOk fs b e):∀x∈es++[e],EntOk fs b x:=λx hx=>by
 rcases cH.mp hx with hx | hx
 ·exact h x hx
 ·rw[cG.mp hx];exact he
theorem QD {fs:List P2} {b:Bool} {es:List Ent} (h:∀e∈es,EntOk fs b e) (m:Nat):∀x∈es.eraseIdx m,EntOk fs b x:=λx hx=>h x (List.mem_of_mem_eraseIdx hx)
theorem QC {α β:Type} (f:α->β):∀(xs:List α) (m:Nat),(xs.map f).eraseIdx m=(xs.eraseIdx m).map f
 | [],_=>rfl
 | _::_,0=>rfl
 | x::xs,m+1=>by simp[QC f xs m]
theorem HQ:∀ds Q,zY ds Q->xJ uQ yJ uS { nx:=λ_=>Q .non,rt:=Q } (dO ["_law_script","_law_leans_here","_law_found","_law_k","_law_cell_here","_law_place","_law_piece","_law_wedges"] ds):=by
 rintro ds Q ⟨ns,fs,rfl,⟨l0,l1⟩,hf,q⟩
 rw[cS 6 rfl]
 unfold xJ
 simp only[jJ,Nx,aU,cX,cD,cO]
 refine cP (λρ=>ρ=[some (.d (il ns)),some (.d (pts fs)),some (.box false [[],[]]),none,none,none,none,none]) (λK hK=>?_) ?_
 ·simp only[Kf,bC,bH]
  exact hK _ rfl
 rintro ρ rfl
 have lp:(0:Int)<(fs.length:Int)-1:=by omega
 refine cP (λρ=>∃(os cs:List Ent) (u v w x:Option S),(os.length+cs.length<=10/\(∀e∈os,EntOk fs true e)/\∀e∈cs,EntOk fs false e)/\ρ=[some (.d (il ns)),some (.d (pts fs)),some (.box false [os.map enD,cs.map enD]),u,v,w,x,none]) (λK hK=>?_) ?_
 ·walk_at "rd"
  rw[aS]
  have hm:(if (7:Int)<(ns.length:Int) then 7 else (ns.length:Int))<=7:=by split <;> omega
  have hm0:0<=(if (7:Int)<(ns.length:Int) then 7 else (ns.length:Int)):=by split <;> omega
  generalize (if (7:Int)<(ns.length:Int) then 7 else (ns.length:Int))=M at *
  refine⟨⟨⟨by decide,by decide⟩,⟨by omega,by omega⟩⟩,?_⟩
  refine JT 2 (M-2).toNat (λi ρ=>∃(os cs:List Ent) (u v w x:Option S),(os.length+cs.length=2*i/\(∀e∈os,EntOk fs true e)/\∀e∈cs,EntOk fs false e)/\ρ=[some (.d (il ns)),some (.d (pts fs)),some (.box false [os.map enD,cs.map enD]),u,v,w,x,none]) ?_ ?_ _ ⟨[],[],none,none,none,none,⟨rfl,λe h=>(by cases h),λe h=>(by cases h)⟩,rfl⟩
  ·rintro i ρ hi ⟨os,cs,u,v,w,x,⟨hl,ho,hc⟩,rfl⟩ F hr hb hn _
   have hi10:i<=4:=by omega
   unfold sT
   simp only[dH,bC,bH]
   refine cP (λρ=>∃c:Int,(0<=c/\c<big)/\ρ=[some (.d (il ns)),some (.d (pts fs)),some (.box false [os.map enD,cs.map enD]),some (.d (.int (2+i))),some (.d (.int c)),w,x,none]) (λK2 hK2=>?_) ?_
   ·simp only[fF,cQ,aG,bI,bY,aH,aI,bC,bH]
    exact⟨ns,_,rfl,by omega,λc c0 c1 _=>hK2 _ ⟨c,⟨c0,c1⟩,rfl⟩⟩
   rintro ρ ⟨c,⟨c0,c1⟩,rfl⟩
   have bc:=Pk c0 c1
   refine cP (λρ=>∃p:Int,(0<=p/\p+1<(fs.length:Int))/\ρ=[some (.d (il ns)),some (.d (pts fs)),some (.box false [os.map enD,cs.map enD]),some (.d (.int (2+i))),some (.d (.int c)),some (.d (.int p)),x,none]) (λK2 hK2=>?_) ?_
   ·walk_at "rd"
    rw[aS]
    obtain⟨a0,a1⟩:=eU (a:=c.fdiv 2) lp
    exact⟨(BL.const (n:=9000) (by decide)).divOk (by decide),⟨by omega⟩,hK2 _ ⟨_,⟨a0,by omega⟩,rfl⟩⟩
   rintro ρ ⟨p,hp,rfl⟩
   refine cP (λρ=>∃wd:Wd,(∀s t,fs[p.toNat]? = some s->fs[(p+1).toNat]? = some t->WedgeOf s t (decide (c.fmod 2=0)) wd.1 (xM wd))/\ρ=[some (.d (il ns)),some (.d (pts fs)),some (.box false [os.map enD,cs.map enD]),some (.d (.int (2+i))),some (.d (.int c)),some (.d (.int p)),some (.d (wdD wd)),none]) (λK2 hK2=>?_) ?_
   ·walk_at "rd"
    refine MR hp.1 (by omega) λs hs=>?_
    refine MR (by omega) (by omega) λt ht=>?_
    refine⟨lM,s,t,_,rfl,⟨hf.each s (bF hs),hf.each t (bF ht)⟩,λwd hw=>hK2 _ ⟨wd,λs' t' h1 h2=>?_,rfl⟩⟩
    rw[hs] at h1;rw[ht] at h2
    cases h1;cases h2
    simpa using hw
   rintro ρ ⟨wd,hw,rfl⟩
   obtain⟨d0,d1⟩:=eU (a:=c) (b:=2) (by decide)
   have h2:big<((2 ^ 200:Nat):Int):=by decide
   have h3:((2 ^ 200:Nat):Int)+1000<((2 ^ 210:Nat):Int):=by decide
   have bn:BL 210 (c.fdiv 8+31*(2+(i:Int))):=by
    have h1:=Bk (a:=c) (b:=8) c0 (by decide)
    exact BL.of_lt (by omega) (by omega)
   have bn2:BL 210 (c.fdiv 64+77*(2+(i:Int))):=by
    have h1:=Bk (a:=c) (b:=64) c0 (by decide)
    exact BL.of_lt (by omega) (by omega)
   have en:∀m:Mv,MvB m->EntOk fs (decide (c.fmod 2=0)) (p,(wd,m)):=λm hm=>⟨hp.1,hp.2,hw,hm⟩
   have one:∀(os cs:List Ent) (t:Int) (G:En->Prop),BL 210 t->os.length+cs.length<=9->(∀e∈os,EntOk fs true e)->(∀e∈cs,EntOk fs false e) ->
     (∀os' cs':List Ent,os'.length+cs'.length=os.length+cs.length+1->(∀e∈os',EntOk fs true e)->(∀e∈cs',EntOk fs false e)->G [some (.d (il ns)),some (.d (pts fs)),some (.box false [os'.map enD,cs'.map enD]),some (.d (.int (2+i))),some (.d (.int c)),some (.d (.int p)),some (.d (wdD wd)),none]) ->
     ∃(j:Nat) (es:List D),(c.fmod 2=(j:Int)/\[os.map enD,cs.map enD][j]? = some es/\Sz (es.length+1))/\yJ [.int t] λd=>G [some (.d (il ns)),some (.d (pts fs)),some (.box false ([os.map enD,cs.map enD].set j (es++[.tup [.int p,.tup [wdD wd,d]]]))),some (.d (.int (2+i))),some (.d (.int c)),some (.d (.int p)),some (.d (wdD wd)),none]:=by
    intro os cs t G bt hl ho hc k
    by_cases z:c.fmod 2=0
    ·refine⟨0,os.map enD,⟨z,rfl,oH (by rw[aS];omega)⟩,_,rfl,bt,λm hm=>?_⟩
     have e:=en m hm
     rw[decide_eq_true z] at e
     have:=k (os++[(p,(wd,m))]) cs (by simp;omega) (WA ho e) hc
     rw[dN] at this
     exact this
    ·refine⟨1,cs.map enD,⟨by omega,rfl,oH (by rw[aS];omega)⟩,_,rfl,bt,λm hm=>?_⟩
     have e:=en m hm
     rw[decide_eq_false z] at e
     have:=k os (cs++[(p,(wd,m))]) (by simp;omega) ho (WA hc e)
     rw[dN] at this
     exact this
   refine cP (λρ=>∃(os' cs':List Ent),(os'.length+cs'.length=2*i+1/\(∀e∈os',EntOk fs true e)/\∀e∈cs',EntOk fs false e)/\ρ=[some (.d (il ns)),some (.d (pts fs)),some (.box false [os'.map enD,cs'.map enD]),some (.d (.int (2+i))),some (.d (.int c)),some (.d (.int p)),some (.d (wdD wd)),none]) (λK2 hK2=>?_) ?_
   ·simp only[QM,r2,lK,aM,rC,L2.R2.S.val,aH,aI]
    refine⟨lM,?_⟩
    obtain⟨j,es,hj,hF⟩:=one os cs _ K2 bn (by omega) ho hc (λos' cs' h1 h2 h3=>hK2 _ ⟨os',cs',⟨by omega,h2,h3⟩,rfl⟩)
    refine⟨j,es,hj,?_⟩
    walk_at "rd"
    exact⟨(BL.const (n:=9000) (by decide)).divOk (by decide),(BL.const (n:=20)).mulOk (BL.of_lt (m:=20) (by omega) (by omega)),hF⟩
   rintro ρ ⟨os',cs',⟨k1,k2,k3⟩,rfl⟩
   simp only[QM,r2,lK,aM,rC,L2.R2.S.val,aH,aI]
   refine⟨lM,?_⟩
   obtain⟨j,es,hj,hF⟩:=one os' cs' _ F.nx bn2 (by omega) k2 k3 (λos2 cs2 h1 h2 h3=>hn _ ⟨os2,cs2,_,_,_,_,⟨by omega,h2,h3⟩,rfl⟩)
   refine⟨j,es,hj,?_⟩
   walk_at "rd"
   exact⟨(BL.const (n:=9000) (by decide)).divOk (by decide),(BL.const (n:=20)).mulOk (BL.of_lt (m:=20) (by omega) (by omega)),hF⟩
  ·rintro ρ ⟨os,cs,u,v,w,x,⟨hl,ho,hc⟩,rfl⟩
   exact hK _ ⟨os,cs,u,v,w,x,⟨by omega,ho,hc⟩,rfl⟩
 rintro ρ ⟨os,cs,u,v,w,x,⟨hl,ho,hc⟩,rfl⟩
 refine cP (λρ=>∃(os cs:List Ent) (u y:Option S),(os.length+cs.length<=10/\(∀e∈os,EntOk fs true e)/\∀e∈cs,EntOk fs false e)/\ρ=[some (.d (il ns)),some (.d (pts fs)),some (.box false [os.map enD,cs.map enD]),u,v,w,x,y]) (λK hK=>?_) ?_
 ·walk_at "rd"
  refine⟨ns,1,rfl,by decide,λc c0 c1 _=>?_⟩
  obtain⟨a0,a1⟩:=eU (a:=c) (b:=4) (by decide)
  refine⟨lM,⟨by omega,by omega⟩,?_⟩
  refine JT 0 (c.fmod 4-1).toNat (λi ρ=>∃(os cs:List Ent) (u y:Option S),(os.length+cs.length<=10/\(∀e∈os,EntOk fs true e)/\∀e∈cs,EntOk fs false e)/\ρ=[some (.d (il ns)),some (.d (pts fs)),some (.box false [os.map enD,cs.map enD]),u,v,w,x,y]) ?_ ?_ _ ⟨os,cs,u,none,⟨hl,ho,hc⟩,rfl⟩
  ·rintro i ρ hi ⟨os,cs,u,y,⟨hl,ho,hc⟩,rfl⟩ F hr hb hn _
   unfold sS
   simp only[dH,Ch,r2,lK,iF,nM,iJ,cQ,aG,bI,bY,aM,rC,L2.R2.S.val,aH,aI,bC,bH]
   refine⟨ns,1,rfl,by decide,λd d0 d1 _=>?_⟩
   have bi:BL 20 (0+(i:Int)):=BL.of_lt (m:=20) (by omega) (by omega)
   refine⟨(BL.const (n:=20)).mulOk bi,(BL.of_lt (m:=9000) (by omega) (by exact CN (show _<(2 ^ 10:Int) by omega) (by decide))).divOk (by omega),lM,?_⟩
   generalize hE:d.fdiv (4+3*(0+(i:Int)))=D1
   obtain⟨b0,b1⟩:=eU (a:=D1) (b:=2) (by decide)
   have go:∀(j:Nat) (es:List Ent) (G:En->Prop),es.length<=10->G [some (.d (il ns)),some (.d (pts fs)),some (.box false [os.map enD,cs.map enD]),some (.d (.int (0+(i:Int)))),v,w,x,none] ->
     (∀m:Nat,m<es.length->G [some (.d (il ns)),some (.d (pts fs)),some (.box false ([os.map enD,cs.map enD].set j ((es.eraseIdx m).map enD))),some (.d (.int (0+(i:Int)))),v,w,x,none]) ->
     fU (r2 Hb (aM 7) (λρ Q=>(tG bI) ρ λds=>Q (.lst ds))) (QH 2 7 (es.map enD) [some (.d (il ns)),some (.d (pts fs)),some (.box false [os.map enD,cs.map enD]),some (.d (.int (0+(i:Int)))),v,w,x,y]) λb =>
      if b=true then r2 lK (r2 iF (cQ uQ (aG (bY 0) (aG (rC (.int 1)) bI))) (r2 nM (rC (.int 8)) (r2 iJ (rC (.int 5)) (aM 3)))) (r1 qS (aM 7)) (QH 2 7 (es.map enD) [some (.d (il ns)),some (.d (pts fs)),some (.box false [os.map enD,cs.map enD]),some (.d (.int (0+(i:Int)))),v,w,x,y]) λd=>∃m:Nat,(d = .int (m:Int)/\m<(es.map enD).length/\Sz (es.map enD).length)/\G (([some (.d (il ns)),some (.d (pts fs)),some (.box false [os.map enD,cs.map enD]),some (.d (.int (0+(i:Int)))),v,w,x,y].set 2 (some (.box false ([os.map enD,cs.map enD].set j ((es.map enD).eraseIdx m))))).set 7 none)
      else G ([some (.d (il ns)),some (.d (pts fs)),some (.box false [os.map enD,cs.map enD]),some (.d (.int (0+(i:Int)))),v,w,x,y].set 7 none):=by
    intro j es G l10 k1 k2
    simp only[QH,fU,r2,r1,Hb,tG,aM,bY,rC,cQ,aG,bI,L2.R2.S.val,aH,aI,bC,bH]
    cases es with
    | nil=>exact⟨oH (by decide),k1⟩
    | cons e es =>
     refine⟨oH (by decide),?_⟩
     rw[if_pos (show (!(qL enD (e::es)).isEmpty)=true from rfl)]
     refine⟨ns,1,rfl,by decide,λd' d0' d1' _=>?_⟩
     simp only[lK,iF,nM,iJ,qS,Aa]
     refine⟨(BL.const (n:=20)).mulOk bi,(BL.of_lt (m:=9000) (by omega) (by exact CN (show _<(2 ^ 10:Int) by omega) (by decide))).divOk (by omega),?_⟩
     rw[aS]
     have lpos:(0:Int)<((e::es).length:Int):=by simp
     generalize d'.fdiv (8+5*(0+(i:Int)))=D2
     obtain⟨m0,m1⟩:=eU (a:=D2) lpos
     refine⟨⟨by omega⟩,(D2.fmod ((e::es).length:Int)).toNat,⟨by rw[gS m0],by omega,oH (by omega)⟩,?_⟩
     have:=k2 (D2.fmod ((e::es).length:Int)).toNat (by omega)
     rw[QC]
     exact this
   have dn:∀(os' cs':List Ent),os'.length+cs'.length<=10->(∀e∈os',EntOk fs true e)->(∀e∈cs',EntOk fs false e)->F.nx [some (.d (il ns)),some (.d (pts fs)),some (.box false [os'.map enD,cs'.map enD]),some (.d (.int (0+(i:Int)))),v,w,x,none]:=λos' cs' h1 h2 h3=>hn _ ⟨os',cs',_,_,⟨h1,h2,h3⟩,rfl⟩
   by_cases z:D1.fmod 2=0
   ·refine⟨0,os.map enD,⟨z,rfl,(by decide:7<8)⟩,?_⟩
    refine go 0 os F.nx (by omega) (dn os cs hl ho hc) λm hm=>?_
    exact dn (os.eraseIdx m) cs (by have:=uU os m;omega) (QD ho m) hc
   ·refine⟨1,cs.map enD,⟨by omega,rfl,(by decide:7<8)⟩,?_⟩
    refine go 1 cs F.nx (by omega) (dn os cs hl ho hc) λm hm=>?_
    exact dn os (cs.eraseIdx m) (by have:=uU cs m;omega) ho (QD hc m)
  ·rintro ρ ⟨os,cs,u,y,h,rfl⟩
   exact hK _ ⟨os,cs,u,y,h,rfl⟩
 rintro ρ ⟨os,cs,u,y,⟨hl,ho,hc⟩,rfl⟩
 simp only[JB,S.fz,fZ,bY,aH,aI,bC,bH]
 exact q os cs ⟨by omega,ho⟩ ⟨by omega,hc⟩ hl
end K34
namespace K34
open K33
abbrev tnD (t:P2):D:=.tup [.int (-1),.tup [.int 1,.int 1],pt t]
def lF:FD:=λds Q=>∃(c:Int) (fs:List P2) (t:P2),ds=[.int c,pts fs]/\(0<=c/\fs[(c+1).toNat]? = some t)/\Q (tnD t)
theorem VS:∀ds Q,lF ds Q->ds.length=2:=by rintro ds Q ⟨_,_,_,rfl,_⟩;rfl
theorem TC:∀ds Q,lF ds Q->NH { nx:=λ_=>Q .non,rt:=Q } (dO ["number","leans"] ds):=by
 rintro ds Q ⟨c,fs,t,rfl,⟨c0,ht⟩,q⟩
 rw[cS 0 rfl]
 unfold NH
 walk_at "rd"
 refine MR (by omega) (by have:=(aX.mp ht).1;omega) λf hf=>?_
 rw[ht] at hf;cases hf
 exact q
structure Carr (s t:P2) (b:Bool) (e:Bit) (sh:Int) (zs:List Pt) (m:Mv):Prop where
 wd:WedgeOf s t (!b) sh zs
 mv:MvOk m
 bq:BL 3 m.2.1.2
 bv:BL 20 m.2.2.2
 p:BL 300 m.2.1.1
 u:BL 300 m.2.2.1
 home:∀sh1 zs1 sh2 zs2,Home e.1.1 (xM e.1) e.2 sh1 zs1->Home sh zs m sh2 zs2->sh1=sh2/\zs1=zs2
abbrev cbD (sh:Int) (zs:List Pt) (m:Mv):D:=.tup [pce sh zs,mvD m]
def lE:FD:=λds Q=>∃(s t:P2) (b:Bool) (e:Bit),ds=[btD e,tnD t]/\(Rise s t/\Lean34 s/\Lean34 t)/\(WedgeOf s t b e.1.1 (xM e.1)/\MvB e.2)/\∀sh zs m,Carr s t b e sh zs m->Q (cbD sh zs m)
theorem VM:∀ds Q,lE ds Q->ds.length=2:=by rintro ds Q ⟨_,_,_,_,rfl,_⟩;rfl
theorem NR {s t:P2} {b:Bool} {sh:Int} {zs:List Pt} (h:Rise s t) (hs:Lean34 s) (ht:Lean34 t) (w:WedgeOf s t b sh zs):BL 24 sh/\∀z∈zs,BL 100 z.1/\BL 100 z.2:=by
 obtain⟨w0,T,m,ra,l,N⟩:=w.told
 obtain⟨p,dv,_,_⟩:=w.pos h
 have sp:0<s.2*t.2:=bZ h.sp h.tp
 refine⟨(hs.bot.mul ht.bot).le (by have:=nF sp dv;omega),λz hz=>?_⟩
 have mp:=N.mpos
 have ce:=N.cs_eq
 have mz:((m*z.1,m*z.2):Pt)∈tY s t b:=(ra.mem _).mpr (by rw[ce];exact cK.mpr ⟨z,hz,rfl⟩)
 have bb:∀y∈tY s t b,BL 100 y.1/\BL 100 y.2:=by
  have b1:BL 100 (s.2*t.2):=(hs.bot.mul ht.bot).mono (by decide)
  have b2:BL 100 (s.1*t.2):=(hs.top.mul ht.bot).mono (by decide)
  have b3:BL 100 (t.1*s.2):=(ht.top.mul hs.bot).mono (by decide)
  have b4:BL 100 (t.1*s.2-s.1*t.2):=((ht.top.mul hs.bot).sub (hs.top.mul ht.bot)).mono (by decide)
  have b0:BL 100 0:=BL.const (by decide)
  intro y hy
  cases b <;> (simp only[tY,aL,eB,or_false] at hy;rcases hy with rfl | rfl | rfl)
  ·exact⟨b0,b0⟩
  ·exact⟨b1,b3⟩
  ·exact⟨b0,b4⟩
  ·exact⟨b0,b0⟩
  ·exact⟨b1,b2⟩
  ·exact⟨b1,b3⟩
 obtain⟨c1,c2⟩:=bb _ mz
 have le:∀x:Int,x.natAbs<=(m*x).natAbs:=λx=>by
  rw[mB]
  exact Nat.le_mul_of_pos_left _ (by omega)
 exact⟨c1.le (le _),c2.le (le _)⟩
theorem SX:∀ds Q,lE ds Q->ND uP uR pU { nx:=λ_=>Q .non,rt:=Q } (dO ["bit","move"] ds):=by
 rintro ds Q ⟨s,t,b,⟨wd,sg,⟨p,q'⟩,u,v⟩,rfl,⟨hR,hs,ht⟩,⟨hw,hm⟩,q⟩
 rw[cS 0 rfl]
 unfold ND btD wdD mvD
 walk_at "rd"
 obtain⟨w0,dv,cz,lz⟩:=hw.pos hR
 obtain⟨bsh,bz⟩:=NR hR hs ht hw
 obtain⟨hmo,bp,bq,bu,bv⟩:=hm
 dsimp only at bp bq bu bv
 have q0:0<q':=hmo.q0
 have v0:0<v:=hmo.v0
 have hsg:sg=1\/sg = -1:=hmo.sg
 refine⟨wd.1,-1,1,1,t.1,t.2,xM wd,rfl,⟨w0,by decide,ht.pos,.inr rfl⟩,⟨bsh.mono (by decide),BL.const (by decide),ht.bot.mono (by decide),BL.const (by decide),ht.top.mono (by decide)⟩,λz hz=>⟨(bz z hz).1.mono (by decide),(bz z hz).2.mono (by decide)⟩,cz,(by decide:3<64),λsh zs P=>?_⟩
 refine⟨-1,1,1,t.1,t.2,rfl,.inr rfl,⟨BL.const (by decide),ht.top.mono (by decide)⟩,?_⟩
 have b1:BL 4000 (- -1*1):=BL.const (by decide)
 have b2:BL 4000 (- -1*t.1):=by rw[show (- -1*t.1:Int)=t.1 by omega];exact ht.top.mono (by decide)
 refine⟨-1,- -1*1,1,- -1*t.1,t.2,sg,p,q',u,v,rfl,⟨.inr rfl,hsg⟩,⟨by decide,ht.pos,q0,v0⟩,⟨b1,BL.const (by decide),b2,ht.bot.mono (by decide),bp.mono (by decide),bq.mono (by decide),bu.mono (by decide),bv.mono (by decide)⟩,λP1 Q1 R1 W1 l1 l2=>?_⟩
 have wn:=Ah hR hw P
 obtain⟨w1,_,_,_⟩:=wn.pos hR
 have l1':Low (sg*q'+p) q' P1 Q1:=by
  have e1:sg*(- -1*1)*q'+p*1=sg*q'+p:=by grind
  have e2:1*q'=q':=by omega
  rw[e1,e2] at l1;exact l1
 have l2':Low (sg*t.1*v+u*t.2) (t.2*v) R1 W1:=by
  have e1:sg*(- -1*t.1)*v+u*t.2=sg*t.1*v+u*t.2:=by grind
  rw[e1] at l2;exact l2
 have bsg:BL 1 sg:=by rcases hsg with rfl | rfl <;> exact BL.const (by decide)
 refine q sh zs (-1*sg,(P1,Q1),(R1,W1)) ⟨wn,⟨by dsimp only;omega,l1'.pos,l2'.pos⟩,bq.le l1'.leb,((ht.bot.mul bv).mono (by decide)).le l2'.leb,?_,?_,λsh1 zs1 sh2 zs2 h1 h2=>?_⟩
 ·exact (((bsg.mul bq).add bp).mono (by decide):BL 300 _).le l1'.lea
 ·exact ((((bsg.mul ht.top).mul bv).add (bu.mul ht.bot)).mono (by decide):BL 300 _).le l2'.lea
 ·exact SC w0 w1 cz.nodup ht.pos hmo P (by dsimp only;omega) l1' l2' h1 h2
end K34
namespace K33
theorem XW:∀(xs ys:List Ent),rL (λa b=>D.tup [a,b]) (xs.map λe=>btD e.2) (ys.map λe=>btD e.2)=(List.zip xs ys).map λp=>D.tup [btD p.1.2,btD p.2.2]
 | [],_=>by simp
 | _::_,[]=>rfl
 | x::xs,y::ys=>by
  rw[aU,aU,oW,XW xs ys,hX,aU]
end K33
namespace K34
open K33
abbrev odd (es:List Ent) (c:Int):Prop:=(grp ky es c).length % 2=1
structure LeastOdd (es:List Ent) (c:Int):Prop where
 odd:odd es c
 least:∀c',K34.odd es c'->c<=c'
def gK (es:List Ent):Prop:=∀c,¬odd es c
theorem Bu {es:List Ent} {ks:List Int} {xs:List D} (G:Grp es ks xs) {c:Int} (h:odd es c):c∈ks:=by
 refine (G.mem c).mpr ?_
 cases hg:grp ky es c with
 | nil=>unfold odd at h;rw[hg] at h;cases h
 | cons e r =>
  have:e∈grp ky es c:=by rw[hg];simp
  obtain⟨h1,h2⟩:=fB.mp this
  exact⟨e,h1,by simpa using h2⟩
def ED:FDX:=λds Q PP=>∃(es:List Ent) (ks:List Int) (xs:List D),ds=[.dct ks xs]/\(Grp es ks xs/\es.length<=10)/\((gK es/\Q .non)\/∃c,LeastOdd es c/\PP c)
theorem YX:∀ds Q PP,ED ds Q PP->ds.length=1:=by rintro ds Q PP ⟨_,_,_,rfl,_⟩;rfl
theorem WR:∀ds Q PP,ED ds Q PP->xL PP { nx:=λ_=>Q .non,rt:=Q } (dO ["groups","number"] ds):=by
 rintro ds Q PP ⟨es,ks,xs,rfl,⟨G,hl⟩,q⟩
 rw[cS 1 rfl]
 unfold xL
 simp only[jJ,Rt,aU,cX,cD,cO]
 simp only[rQ,riL,NB,MZ,bY,aH,aI]
 refine⟨ks,xs,rfl,G.len,ks,rfl,by have:=G.kl;omega,λms pm srt=>?_⟩
 refine nW (λys ρ=>∃(done todo:List Int) (u:Option S),ms=done++todo/\ys=todo.map .int/\(∀c∈done,¬odd es c)/\ρ=[some (.d (.dct ks xs)),u]) ?_ ?_ _ _ ⟨[],ms,none,rfl,rfl,λc h=>(by cases h),rfl⟩
 ·rintro x ys ρ ⟨done,todo,u,ec,exs,hd,rfl⟩ F hr hb hn _
  cases todo with
  | nil=>cases exs
  | cons c todo =>
   cases exs
   have hc:c∈ks:=pm.mem_iff.mp (by rw[ec];simp)
   unfold sU
   simp only[dH,bC,bH,tF,fU,r2,r1,Dp,bY,rC,aH,aI]
   refine⟨Dc (grp ky es c),G.here c hc,?_⟩
   simp only[qS,Aa,lK,AR,aS]
   refine⟨lM,?_⟩
   have em:((grp ky es c).length:Int).fmod 2=(((grp ky es c).length % 2:Nat):Int):=by
    rw[lZ _ (by decide)];rfl
   by_cases ho:odd es c
   ·have:((grp ky es c).length:Int).fmod 2=1:=by rw[em,ho];rfl
    simp only[this,decide_true,sA,if_true,ZW]
    rcases q with ⟨ae,_⟩ | ⟨c',L,hP⟩
    ·exact absurd ho (ae c)
    ·have e:c=c':=by
      have h1:=L.least c ho
      have m':c'∈ms:=pm.mem_iff.mpr (Bu G L.odd)
      rw[ec] at m' srt
      rcases cH.mp m' with m' | m'
      ·exact absurd L.odd (hd c' m')
      ·have s2:=(gI.mp srt).2.1
       rcases aL.mp m' with rfl | m'
       ·rfl
       ·have:=(bW.mp s2).1 c' m'
        omega
     subst e
     simpa [bY] using hP
   ·have:¬((grp ky es c).length:Int).fmod 2=1:=by
     rw[em]
     intro h
     exact ho (by unfold odd;omega)
    simp only[this,decide_false,sA,aP,if_false,nP]
    exact hn _ ⟨done++[c],todo,_,by rw[ec];simp,rfl,λz hz=>by
     rcases cH.mp hz with hz | hz
     ·exact hd z hz
     ·rw[cG.mp hz];exact ho,rfl⟩
 ·rintro ρ ⟨done,todo,u,ec,exs,hd,rfl⟩
  have:todo=[]:=by simpa using exs.symm
  subst this
  rw[dL] at ec
  subst ec
  rcases q with ⟨_,hQ⟩ | ⟨c',L,_⟩
  ·exact hQ
  ·exact absurd L.odd (hd c' (pm.mem_iff.mpr (Bu G L.odd)))
abbrev GA (g:List Ent):List (Ent × Ent):=List.zip (alt g) (alt (g.drop 1))
abbrev prs (es:List Ent) (cs:List Int):List (Ent × Ent):=cs.flatMap λc=>GA (grp ky es c)
theorem XQ:∀(n:Nat) (g:List Ent),g.length=2*n->(GA g).flatMap (λp=>[p.1,p.2])=g
 | 0,g,h=>by
  have:g=[]:=iM.mp (by omega)
  subst this;rfl
 | n+1,[],h=>by simp at h
 | n+1,[_],h=>by simp at h;omega
 | n+1,a::b::g,h=>by
  have ih:=XQ n g (by simp at h;omega)
  have e:GA (a::b::g)=(a,b)::GA g:=by
   cases g with
   | nil=>rfl
   | cons c g=>rfl
  rw[e,lQ,ih];rfl
theorem MO {es:List Ent} {cs:List Int} (nd:cs.Nodup) (inn:∀e∈es,ky e∈cs) (ev:gK es):((prs es cs).flatMap λp=>[p.1,p.2]).Perm es:=by
 have e:((prs es cs).flatMap λp=>[p.1,p.2])=cs.flatMap λc=>grp ky es c:=by
  unfold prs
  rw[List.flatMap_assoc]
  rw[pX,pX]
  congr 1
  refine gT λc _=>?_
  refine XQ ((grp ky es c).length / 2) _ ?_
  have:=ev c
  unfold odd at this
  omega
 rw[e]
 exact UW ky cs es nd inn
theorem zX {g:List Ent} {p:Ent × Ent} (h:p∈GA g):p.1∈g/\p.2∈g:=by
 have k:∀(l:List Ent) (x:Ent),x∈alt l->x∈l:=by
  intro l x hx
  obtain⟨i,hi⟩:=List.getElem?_of_mem hx
  rw[RB] at hi
  exact bF hi
 obtain⟨h1,h2⟩:=qQ h
 exact⟨k _ _ h1,yP (k _ _ h2)⟩
theorem Ce {es:List Ent} {cs:List Int} {p:Ent × Ent} (h:p∈prs es cs):p.1∈es/\p.2∈es/\p.2.1=p.1.1:=by
 obtain⟨c,_,hp⟩:=List.mem_flatMap.mp h
 obtain⟨h1,h2⟩:=zX hp
 obtain⟨a1,a2⟩:=fB.mp h1
 obtain⟨b1,b2⟩:=fB.mp h2
 refine⟨a1,b1,?_⟩
 have a2:p.1.1=c:=by simpa [ky] using a2
 have b2:p.2.1=c:=by simpa [ky] using b2
 rw[a2,b2]
abbrev tbD (e:Ent) (h:P2) (sh:Int) (zs:List Pt) (m:Mv):D:=.tup [.int e.1,pt h,.lst [btD e.2,cbD sh zs m]]
structure CarrAt (fs:List P2) (b:Bool) (e:Ent) (sh:Int) (zs:List Pt) (m:Mv):Prop where
 ex:∃s t,fs[e.1.toNat]? = some s/\fs[(e.1+1).toNat]? = some t/\Carr s t b e.2 sh zs m
inductive Twb (fs:List P2) (b:Bool):List (Ent × Ent)->List D->Prop
 | nil:Twb fs b [] []
 | cons {p:Ent × Ent} {ps:List (Ent × Ent)} {h:P2} {sh:Int} {zs:List Pt} {m:Mv} {ds:List D}:Hgt fs p.1.1 h->CarrAt fs b p.2 sh zs m->Twb fs b ps ds->Twb fs b (p::ps) (tbD p.1 h sh zs m::ds)
theorem Twb.snoc {fs:List P2} {b:Bool} {ps:List (Ent × Ent)} {ds:List D} {p:Ent × Ent} {h:P2} {sh:Int} {zs:List Pt} {m:Mv} (t:Twb fs b ps ds) (hh:Hgt fs p.1.1 h) (hc:CarrAt fs b p.2 sh zs m):Twb fs b (ps++[p]) (ds++[tbD p.1 h sh zs m]):=by
 induction t with
 | nil=>exact .cons hh hc .nil
 | cons h1 h2 _ ih=>exact .cons h1 h2 ih
theorem Twb.len {fs:List P2} {b:Bool} {ps:List (Ent × Ent)} {ds:List D} (t:Twb fs b ps ds):ds.length=ps.length:=by
 induction t with
 | nil=>rfl
 | cons _ _ _ ih=>rw[bJ,bJ,ih]
theorem SW {es:List Ent} {cs:List Int} (nd:cs.Nodup) (inn:∀e∈es,ky e∈cs) (ev:gK es):2*(prs es cs).length=es.length:=by
 have:=(MO nd inn ev).length_eq
 rw[<-this]
 generalize prs es cs=ps
 induction ps with
 | nil=>rfl
 | cons p ps ih=>rw[lQ,bV,<-ih];simp;omega
def EF:FD:=λds Q=>∃(es:List Ent) (ks:List Int) (xs:List D) (fs:List P2) (b:Bool),ds=[.dct ks xs,pts fs]/\(Grp es ks xs/\Drw fs b es/\gK es)/\Leans fs/\∀ms rows,(ms.Nodup/\∀e∈es,ky e∈ms)->Twb fs b (prs es ms) rows->Q (.lst rows)
theorem YZ:∀ds Q,EF ds Q->ds.length=2:=by rintro ds Q ⟨_,_,_,_,_,rfl,_⟩;rfl
theorem RC {α β:Type} (f:α->β):∀(l:List α),alt (l.map f)=(alt l).map f
 | []=>rfl
 | [_]=>rfl
 | x::_::r=>by simp only[aU,alt,RC f r]
theorem WT:∀ds Q,EF ds Q->CF lE F_joined33 lF { nx:=λ_=>Q .non,rt:=Q } (dO ["groups","leans","boxes","number","bits","one","other"] ds):=by
 rintro ds Q ⟨es,ks,xs,fs,b,rfl,⟨G,D0,ev⟩,hf,q⟩
 rw[cS 5 rfl]
 unfold CF
 simp only[jJ,Rv,aU,cX,cD,cO]
 refine cP (λρ=>ρ=[some (.d (.dct ks xs)),some (.d (pts fs)),some (.own []),none,none,none,none]) (λK hK=>?_) ?_
 ·walk_at "rd"
  exact hK _ rfl
 rintro ρ rfl
 refine cP (λρ=>∃(ms:List Int) (rows:List D) (u v w x:Option S),((ms.Nodup/\∀e∈es,ky e∈ms)/\Twb fs b (prs es ms) rows)/\ρ=[some (.d (.dct ks xs)),some (.d (pts fs)),some (.own rows),u,v,w,x]) (λK hK=>?_) ?_
 ·simp only[rQ,riL,NB,MZ,bY,aH,aI]
  have dl:=D0.len
  refine⟨ks,xs,rfl,G.len,ks,rfl,by have:=G.kl;omega,λms pm srt=>?_⟩
  have nd:ms.Nodup:=pm.nodup_iff.mpr G.nodup
  have inn:∀e∈es,ky e∈ms:=λe he=>pm.mem_iff.mpr ((G.mem _).mpr ⟨e,he,rfl⟩)
  have fit:∀d t,ms=d++t->(prs es d).length<=10:=λd t e=>by
   have:=SW nd inn ev
   rw[e,prs,nB,bV] at this
   have h2:(prs es d).length=(List.flatMap (λc=>GA (grp ky es c)) d).length:=rfl
   omega
  refine nW (λys ρ=>∃done todo:List Int,ms=done++todo/\ys=todo.map .int/\∃rows u v w x,Twb fs b (prs es done) rows/\ρ=[some (.d (.dct ks xs)),some (.d (pts fs)),some (.own rows),u,v,w,x]) ?_ ?_ _ _ ⟨[],ms,rfl,rfl,[],none,none,none,none,.nil,rfl⟩
  ·rintro x ys ρ ⟨done,todo,ec,exs,rows,u,v,w,x',hB,rfl⟩ F hr hb hn _
   cases todo with
   | nil=>cases exs
   | cons c todo =>
    cases exs
    have hc:c∈ks:=pm.mem_iff.mp (by rw[ec];simp)
    have fit':=fit (done++[c]) todo (by rw[ec];simp)
    rw[prs,nB,wA,bV] at fit'
    have fit':(prs es done).length+(GA (grp ky es c)).length<=10:=fit'
    unfold vR
    simp only[dH,bC,bH]
    refine cP (λρ=>ρ=[some (.d (.dct ks xs)),some (.d (pts fs)),some (.own rows),some (.d (.int c)),some (.d (Dc (grp ky es c))),w,x']) (λK2 hK2=>?_) ?_
    ·simp only[fF,r2,Dp,bY,aH,aI,bC,bH]
     exact⟨_,G.here c hc,hK2 _ rfl⟩
    rintro ρ rfl
    simp only[rQ,Cp,Fo,aM,L2.R2.S.val,aH,aI]
    rw[sF,RC,<-OB,RC,XW]
    refine nW (λzs ρ=>∃(dn td:List (Ent × Ent)) (rows':List D) (w x:Option S),GA (grp ky es c)=dn++td/\zs=td.map (λp=>D.tup [btD p.1.2,btD p.2.2])/\Twb fs b (prs es done++dn) rows'/\ρ=[some (.d (.dct ks xs)),some (.d (pts fs)),some (.own rows'),some (.d (.int c)),some (.d (Dc (grp ky es c))),w,x]) ?_ ?_ _ _ ⟨[],GA (grp ky es c),rows,w,x',rfl,rfl,by rw[dL];exact hB,rfl⟩
    ·rintro y zs' ρ ⟨dn,td,rows',w2,x2,et,ez,hB',rfl⟩ F2 hr2 hb2 hn2 _
     cases td with
     | nil=>cases ez
     | cons p td =>
      cases ez
      have hp:p∈GA (grp ky es c):=by rw[et];simp
      obtain⟨m1,m2⟩:=zX hp
      obtain⟨a1,a2⟩:=fB.mp m1
      obtain⟨b1,b2⟩:=fB.mp m2
      have a2:p.1.1=c:=by simpa [ky] using a2
      have b2:p.2.1=c:=by simpa [ky] using b2
      obtain⟨l1,l2,l3,l4⟩:=D0.each p.2 b1
      rw[b2] at l1 l2 l3
      have i1:c.toNat<fs.length:=by omega
      have i2:(c+1).toNat<fs.length:=by omega
      have hs:fs[c.toNat]? = some fs[c.toNat]:=aC i1
      have ht:fs[(c+1).toNat]? = some fs[(c+1).toNat]:=aC i2
      have R:Rise fs[c.toNat] fs[(c+1).toNat]:=hf.at hs (by rw[show c.toNat+1=(c+1).toNat by omega];exact ht)
      have ll:=hB'.len
      unfold vQ
      simp only[qN,fP,pG,dH,MW,cQ,aG,bI,bY,bJ,dU,aH,aI,bC,bH,true_and]
      refine⟨c,fs,_,rfl,⟨l1,ht⟩,?_⟩
      refine⟨fs[c.toNat],fs[(c+1).toNat],b,p.2.2,rfl,⟨R,hf.each _ (jF _),hf.each _ (jF _)⟩,⟨l3 _ _ hs ht,l4⟩,λsh zs m C=>?_⟩
      refine⟨c,_,_,fs,rfl,⟨l1,l2⟩,λf hf'=>(hf.each f hf').ok,λh hh=>?_⟩
      refine⟨oH ?_,hn2 _ ⟨dn++[p],td,rows'++[tbD p.1 h sh zs m],some (.d (btD p.1.2)),some (.d (btD p.2.2)),by rw[et];simp,rfl,?_,?_⟩⟩
      ·rw[ll,bV]
       have:=congrArg gU et
       rw[bV,bJ] at this
       omega
      ·rw[<-fT]
       exact hB'.snoc (by rw[a2];exact hh) ⟨_,_,by rw[b2];exact hs,by rw[b2];exact ht,C⟩
      ·rw[show tbD p.1 h sh zs m = .tup [.int c,pt h,.lst [btD p.1.2,cbD sh zs m]] by rw[<-a2]]
    ·rintro ρ ⟨dn,td,rows',w2,x2,et,ez,hB',rfl⟩
     have:td=[]:=by simpa using ez.symm
     subst this
     rw[dL] at et
     subst et
     refine hn _ ⟨done++[c],todo,by rw[ec];simp,rfl,rows',_,_,_,_,?_,rfl⟩
     rw[prs,nB,wA]
     exact hB'
  ·rintro ρ ⟨done,todo,ec,exs,rows,u,v,w,x,hB,rfl⟩
   have:todo=[]:=by simpa using exs.symm
   subst this
   rw[dL] at ec
   subst ec
   exact hK _ ⟨_,rows,u,v,w,x,⟨⟨nd,inn⟩,hB⟩,rfl⟩
 rintro ρ ⟨ms,rows,u,v,w,x,⟨h1,h2⟩,rfl⟩
 simp only[JB,S.fz,fZ,bY,aH,aI,bC,bH]
 exact q ms rows h1 h2
end K34
namespace K34
open K33
def oO:FDX:=λds Q PP=>∃(os cs:List Ent) (fs:List P2),ds=[esD os,esD cs,pts fs]/\(Drw fs true os/\Drw fs false cs/\Leans fs) /\
 ((gK os/\gK cs/\∀m1 m2 r1 r2,(m1.Nodup/\∀e∈os,ky e∈m1)->(m2.Nodup/\∀e∈cs,ky e∈m2)->Twb fs true (prs os m1) r1->Twb fs false (prs cs m2) r2->Q (.lst (r1++r2)))\/∃c,(LeastOdd os c\/(gK os/\LeastOdd cs c))/\PP c)
theorem Ep:∀ds Q PP,oO ds Q PP->ds.length=3:=by rintro ds Q PP ⟨_,_,_,rfl,_⟩;rfl
theorem ZR:∀ds Q PP,oO ds Q PP->XB PP F_byNum ED EF { nx:=λ_=>Q .non,rt:=Q } (dO ["openings","closings","leans","opening_bits","closing_bits"] ds):=by
 rintro ds Q PP ⟨os,cs,fs,rfl,⟨d1,d2,hf⟩,q⟩
 rw[cS 2 rfl]
 unfold XB
 simp only[jJ,Km,aU,cX,cD,cO]
 refine cP (λρ=>∃ks xs,Grp os ks xs/\ρ=[some (.d (esD os)),some (.d (esD cs)),some (.d (pts fs)),some (.d (.dct ks xs)),none]) (λK hK=>?_) ?_
 ·simp only[fF,cQ,aG,bI,bY,aH,aI,bC,bH]
  exact⟨os,rfl,d1.len,λks xs g=>hK _ ⟨ks,xs,g,rfl⟩⟩
 rintro ρ ⟨ks,xs,g,rfl⟩
 refine cP (λρ=>∃ks' xs',Grp cs ks' xs'/\ρ=[some (.d (esD os)),some (.d (esD cs)),some (.d (pts fs)),some (.d (.dct ks xs)),some (.d (.dct ks' xs'))]) (λK hK=>?_) ?_
 ·simp only[fF,cQ,aG,bI,bY,aH,aI,bC,bH]
  exact⟨cs,rfl,d2.len,λks' xs' g'=>hK _ ⟨ks',xs',g',rfl⟩⟩
 rintro ρ ⟨ks',xs',g',rfl⟩
 refine cP (λρ=>gK os/\ρ=[some (.d (esD os)),some (.d (esD cs)),some (.d (pts fs)),some (.d (.dct ks xs)),some (.d (.dct ks' xs'))]) (λK hK=>?_) ?_
 ·simp only[QO,MX,aG,bI,bY,aH,aI]
  refine⟨os,ks,xs,rfl,⟨g,d1.len⟩,?_⟩
  rcases q with ⟨a,_⟩ | ⟨c,L | ⟨a,_⟩,hP⟩
  ·exact .inl ⟨a,hK _ ⟨a,rfl⟩⟩
  ·exact .inr ⟨c,L,hP⟩
  ·exact .inl ⟨a,hK _ ⟨a,rfl⟩⟩
 rintro ρ ⟨ae,rfl⟩
 refine cP (λρ=>gK cs/\ρ=[some (.d (esD os)),some (.d (esD cs)),some (.d (pts fs)),some (.d (.dct ks xs)),some (.d (.dct ks' xs'))]) (λK hK=>?_) ?_
 ·simp only[QO,MX,aG,bI,bY,aH,aI]
  refine⟨cs,ks',xs',rfl,⟨g',d2.len⟩,?_⟩
  rcases q with ⟨_,a,_⟩ | ⟨c,L | ⟨_,L⟩,hP⟩
  ·exact .inl ⟨a,hK _ ⟨a,rfl⟩⟩
  ·exact absurd L.odd (ae c)
  ·exact .inr ⟨c,L,hP⟩
 rintro ρ ⟨ae',rfl⟩
 simp only[fZ,r2,cQ,aG,bI,bY,aH,aI]
 refine⟨os,ks,xs,fs,true,rfl,⟨g,d1,ae⟩,hf,λm1 r1 h1 t1=>?_⟩
 refine⟨cs,ks',xs',fs,false,rfl,⟨g',d2,ae'⟩,hf,λm2 r2 h2 t2=>?_⟩
 have l1:=t1.len
 have l2:=t2.len
 have p1:=SW h1.1 h1.2 ae
 have p2:=SW h2.1 h2.2 ae'
 have n1:=d1.len
 have n2:=d2.len
 simp only[zA]
 refine⟨oH (by omega),?_⟩
 rcases q with ⟨_,_,q⟩ | ⟨c,L | ⟨_,L⟩,_⟩
 ·exact q m1 m2 r1 r2 h1 h2 t1 t2
 ·exact absurd L.odd (ae c)
 ·exact absurd L.odd (ae' c)
def JM:FD:=λds Q=>∃(os cs:List Ent) (fs:List P2),ds=[esD os,esD cs,pts fs]/\(Drw fs true os/\Drw fs false cs/\2<=fs.length/\fs.length<=5) /\
 (gK os->gK cs->Q .non)/\∀c,(LeastOdd os c\/(gK os/\LeastOdd cs c))->Q (.int c)
theorem El:∀ds Q,JM ds Q->ds.length=3:=by rintro ds Q ⟨_,_,_,rfl,_⟩;rfl
def EB:FD:=λds Q=>∃(os cs:List Ent) (fs:List P2) (c:Int),ds=[esD os,esD cs,pts fs]/\(Drw fs true os/\Drw fs false cs/\Leans fs)/\(LeastOdd os c\/(gK os/\LeastOdd cs c))/\Q (.int c)
theorem YU:∀ds Q,EB ds Q->ds.length=3:=by rintro ds Q ⟨_,_,_,_,rfl,_⟩;rfl
theorem WP {C:Addr}:∀ds Q,EB ds Q->zP C oO { nx:=λ_=>Q .non,rt:=Q } (dO ["_law_openings","_law_closings","_law_leans_here","_law_kept_here","_law_others","e"] ds):=by
 rintro ds Q ⟨os,cs,fs,c,rfl,⟨d1,d2,hf⟩,hc,q⟩
 rw[cS 3 rfl]
 unfold zP
 simp only[jJ,Kn,aU,cX,cD,cO]
 have fl:oO [esD os,esD cs,pts fs] (λ_=>False) (λx=>x=c):=⟨os,cs,fs,rfl,⟨d1,d2,hf⟩,.inr ⟨c,hc,rfl⟩⟩
 refine cP (λρ=>ρ=[some (.d (esD os)),some (.d (esD cs)),some (.d (pts fs)),some (.d .non),none,none]) (λK hK=>?_) ?_
 ·walk_at "rd"
  exact hK _ rfl
 rintro ρ rfl
 refine cP (λρ=>ρ=[some (.d (esD os)),some (.d (esD cs)),some (.d (pts fs)),some (.d .non),some (.d (.bl true)),none]) (λK hK=>?_) ?_
 ·walk_at "rd"
  exact hK _ rfl
 rintro ρ rfl
 refine cP (λρ=>ρ=[some (.d (esD os)),some (.d (esD cs)),some (.d (pts fs)),some (.d .non),some (.d (.bl false)),none]) (λK hK=>?_) ?_
 ·simp only[WX,aG,bI,bY,aH,aI]
  refine⟨λx=>x=c,fl,λx hx=>?_⟩
  subst hx
  walk_at "rd"
  simp only[MY,aH,aI,true_and]
  exact hK _ rfl
 rintro ρ rfl
 refine cP (λρ=>ρ=[some (.d (esD os)),some (.d (esD cs)),some (.d (pts fs)),some (.d .non),some (.d (.bl false)),none]) (λK hK=>?_) ?_
 ·walk_at "rd"
  exact hK _ rfl
 rintro ρ rfl
 refine cP (λρ=>ρ=[some (.d (esD os)),some (.d (esD cs)),some (.d (pts fs)),some (.d (.int c)),some (.d (.bl false)),none]) (λK hK=>?_) ?_
 ·simp only[WX,aG,bI,bY,aH,aI]
  refine⟨λx=>x=c,fl,λx hx=>?_⟩
  subst hx
  simp only[fF,Ci,aH,aI,bC,bH,true_and,and_self]
  exact hK _ rfl
 rintro ρ rfl
 walk_at "rd"
 exact q
end K34
namespace K34
open K33
theorem PM {α:Type} {g:RG} {tt:RT} {te:RE} (R:En->Prop) (enc f:α->D) (t:α->Bool):∀(src:List α),(∀a∈src,∀ρ,R ρ->∀K:En->Bool->Prop,(∀ρ1,R ρ1->(∀K2:D->Prop,K2 (f a)->te ρ1 K2)->K ρ1 (t a))->g (enc a) ρ λρ1=>tt ρ1 λb=>K ρ1 b)->∀{Q:List D->Prop}
  (ρ:En) (acc:List D),R ρ->Q (acc++(src.filter t).map f)->jH g tt te (src.map enc) ρ acc Q
 | [],_,Q,ρ,acc,_,q=>by simpa [jH] using q
 | a::src,step,Q,ρ,acc,h,q=>by
  show g (enc a) ρ λρ'=>tt ρ' λb=>if b=true then te ρ' λd=>jH g tt te (src.map enc) ρ' (acc++[d]) Q else jH g tt te (src.map enc) ρ' acc Q
  refine step a cI ρ h (λρ' b=>if b=true then te ρ' λd=>jH g tt te (src.map enc) ρ' (acc++[d]) Q else jH g tt te (src.map enc) ρ' acc Q) λρ1 h1 ev=>?_
  have rest:=λ(acc:List D) (q:Q (acc++(src.filter t).map f))=>PM R enc f t src (λa ha=>step a (bD _ ha)) ρ1 acc h1 q
  cases e:t a with
  | true =>
   rw[if_pos rfl]
   refine ev _ (rest _ ?_)
   rw[pW,e] at q
   simpa using q
  | false =>
   rw[if_neg bS]
   refine rest _ ?_
   rw[pW,e] at q
   simpa using q
theorem PX {fs:List P2} {b:Bool} {es:List Ent} (D0:Drw fs b es) (l0:2<=fs.length) (l1:fs.length<=5) {x y:D} {E:DEnds} {u:Option S} (hE:∀v,gK es->E.nx [some (.d x),some (.d y),some (.d (pts fs)),some (.d (esD es)),v]) (hr:∀c,LeastOdd es c->E.rt (.int c)) :
  qG E [some (.d x),some (.d y),some (.d (pts fs)),some (.d (esD es)),u]:=by
 unfold qG
 simp only[rQ,XD,aG,bI,r2,r1,tE,qS,Aa,aM,rC,L2.R2.S.val,aH,aI,aS]
 refine⟨⟨by omega,by omega⟩,?_⟩
 have key:∀c,odd es c->0<=c/\c+1<(fs.length:Int):=λc h=>by
  cases hg:grp ky es c with
  | nil=>unfold odd at h;rw[hg] at h;cases h
  | cons e r =>
   have:e∈grp ky es c:=by rw[hg];simp
   obtain⟨h1,h2⟩:=fB.mp this
   have e1:e.1=c:=by simpa [ky] using h2
   obtain⟨a,b,_,_⟩:=D0.each e h1
   rw[e1] at a b
   exact⟨a,b⟩
 refine JT 0 ((fs.length:Int)-1).toNat (λi ρ=>∃v:Option S,(∀c:Int,0<=c->c<i->¬odd es c)/\ρ=[some (.d x),some (.d y),some (.d (pts fs)),some (.d (esD es)),v]) ?_ ?_ _ ⟨u,λc h1 h2=>by omega,rfl⟩
 ·rintro i ρ hi ⟨v,hno,rfl⟩ F fr fb fn _
  unfold vN
  simp only[dH,bC,bH,tF,fU,r2,r1,HV,riL,bY,rC,aH,aI,aS]
  refine⟨oH (by have:=D0.len;omega),?_⟩
  refine PM (λρ=>∃a,ρ=[a,some (.d (.int (0+(i:Int))))]) enD enD (λe=>decide (e.1=0+(i:Int))) es (λe he ρ hρ K hK=>?_) _ [] ⟨none,rfl⟩ ?_
  ·obtain⟨a,rfl⟩:=hρ
   simp only[dH,fU,r2,rC,aM,L2.R2.S.val,bC,aH,aI]
   rw[show enD e = .tup [.int e.1,btD e.2] from rfl,FH,Gp,eqI 5]
   exact hK _ ⟨_,rfl⟩ λK2 k2=>k2
  ·rw[cO]
   simp only[qS,Aa,lK,AR,aS]
   refine⟨lM,?_⟩
   have eg:es.filter (λe=>decide (e.1=0+(i:Int)))=grp ky es (i:Int):=by
    refine EO λe _=>?_
    rw[Int.zero_add]
   rw[eg]
   have em:((grp ky es (i:Int)).length:Int).fmod 2=(((grp ky es (i:Int)).length % 2:Nat):Int):=by
    rw[lZ _ (by decide)];rfl
   by_cases ho:odd es (i:Int)
   ·have:((grp ky es (i:Int)).length:Int).fmod 2=1:=by rw[em,ho];rfl
    simp only[this,decide_true,sA,if_true,fZ,bY,aH,aI]
    rw[fr]
    have:=hr (i:Int) ⟨ho,λc' h'=>by
     apply Int.not_lt.mp
     intro hlt
     exact hno c' (key c' h').1 hlt h'⟩
    simpa using this
   ·have:¬((grp ky es (i:Int)).length:Int).fmod 2=1:=by
     rw[em]
     intro h
     exact ho (by unfold odd;omega)
    simp only[this,decide_false,sA,aP,if_false,nP]
    exact fn _ ⟨_,λc c0 c1 h=>by
     by_cases e:c=(i:Int)
     ·subst e;exact ho h
     ·exact hno c c0 (by omega) h,rfl⟩
 ·rintro ρ ⟨v,hno,rfl⟩
  exact hE v λc h=>hno c (key c h).1 (by have:=(key c h).2;omega) h
theorem ZP:∀ds Q,JM ds Q->BY { nx:=λ_=>Q .non,rt:=Q } (dO ["_law_openings","_law_closings","_law_leans_here","_law_wedges","_law_place"] ds):=by
 rintro ds Q ⟨os,cs,fs,rfl,⟨d1,d2,l0,l1⟩,q1,q2⟩
 rw[cS 2 rfl]
 unfold BY
 simp only[jJ,Km,aU,cX,cD,cO]
 refine cP (λρ=>gK os/\gK cs) (λK hK=>?_) ?_
 ·simp only[rQ,riL,tG,aG,bI,bY,aH,aI,bJ,dU,sz2,true_and]
  refine nW (λys ρ=>∃u v,(ys=[esD os,esD cs]/\ρ=[some (.d (esD os)),some (.d (esD cs)),some (.d (pts fs)),u,v])\/((ys=[esD cs]/\gK os)/\ρ=[some (.d (esD os)),some (.d (esD cs)),some (.d (pts fs)),u,v])\/(ys=[]/\gK os/\gK cs)) ?_ ?_ _ _ ⟨none,none,.inl ⟨rfl,rfl⟩⟩
  ·rintro x ys ρ ⟨u,v,h⟩ F fr _ fn _
   rcases h with ⟨e,rfl⟩ | ⟨⟨e,ae⟩,rfl⟩ | ⟨e,_⟩
   ·injection e with e1 e2
    subst e1 e2
    simp only[dH,bC,bH]
    refine PX d1 l0 l1 (λv ae=>fn _ ⟨_,_,.inr (.inl ⟨⟨rfl,ae⟩,rfl⟩)⟩) λc L=>?_
    rw[fr];exact q2 c (.inl L)
   ·injection e with e1 e2
    subst e1 e2
    simp only[dH,bC,bH]
    refine PX d2 l0 l1 (λv ae'=>fn _ ⟨none,none,.inr (.inr ⟨rfl,ae,ae'⟩)⟩) λc L=>?_
    rw[fr];exact q2 c (.inr ⟨ae,L⟩)
   ·cases e
  ·rintro ρ ⟨u,v,h⟩
   rcases h with ⟨e,_⟩ | ⟨⟨e,_⟩,_⟩ | ⟨_,h1,h2⟩
   ·cases e
   ·cases e
   ·exact hK _ ⟨h1,h2⟩
 rintro ρ ⟨h1,h2⟩
 simp only[fZ,rC]
 exact q1 h1 h2
end K34
namespace K34
open K33
abbrev Pc2:=Int × List Pt
theorem NN {a b:List Pc2} (h1:a.Pairwise λx y=>gM (nO y) (nO x)=false) (h2:b.Pairwise λx y=>gM (nO y) (nO x)=false) (p:a.Perm b):a=b :=
 List.Perm.eq_of_pairwise (le:=λx y=>gM (nO y) (nO x)=false) (λx y _ _ h h'=>Ir (wP _ _ h' h)) h1 h2 p
theorem Hx (qs:List Pc2) {Q:D->Prop} (q:Q (.bl true)):GX (.lst (qs.map pcD)) (.lst (qs.map pcD)) Q:=by
 have l:∀n xs ys,eqF (n+1) (.lst xs) (.lst ys)=eqL (eqF n) xs ys:=λn xs ys=>by rw[eqF]
 have:eqF 9 (.lst (qs.map pcD)) (.lst (qs.map pcD))=some true:=by
  rw[l,Mb _ _ λx=>by
   show eqF 8 (.tup [.int x.1,.tup (x.2.map pnt)]) (.tup [.int x.1,.tup (x.2.map pnt)])=some true
   rw[K33.eqT]
   exact Px 4 x.1 x.2]
 unfold GX
 rw[this]
 exact q
abbrev GB:=Int × List Pt × Mv
abbrev gbD (g:GB):D:=.tup [pce g.1 g.2.1,mvD g.2.2]
structure GbOk (g:GB):Prop where
 pos:0<g.1
 b:BL 24 g.1
 ne:g.2.1≠[]
 len:g.2.1.length<=3
 zs:∀z∈g.2.1,BL 100 z.1/\BL 100 z.2
 mv:MvOk g.2.2
 p:BL 300 g.2.2.2.1.1
 q:BL 3 g.2.2.2.1.2
 u:BL 300 g.2.2.2.2.1
 v:BL 20 g.2.2.2.2.2
def uT (g:GB) (sh:Int) (zs:List Pt):Prop:=Home g.1 g.2.1 g.2.2 sh zs
def JL:FD:=λds Q=>∃g:GB,ds=[gbD g]/\GbOk g/\∀sh zs,uT g sh zs->Q (pce sh zs)
theorem Ek:∀ds Q,JL ds Q->ds.length=1:=by rintro ds Q ⟨_,rfl,_⟩;rfl
theorem FX:∀ds Q,JL ds Q->zR OX { nx:=λ_=>Q .non,rt:=Q } (dO ["_law_bit","_law_piece","_law_move_here","_law_sign","_law_dx","_law_dy","_law_by","_law_right_here","_law_up"] ds):=by
 rintro ds Q ⟨⟨sh0,zs0,sg,⟨p,q⟩,u,v⟩,rfl,ok,k⟩
 obtain⟨pos,bsh,ne,hl,bz,hm,bp,bq,bu,bv⟩:=ok
 dsimp only at pos bsh ne hl bz bp bq bu bv
 have q0:0<q:=hm.q0
 have v0:0<v:=hm.v0
 have hsg:sg=1\/sg = -1:=hm.sg
 have bsg:BL 1 sg:=by rcases hsg with rfl | rfl <;> exact BL.const (by decide)
 rw[cS 8 rfl]
 unfold zR
 simp only[jJ,Ui,aU,cX,cD,cO]
 generalize hB:gbD (sh0,zs0,sg,(p,q),u,v)=BD
 refine cP (λρ=>ρ=[some (.d BD),some (.d (pce sh0 zs0)),some (.d (mvD (sg,(p,q),u,v))),none,none,none,none,none,none]) (λK hK=>?_) ?_
 ·rw[<-hB] at hK ⊢
  walk_at "rd"
  exact hK _ rfl
 rintro ρ rfl
 refine cP (λρ=>ρ=[some (.d BD),some (.d (pce sh0 zs0)),some (.d (mvD (sg,(p,q),u,v))),some (.d (.int sg)),some (.d (pt (p,q))),some (.d (pt (u,v))),none,none,none]) (λK hK=>?_) ?_
 ·unfold mvD at hK ⊢
  walk_at "rd"
  exact hK _ rfl
 rintro ρ rfl
 refine cP (λρ=>ρ=[some (.d BD),some (.d (pce sh0 zs0)),some (.d (mvD (sg,(p,q),u,v))),some (.d (.int sg)),some (.d (pt (p,q))),some (.d (pt (u,v))),some (.d (.int (q*v))),none,none]) (λK hK=>?_) ?_
 ·walk_at "rd"
  exact⟨bq.mulOk bv,hK _ rfl⟩
 rintro ρ rfl
 refine cP (λρ=>ρ=[some (.d BD),some (.d (pce sh0 zs0)),some (.d (mvD (sg,(p,q),u,v))),some (.d (.int sg)),some (.d (pt (p,q))),some (.d (pt (u,v))),some (.d (.int (q*v))),some (.d (.int (p*v*sh0))),none]) (λK hK=>?_) ?_
 ·walk_at "rd"
  exact⟨bp.mulOk bv,(bp.mul bv).mulOk bsh,hK _ rfl⟩
 rintro ρ rfl
 refine cP (λρ=>ρ=[some (.d BD),some (.d (pce sh0 zs0)),some (.d (mvD (sg,(p,q),u,v))),some (.d (.int sg)),some (.d (pt (p,q))),some (.d (pt (u,v))),some (.d (.int (q*v))),some (.d (.int (p*v*sh0))),some (.d (.int (u*q*sh0)))]) (λK hK=>?_) ?_
 ·walk_at "rd"
  exact⟨bu.mulOk bq,(bu.mul bq).mulOk bsh,hK _ rfl⟩
 rintro ρ rfl
 have bqv:=bq.mul bv
 simp only[fZ,cQ,aG,bI,r2,aM,bY,rC,rE,riT,L2.R2.S.val,aH,aI,FH,UA,iJ]
 refine⟨bsh.mulOk bqv,oH (by rw[aS];omega),?_⟩
 refine sM (λρ=>∃a b,ρ=[a,b,some (.d (.int sg)),some (.d (.int (q*v))),some (.d (.int (p*v*sh0))),some (.d (.int (u*q*sh0)))]) pt (λz=>pt (thw sg sh0 p q u v z)) zs0 (λz hz ρ hρ K hK=>?_) ⟨none,none,rfl⟩ ?_
 ·obtain⟨a,b,rfl⟩:=hρ
  obtain⟨b1,b2⟩:=bz z hz
  walk_at "rd"
  exact⟨bsg.mulOk b1,(bsg.mul b1).mulOk bqv,bsg.mulOk b2,(bsg.mul b2).mulOk bqv,hK _ ⟨_,_,rfl⟩⟩
 ·refine⟨sh0*(q*v),zs0.map (thw sg sh0 p q u v),by rw[show pts (zs0.map (thw sg sh0 p q u v)) = .lst (zs0.map λz=>pt (thw sg sh0 p q u v z)) by unfold pts;rw[cZ];rfl],⟨bZ pos (bZ q0 v0),(bsh.mul bqv).mono (by decide)⟩,⟨by simpa using ne,by rw[aS];omega⟩,λm sh zs j d=>?_⟩
  exact k sh _ (UP d)
def JK:FD:=λds Q=>∃(gs:List GB) (hm:GB->Pc2),ds=[.lst (gs.map gbD)]/\(gs.length<64/\∀g∈gs,GbOk g)/\(∀g∈gs,∀sh zs,uT g sh zs->(sh,zs)=hm g)/\∀qs:List Pc2,qs.Perm (gs.map hm)->(qs.Pairwise λx y=>gM (nO y) (nO x)=false)->Q (.lst (qs.map pcD))
theorem Ej:∀ds Q,JK ds Q->ds.length=1:=by rintro ds Q ⟨_,_,rfl,_⟩;rfl
theorem MU:∀ds Q,JK ds Q->BW JL { nx:=λ_=>Q .non,rt:=Q } (dO ["_law_bits"] ds):=by
 rintro ds Q ⟨gs,hm,rfl,⟨hl,ok⟩,one,k⟩
 rw[cS 0 rfl]
 unfold BW
 simp only[jJ,Ud,aU,cX,cD,cO]
 simp only[fZ,HW,rE,riL,bY,aH]
 refine⟨oH (by rw[aS];omega),?_⟩
 refine sM (λρ=>∃a,ρ=[a]) gbD (λg=>pcD (hm g)) gs (λg hg ρ hρ K hK=>?_) ⟨none,rfl⟩ ?_
 ·obtain⟨a,rfl⟩:=hρ
  simp only[dH,bC,cQ,aG,bI,bY,aH]
  refine⟨g,rfl,ok g hg,λsh zs h=>?_⟩
  have e:=one g hg sh zs h
  rw[show pce sh zs=pcD (sh,zs) from rfl,e]
  exact hK _ ⟨_,rfl⟩
 ·exact⟨gs.map hm,by rw[cZ];rfl,by simpa using hl,λqs p s=>k qs p s⟩
end K34
namespace K33
theorem Im {xs:List D}:YQ "list" (.lst xs)=some true:=rfl
end K33
namespace K34
open K33
structure BoxOk (fs:List P2) (e:Ent) (h:P2) (sh:Int) (zs:List Pt):Prop where
 lo:0<=e.1
 hi:e.1+1<(fs.length:Int)
 hg:Hgt fs e.1 h
 ex:∃(b:Bool),∀s t,fs[e.1.toNat]? = some s->fs[(e.1+1).toNat]? = some t->WedgeOf s t b e.2.1.1 (xM e.2.1)/\WedgeOf s t (!b) sh zs
def JI:FD:=λds Q=>∃(e:Ent) (h:P2) (sh:Int) (zs:List Pt) (m:Mv) (fs:List P2),ds=[tbD e h sh zs m,pts fs]/\BoxOk fs e h sh zs/\Leans fs/\Q (.bl true)
theorem Eh:∀ds Q,JI ds Q->ds.length=2:=by rintro ds Q ⟨_,_,_,_,_,_,rfl,_⟩;rfl
theorem MS:∀ds Q,JI ds Q->BU OZ uS EG { nx:=λ_=>Q .non,rt:=Q } (dO ["_law_box_here","_law_leans_here","_law_place","_law_height","_law_bits","_law_s","_law_t","_law_due_here"] ds):=by
 rintro ds Q ⟨e,h,sh,zs,m,fs,rfl,⟨c0,c1,⟨s,t,es,et,lw⟩,b,wd⟩,hf,q⟩
 have isl:=@Im
 have os:=(hf.each s (bF es)).ok
 have ot:=(hf.each t (bF et)).ok
 have R:Rise s t:=hf.at es (by rw[show e.1.toNat+1=(e.1+1).toNat by omega];exact et)
 obtain⟨wa,wb⟩:=wd s t es et
 have xs:∀Q:D->Prop,dIx (pts fs) (.int e.1) Q=Q (pt s):=λQ=>by
  have:=pC (xs:=fs.map pt) (k:=e.1.toNat) (x:=pt s) (Q:=Q) (by rw[aT,es];rfl)
  rwa [gS c0] at this
 have xt:∀Q:D->Prop,dIx (pts fs) (.int (e.1+1)) Q=Q (pt t):=λQ=>by
  have:=pC (xs:=fs.map pt) (k:=(e.1+1).toNat) (x:=pt t) (Q:=Q) (by rw[aT,et];rfl)
  rwa [gS (by omega)] at this
 rw[cS 6 rfl]
 unfold BU
 simp only[jJ,Nx,aU,cX,cD,cO]
 refine cP (λρ=>ρ=[some (.d (tbD e h sh zs m)),some (.d (pts fs)),none,none,none,none,none,none]) (λK hK=>?_) ?_
 ·walk_at "rd"
  refine⟨e.1,rfl,?_⟩
  walk_at "rd"
  simp only[isl,eS,aP,if_false]
  exact hK _ rfl
 rintro ρ rfl
 refine cP (λρ=>ρ=[some (.d (tbD e h sh zs m)),some (.d (pts fs)),some (.d (.int e.1)),some (.d (pt h)),some (.d (.lst [btD e.2,cbD sh zs m])),none,none,none]) (λK hK=>?_) ?_
 ·walk_at "rd"
  exact hK _ rfl
 rintro ρ rfl
 refine cP (λρ=>ρ=[some (.d (tbD e h sh zs m)),some (.d (pts fs)),some (.d (.int e.1)),some (.d (pt h)),some (.d (.lst [btD e.2,cbD sh zs m])),none,none,none]) (λK hK=>?_) ?_
 ·walk_at "rd"
  rw[aS,if_neg (by simp),if_neg (by omega),if_neg (by omega)]
  exact hK _ rfl
 rintro ρ rfl
 refine cP (λρ=>ρ=[some (.d (tbD e h sh zs m)),some (.d (pts fs)),some (.d (.int e.1)),some (.d (pt h)),some (.d (.lst [btD e.2,cbD sh zs m])),some (.d (pt s)),none,none]) (λK hK=>?_) ?_
 ·walk_at "rd"
  rw[xs]
  exact hK _ rfl
 rintro ρ rfl
 refine cP (λρ=>ρ=[some (.d (tbD e h sh zs m)),some (.d (pts fs)),some (.d (.int e.1)),some (.d (pt h)),some (.d (.lst [btD e.2,cbD sh zs m])),some (.d (pt s)),some (.d (pt t)),none]) (λK hK=>?_) ?_
 ·walk_at "rd"
  rw[xt]
  exact hK _ rfl
 rintro ρ rfl
 refine cP (λρ=>ρ=[some (.d (tbD e h sh zs m)),some (.d (pts fs)),some (.d (.int e.1)),some (.d (pt h)),some (.d (.lst [btD e.2,cbD sh zs m])),some (.d (pt s)),some (.d (pt t)),none]) (λK hK=>?_) ?_
 ·walk_at "rd"
  refine⟨ot.top.mulOk os.bot,os.top.mulOk ot.bot,os.bot.mulOk ot.bot,?_⟩
  refine⟨_,_,rfl,⟨bZ os.pos ot.pos,(os.bot.mul ot.bot).mono (by decide)⟩,λa b l=>?_⟩
  rw[mL s.2 t.2] at l
  obtain⟨ea,eb⟩:=K12.low_eq (bZ ot.pos os.pos) lw l
  subst ea eb
  have e5:eqL (eqF 5) [.int h.1,.int h.2] [.int h.1,.int h.2]=some true:=by
   rw[vD (eqI 4 h.1 h.1) (vD (eqI 4 h.2 h.2) rfl),decide_eq_true rfl,decide_eq_true rfl];rfl
  dsimp only
  rw[e5]
  simp only[eS,aP,if_false]
  exact hK _ rfl
 rintro ρ rfl
 refine cP (λρ=>∃w1 w2:Wd,(WedgeOf s t true w1.1 (xM w1)/\WedgeOf s t false w2.1 (xM w2))/\ρ=[some (.d (tbD e h sh zs m)),some (.d (pts fs)),some (.d (.int e.1)),some (.d (pt h)),some (.d (.lst [btD e.2,cbD sh zs m])),some (.d (pt s)),some (.d (pt t)),some (.d (.lst [wdD w1,wdD w2]))]) (λK hK=>?_) ?_
 ·walk_at "rd"
  refine⟨s,t,true,rfl,⟨hf.each s (bF es),hf.each t (bF et)⟩,λw1 h1=>?_⟩
  refine⟨s,t,false,rfl,⟨hf.each s (bF es),hf.each t (bF et)⟩,λw2 h2=>?_⟩
  exact hK _ ⟨w1,w2,⟨h1,h2⟩,rfl⟩
 rintro ρ ⟨w1,w2,⟨h1,h2⟩,rfl⟩
 simp only[fZ,r2,HW,rE,riL,bY,aM,L2.R2.S.val,aH,aI,bJ,dU,sz2,true_and]
 let pw:Wd->Pc2:=λw=>(w.1,xM w)
 have src:[btD e.2,cbD sh zs m]=[(pw e.2.1,e.2.2),((sh,zs),m)].map λ(g:Pc2 × Mv)=>D.tup [pcD g.1,mvD g.2]:=rfl
 rw[src]
 refine sM (λρ=>∃a,ρ=[a]) (λ(g:Pc2 × Mv)=>D.tup [pcD g.1,mvD g.2]) (λg=>pcD g.1) [(pw e.2.1,e.2.2),((sh,zs),m)] (λg hg ρ hρ K hK=>?_) ⟨none,rfl⟩ ?_
 ·obtain⟨a,rfl⟩:=hρ
  simp only[dH,bC,r2,aM,rC,L2.R2.S.val,aH,FH]
  exact hK _ ⟨_,rfl⟩
 ·refine⟨[pw e.2.1,(sh,zs)],rfl,(by decide:2<64),λq1 p1 s1=>?_⟩
  refine⟨[pw w1,pw w2],rfl,(by decide:2<64),λq2 p2 s2=>?_⟩
  have pp:[pw e.2.1,(sh,zs)].Perm [pw w1,pw w2]:=by
   cases b with
   | true =>
    obtain⟨a1,a2⟩:=wa.one R h1
    obtain⟨b1,b2⟩:=wb.one R h2
    rw[show pw e.2.1=pw w1 from fY a1 a2,show ((sh,zs):Pc2)=pw w2 from fY b1 b2]
   | false =>
    obtain⟨a1,a2⟩:=wa.one R h2
    obtain⟨b1,b2⟩:=wb.one R h1
    rw[show pw e.2.1=pw w2 from fY a1 a2,show ((sh,zs):Pc2)=pw w1 from fY b1 b2]
    exact KE _ _ _
  have eq:q1=q2:=NN s1 s2 (p1.trans (pp.trans p2.symm))
  subst eq
  exact Hx q1 q
end K34
namespace K34
open K33
abbrev g1 (e:Ent):GB:=(e.2.1.1,xM e.2.1,e.2.2)
theorem Bm {fs:List P2} {b:Bool} {e:Ent} (hf:Leans fs) (h:EntOk fs b e):GbOk (g1 e)/\∀sh zs sh' zs',uT (g1 e) sh zs->uT (g1 e) sh' zs'->sh=sh'/\zs=zs':=by
 obtain⟨lo,hi,wd,mv⟩:=h
 have i1:e.1.toNat<fs.length:=by omega
 have i2:(e.1+1).toNat<fs.length:=by omega
 have hs:fs[e.1.toNat]? = some fs[e.1.toNat]:=aC i1
 have ht:fs[(e.1+1).toNat]? = some fs[(e.1+1).toNat]:=aC i2
 have R:Rise fs[e.1.toNat] fs[(e.1+1).toNat]:=hf.at hs (by rw[show e.1.toNat+1=(e.1+1).toNat by omega];exact ht)
 have w:=wd _ _ hs ht
 obtain⟨p,_,cz,lz⟩:=w.pos R
 obtain⟨b1,b2⟩:=NR R (hf.each _ (jF _)) (hf.each _ (jF _)) w
 exact⟨⟨p,b1,by simp,by simp,b2,mv.ok,mv.p.mono (by decide),mv.q,mv.u.mono (by decide),mv.v.mono (by decide)⟩,λsh zs sh' zs' h1 h2=>Home.one p cz.nodup mv.ok h1 h2⟩
theorem Mf {g:GB} (ok:GbOk g):∃r:Pc2,uT g r.1 r.2:=by
 obtain⟨sh,zs,T⟩:=Cs (bZ ok.pos (bZ ok.mv.q0 ok.mv.v0)) (A:=g.2.1.map (thw g.2.2.1 g.1 g.2.2.2.1.1 g.2.2.2.1.2 g.2.2.2.2.1 g.2.2.2.2.2)) (by simpa using ok.ne)
 exact⟨(sh,zs),T⟩
noncomputable def hm (g:GB):Pc2:=open Classical in if h:∃r:Pc2,uT g r.1 r.2 then choose h else (0,[])
theorem Bn {g:GB} (ok:GbOk g):uT g (hm g).1 (hm g).2:=by
 have h:=Mf ok
 unfold hm
 rw[dif_pos h]
 exact Classical.choose_spec h
inductive Bits (fs:List P2):List (Ent × Ent)->List D->List GB->Prop
 | nil:Bits fs [] [] []
 | cons {p:Ent × Ent} {ps:List (Ent × Ent)} {h:P2} {sh:Int} {zs:List Pt} {m:Mv} {ds:List D} {gs:List GB}:BoxOk fs p.1 h sh zs->(GbOk (g1 p.1)/\GbOk (sh,zs,m))->(∀a b,uT (g1 p.1) a b->(a,b)=hm (g1 p.1))->(∀a b,uT (sh,zs,m) a b->(a,b)=hm (g1 p.2))->Bits fs ps ds gs ->
   Bits fs (p::ps) (tbD p.1 h sh zs m::ds) (g1 p.1::(sh,zs,m)::gs)
theorem Ar {fs:List P2} {b:Bool} {es:List Ent} (hf:Leans fs) (D0:Drw fs b es) {ps:List (Ent × Ent)} {ds:List D} (tw:Twb fs b ps ds):(∀p∈ps,p.1∈es/\p.2∈es/\p.2.1=p.1.1)->∃gs,Bits fs ps ds gs:=by
 induction tw with
 | nil=>intro _;exact⟨[],.nil⟩
 | @cons p ps h sh zs m ds hh hc t ih =>
  intro hp
  obtain⟨gs,B⟩:=ih (λq hq=>hp q (bD _ hq))
  obtain⟨m1,m2,ek⟩:=hp p cI
  have E1:=D0.each _ m1
  have E2:=D0.each _ m2
  obtain⟨s,t',es',et,C⟩:=hc.ex
  rw[ek] at es' et
  obtain⟨o1,u1⟩:=Bm hf E1
  obtain⟨o2,u2⟩:=Bm hf E2
  have lo:=E1.lo
  have R:Rise s t':=hf.at es' (by rw[show p.1.1.toNat+1=(p.1.1+1).toNat by omega];exact et)
  have ls:=hf.each s (bF es')
  have lt:=hf.each t' (bF et)
  obtain⟨ps',_,cz,lz⟩:=C.wd.pos R
  obtain⟨b1,b2⟩:=NR R ls lt C.wd
  have o3:GbOk (sh,zs,m):=⟨ps',b1,(λe=>by rw[show zs=[] from e] at lz;simp at lz),(by show zs.length<=3;omega),b2,C.mv,C.p,C.bq,C.u,C.bv⟩
  refine⟨_,.cons (p:=p) ⟨lo,E1.hi,hh,b,λs2 t2 h1 h2=>?_⟩ ⟨o1,o3⟩ (λa b' H=>?_) (λa b' H=>?_) B⟩
  ·rw[es'] at h1;rw[et] at h2
   cases h1;cases h2
   exact⟨E1.wd _ _ es' et,C.wd⟩
  ·obtain⟨x,y⟩:=u1 _ _ _ _ H (Bn o1)
   exact fY x y
  ·obtain⟨x,y⟩:=C.home _ _ _ _ (Bn o2) H
   exact fY x.symm y.symm
theorem Bits.append {fs:List P2} {ps ps':List (Ent × Ent)} {ds ds':List D} {gs gs':List GB} (a:Bits fs ps ds gs) (b:Bits fs ps' ds' gs'):Bits fs (ps++ps') (ds++ds') (gs++gs'):=by
 induction a with
 | nil=>exact b
 | cons h1 h2 h3 h4 _ ih=>exact .cons h1 h2 h3 h4 ih
theorem Bits.fn {fs:List P2} {ps:List (Ent × Ent)} {ds:List D} {gs:List GB} (a:Bits fs ps ds gs):(∀g∈gs,GbOk g)/\(∀g∈gs,∀x y,uT g x y->(x,y)=hm g)/\gs.map hm=(ps.flatMap λp=>[p.1,p.2]).map (λe=>hm (g1 e))/\gs.length=2*ps.length/\ds.length=ps.length:=by
 induction a with
 | nil=>exact⟨λg h=>(by cases h),λg h=>(by cases h),rfl,rfl,rfl⟩
 | @cons p ps h sh zs m ds gs h1 h2 h3 h4 _ ih =>
  obtain⟨i1,i2,i3,i4,i5⟩:=ih
  have e:hm (sh,zs,m)=hm (g1 p.2):=by
   have:=h4 _ _ (Bn h2.2)
   exact this
  refine⟨λg hg=>?_,λg hg x y H=>?_,?_,by simp[i4];omega,by simp[i5]⟩
  ·rcases aL.mp hg with rfl | hg
   ·exact h2.1
   rcases aL.mp hg with rfl | hg
   ·exact h2.2
   ·exact i1 g hg
  ·rcases aL.mp hg with rfl | hg
   ·exact h3 x y H
   rcases aL.mp hg with rfl | hg
   ·rw[e];exact h4 x y H
   ·exact i2 g hg x y H
  ·simp only[aU,lQ,dN,cX,cD,cO,i3,e]
end K34
namespace K34
open K33
structure RightOf34 (fs:List P2) (os cs:List Ent) (rows:List D) (ps:List (Ent × Ent)) (gs:List GB):Prop where
 bits:Bits fs ps rows gs
 perm:(ps.flatMap λp=>[p.1,p.2]).Perm (os++cs)
 d1:Drw fs true os
 d2:Drw fs false cs
 lf:Leans fs
def AA:FD:=λds Q=>∃(rows:List D) (os cs:List Ent) (fs:List P2) (ps:List (Ent × Ent)) (gs:List GB),ds=[.lst rows,esD os,esD cs,pts fs]/\RightOf34 fs os cs rows ps gs/\Q (.bl true)
theorem VQ:∀ds Q,AA ds Q->ds.length=4:=by rintro ds Q ⟨_,_,_,_,_,_,rfl,_⟩;rfl
theorem HS:∀ds Q,AA ds Q->vO JI JK { nx:=λ_=>Q .non,rt:=Q } (dO ["_law_found","_law_openings","_law_closings","_law_leans_here","_law_bits","_law_box_here"] ds):=by
 rintro ds Q ⟨rows,os,cs,fs,ps,gs,rfl,⟨B,pm,d1,d2,hf⟩,q⟩
 obtain⟨b1,b2,b3,b4,b5⟩:=B.fn
 have isl:=@Im
 have n1:=d1.len
 have n2:=d2.len
 have pl:2*ps.length=os.length+cs.length:=by
  have:=pm.length_eq
  rw[bV] at this
  rw[<-this]
  clear this pm B b1 b2 b3 b4 b5
  induction ps with
  | nil=>rfl
  | cons p ps ih=>rw[lQ,bV,<-ih];simp;omega
 rw[cS 2 rfl]
 unfold vO
 simp only[jJ,Km,aU,cX,cD,cO]
 refine cP (λρ=>ρ=[some (.d (.lst rows)),some (.d (esD os)),some (.d (esD cs)),some (.d (pts fs)),none,none]) (λK hK=>?_) ?_
 ·walk_at "rd"
  simp only[isl,eS,aP,if_false,aS]
  have e:(2:Int)*(rows.length:Int)=(os.length:Int)+(cs.length:Int):=by omega
  refine⟨(BL.const (n:=20)).mulOk (BL.of_lt (m:=20) (by omega) (by omega)),?_⟩
  rw[e]
  simp only[decide_true,eS,Bool.xor_true,Bool.true_xor,aP,if_false]
  first | exact hK _ rfl | (simp;exact hK _ rfl)
 rintro ρ rfl
 refine cP (λρ=>ρ=[some (.d (.lst rows)),some (.d (esD os)),some (.d (esD cs)),some (.d (pts fs)),some (.d (.lst [])),none]) (λK hK=>?_) ?_
 ·walk_at "rd"
  exact hK _ rfl
 rintro ρ rfl
 refine cP (λρ=>∃u:Option S,ρ=[some (.d (.lst rows)),some (.d (esD os)),some (.d (esD cs)),some (.d (pts fs)),some (.d (.lst (gs.map gbD))),u]) (λK hK=>?_) ?_
 ·simp only[rQ,riL,bY,aH]
  refine nW (λys ρ=>∃(ps':List (Ent × Ent)) (gd gt:List GB) (u:Option S),(Bits fs ps' ys gt/\gs=gd++gt)/\ρ=[some (.d (.lst rows)),some (.d (esD os)),some (.d (esD cs)),some (.d (pts fs)),some (.d (.lst (gd.map gbD))),u]) ?_ ?_ _ _ ⟨ps,[],gs,none,⟨B,rfl⟩,rfl⟩
  ·rintro x ys ρ ⟨ps',gd,gt,u,⟨hB,eg⟩,rfl⟩ F fr _ fn _
   cases hB with
   | @cons p ps' h sh zs m _ gt h1 h2 h3 h4 hB =>
    unfold rF
    simp only[dH,bC,bH]
    refine cP (λρ=>ρ=[some (.d (.lst rows)),some (.d (esD os)),some (.d (esD cs)),some (.d (pts fs)),some (.d (.lst (gd.map gbD))),some (.d (tbD p.1 h sh zs m))]) (λK2 hK2=>?_) ?_
    ·simp only[tF,WV,fU,cQ,aG,bI,bY,aH,aI]
     refine⟨p.1,h,sh,zs,m,fs,rfl,h1,hf,?_⟩
     simp only[eS,aP,if_false,nP]
     exact hK2 _ rfl
    rintro ρ rfl
    simp only[fF,r2,aM,rC,L2.R2.S.val,aH,aI,bC,bH,UB,zA]
    have lg:=congrArg gU eg
    rw[bV,bJ,bJ] at lg
    refine⟨oH (by rw[aS];simp;omega),fn _ ⟨ps',gd++[g1 p.1,(sh,zs,m)],gt,some (.d (tbD p.1 h sh zs m)),⟨hB,by rw[eg];simp⟩,?_⟩⟩
    rw[dN]
    rfl
  ·rintro ρ ⟨ps',gd,gt,u,⟨hB,eg⟩,rfl⟩
   cases hB
   rw[dL] at eg
   subst eg
   exact hK _ ⟨u,rfl⟩
 rintro ρ ⟨u,rfl⟩
 simp only[fZ,r2,cQ,aG,bI,bY,aM,L2.R2.S.val,aH,aI]
 refine⟨gs,hm,rfl,⟨by omega,b1⟩,b2,λq1 p1 s1=>?_⟩
 simp only[rE,riL,r2,zA,aM,L2.R2.S.val,aH,aI]
 refine⟨oH (by rw[aS,aS];omega),oH (by rw[bV,aS,aS];omega),?_⟩
 rw[<-dN]
 refine sM (λρ=>∃a b,ρ=[a,b]) enD (λe=>gbD (g1 e)) (os++cs) (λe he ρ hρ K hK=>?_) ⟨none,none,rfl⟩ ?_
 ·obtain⟨a,b,rfl⟩:=hρ
  unfold enD
  simp only[qN,fP,pG,dH,bY,bJ,dU,aH,aI,bC,bH,true_and]
  exact hK _ ⟨_,_,rfl⟩
 ·have okE:∀g∈(os++cs).map g1,GbOk g/\∀x y,uT g x y->(x,y)=hm g:=λg hg=>by
   obtain⟨e,he,rfl⟩:=cK.mp hg
   have key:GbOk (g1 e)/\∀sh zs sh' zs',uT (g1 e) sh zs->uT (g1 e) sh' zs'->sh=sh'/\zs=zs':=by
    rcases cH.mp he with he | he
    ·exact Bm hf (d1.each e he)
    ·exact Bm hf (d2.each e he)
   refine⟨key.1,λx y H=>?_⟩
   obtain⟨a,b⟩:=key.2 _ _ _ _ H (Bn key.1)
   exact fY a b
  refine⟨(os++cs).map g1,hm,by rw[cZ];rfl,⟨by rw[aS,bV];omega,λg hg=>(okE g hg).1⟩,λg hg=>(okE g hg).2,λq2 p2 s2=>?_⟩
  have pp:(gs.map hm).Perm (((os++cs).map g1).map hm):=by
   rw[b3,cZ]
   exact pm.map _
  have eq:q1=q2:=NN s1 s2 (p1.trans (pp.trans p2.symm))
  subst eq
  exact Hx q1 q
theorem Ex (os cs:List Ent) (d1:∀e∈os,0<=e.1) (d2:∀e∈cs,0<=e.1):(gK os/\gK cs)\/∃c,LeastOdd os c\/(gK os/\LeastOdd cs c):=by
 have key:∀es:List Ent,(∀e∈es,0<=e.1)->gK es\/∃c,LeastOdd es c:=λes d=>by
  by_cases h:∃n:Nat,odd es (n:Int)
  ·refine .inr ?_
   have:∃n:Nat,odd es (n:Int)/\∀m:Nat,odd es (m:Int)->n<=m:=by
    obtain⟨n,hn⟩:=h
    induction n using xD with
    | _ n ih =>
     by_cases k:∃m,m<n/\odd es (m:Int)
     ·obtain⟨m,h1,h2⟩:=k
      exact ih m h1 h2
     ·refine⟨n,hn,λm hm=>?_⟩
      apply DC.mp
      intro hlt
      exact k ⟨m,hlt,hm⟩
   obtain⟨n,h1,h2⟩:=this
   refine⟨n,h1,λc' h'=>?_⟩
   have c0:0<=c':=by
    cases hg:grp ky es c' with
    | nil=>unfold odd at h';rw[hg] at h';cases h'
    | cons e r =>
     have:e∈grp ky es c':=by rw[hg];simp
     obtain⟨a1,a2⟩:=fB.mp this
     have a2:e.1=c':=by simpa [ky] using a2
     rw[<-a2];exact d e a1
   have:=h2 c'.toNat (by rw[gS c0];exact h')
   omega
  ·refine .inl λc hc=>?_
   have c0:0<=c:=by
    cases hg:grp ky es c with
    | nil=>unfold odd at hc;rw[hg] at hc;cases hc
    | cons e r =>
     have:e∈grp ky es c:=by rw[hg];simp
     obtain⟨a1,a2⟩:=fB.mp this
     have a2:e.1=c:=by simpa [ky] using a2
     rw[<-a2];exact d e a1
   exact h ⟨c.toNat,by rw[gS c0];exact hc⟩
 rcases key os d1 with h1 | ⟨c,h1⟩
 ·rcases key cs d2 with h2 | ⟨c,h2⟩
  ·exact .inl ⟨h1,h2⟩
  ·exact .inr ⟨c,.inr ⟨h1,h2⟩⟩
 ·exact .inr ⟨c,.inl h1⟩
theorem ZN:∀ds Q,Cz 63 ds Q->NE uQ zY EB zZ JM AA EG oO { nx:=λ_=>Q .non,rt:=Q } (dO ["_law_script","_law_leans_here","_law_openings","_law_closings","_law_handed","_law_odd_here","_law_kept_here","_law_found"] ds):=by
 rintro ds Q ⟨ns,rfl,hn,Qt⟩
 rw[cS 7 rfl]
 unfold NE
 simp only[jJ,Uh,aU,cX,cD,cO]
 refine cP (λρ=>∃fs:List P2,((2<=fs.length/\fs.length<=5)/\Leans fs)/\ρ=[some (.d (il ns)),some (.d (pts fs)),none,none,none,none,none,none]) (λK hK=>?_) ?_
 ·walk_at "rd"
  refine⟨ns,0,rfl,by decide,λc c0 c1 _=>?_⟩
  walk_at "rd"
  refine⟨(BL.const (n:=9000) (by decide)).divOk (by decide),?_⟩
  refine⟨ns,0,rfl,by decide,λd d0 d1 _=>?_⟩
  walk_at "rd"
  obtain⟨a0,a1⟩:=eU (a:=d) (b:=4) (by decide)
  refine⟨lM,?_⟩
  exact⟨_,_,rfl,⟨by omega,by omega⟩,λfs h1 h2=>hK _ ⟨fs,⟨⟨by omega,by omega⟩,h2⟩,rfl⟩⟩
 rintro ρ ⟨fs,⟨fl,hf⟩,rfl⟩
 refine cP (λρ=>∃os cs:List Ent,(Drw fs true os/\Drw fs false cs)/\ρ=[some (.d (il ns)),some (.d (pts fs)),some (.d (esD os)),some (.d (esD cs)),none,none,none,none]) (λK hK=>?_) ?_
 ·simp only[ZU,cQ,aG,bI,bY,Kp,fP,dH,pG,aH,aI,bC,bH]
  refine⟨ns,fs,rfl,fl,hf,λos cs ho hc _=>?_⟩
  exact⟨rfl,hK _ ⟨os,cs,⟨ho,hc⟩,rfl⟩⟩
 rintro ρ ⟨os,cs,⟨ho,hc⟩,rfl⟩
 refine cP (λρ=>ρ=[some (.d (il ns)),some (.d (pts fs)),some (.d (esD os)),some (.d (esD cs)),some (.d (.lst [esD os,esD cs,pts fs])),none,none,none]) (λK hK=>?_) ?_
 ·walk_at "rd"
  exact hK _ rfl
 rintro ρ rfl
 refine cP (λρ=>ρ=[some (.d (il ns)),some (.d (pts fs)),some (.d (esD os)),some (.d (esD cs)),some (.d (.lst [esD os,esD cs,pts fs])),none,none,none]) (λK hK=>?_) ?_
 ·simp only[tF,fU,r2,Kg,cQ,aG,bI,bY,rC,aH,aI]
  refine⟨ns,1,rfl,by decide,λc c0 c1 e1=>?_⟩
  refine⟨ns,1,rfl,by decide,λd d0 d1 e2=>?_⟩
  subst e1 e2
  have e:∀i:Int,eqF 6 (.int i) (.int i)=some true:=λi=>by rw[eqI 5,decide_eq_true rfl]
  simp only[dNe,e,eS,aP,if_false,nP]
  exact hK _ rfl
 rintro ρ rfl
 have hh:=Du os cs fs
 have eqh:∀Q:D->Prop,Q (.bl true)->GX (.lst [esD os,esD cs,pts fs]) (.lst [esD os,esD cs,pts fs]) Q:=λQ q=>by
  unfold GX
  rw[hh];exact q
 rcases Ex os cs (λe he=>(ho.each e he).lo) (λe he=>(hc.each e he).lo) with ⟨ae,ae'⟩ | ⟨c,hodd⟩
 ·refine cP (λρ=>ρ=[some (.d (il ns)),some (.d (pts fs)),some (.d (esD os)),some (.d (esD cs)),some (.d (.lst [esD os,esD cs,pts fs])),some (.d .non),none,none]) (λK hK=>?_) ?_
  ·simp only[fF,cQ,aG,bI,bY,aH,aI,bC,bH]
   refine⟨os,cs,fs,rfl,⟨ho,hc,fl.1,fl.2⟩,λ_ _=>hK _ rfl,λc L=>?_⟩
   rcases L with L | ⟨_,L⟩
   ·exact absurd L.odd (ae c)
   ·exact absurd L.odd (ae' c)
  rintro ρ rfl
  refine cP (λρ=>ρ=[some (.d (il ns)),some (.d (pts fs)),some (.d (esD os)),some (.d (esD cs)),some (.d (.lst [esD os,esD cs,pts fs])),some (.d .non),none,none]) (λK hK=>?_) ?_
  ·walk_at "rd"
   exact hK _ rfl
  rintro ρ rfl
  refine cP (λρ=>∃(rows:List D) (ps:List (Ent × Ent)) (gs:List GB),RightOf34 fs os cs rows ps gs/\ρ=[some (.d (il ns)),some (.d (pts fs)),some (.d (esD os)),some (.d (esD cs)),some (.d (.lst [esD os,esD cs,pts fs])),some (.d .non),none,some (.d (.lst rows))]) (λK hK=>?_) ?_
  ·simp only[fF,cQ,aG,bI,r2,bY,aM,rC,L2.R2.S.val,KW,KY,KZ,aH,aI,bC,bH]
   refine⟨os,cs,fs,rfl,⟨ho,hc,hf⟩,.inl ⟨ae,ae',λm1 m2 r1 r2 h1 h2 t1 t2=>?_⟩⟩
   obtain⟨gs1,B1⟩:=Ar hf ho t1 λp hp=>Ce hp
   obtain⟨gs2,B2⟩:=Ar hf hc t2 λp hp=>Ce hp
   refine hK _ ⟨r1++r2,prs os m1++prs cs m2,gs1++gs2,⟨B1.append B2,?_,ho,hc,hf⟩,rfl⟩
   rw[nB]
   exact (MO h1.1 h1.2 ae).append (MO h2.1 h2.2 ae')
  rintro ρ ⟨rows,ps,gs,R,rfl⟩
  simp only[fZ,IM,r2,cQ,aG,bI,bY,aM,tG,L2.R2.S.val,aH,aI,bJ,dU,sz3,true_and]
  refine⟨rows,os,cs,fs,ps,gs,rfl,R,?_⟩
  first | exact eqh _ Qt | (simp only[if_true];exact eqh _ Qt) | (rw[if_pos rfl];exact eqh _ Qt)
 ·refine cP (λρ=>∃c,(LeastOdd os c\/(gK os/\LeastOdd cs c))/\ρ=[some (.d (il ns)),some (.d (pts fs)),some (.d (esD os)),some (.d (esD cs)),some (.d (.lst [esD os,esD cs,pts fs])),some (.d (.int c)),none,none]) (λK hK=>?_) ?_
  ·simp only[fF,cQ,aG,bI,bY,aH,aI,bC,bH]
   refine⟨os,cs,fs,rfl,⟨ho,hc,fl.1,fl.2⟩,λa a'=>?_,λc L=>hK _ ⟨c,L,rfl⟩⟩
   rcases hodd with L | ⟨_,L⟩
   ·exact absurd L.odd (a c)
   ·exact absurd L.odd (a' c)
  clear hodd c
  rintro ρ ⟨c,hodd,rfl⟩
  refine cP (λρ=>False) (λK hK=>?_) (λ_ z=>z.elim)
  simp only[tF,fU,r2,Gr,VE,aM,rC,L2.R2.S.val,aH,aI,if_true,lW]
  refine cP (λρ=>ρ=[some (.d (il ns)),some (.d (pts fs)),some (.d (esD os)),some (.d (esD cs)),some (.d (.lst [esD os,esD cs,pts fs])),some (.d (.int c)),some (.d (.int c)),none]) (λK2 hK2=>?_) ?_
  ·simp only[fF,cQ,aG,bI,r2,bY,aM,rC,L2.R2.S.val,KW,KY,KZ,aH,aI,bC,bH]
   exact⟨os,cs,fs,c,rfl,⟨ho,hc,hf⟩,hodd,hK2 _ rfl⟩
  rintro ρ rfl
  have e:GX (.int c) (.int c)=λQ=>Q (.bl true):=by
   funext Q
   unfold GX
   rw[eqI 8,decide_eq_true rfl]
  simp only[fZ,IM,r2,cQ,aG,bI,bY,aM,tG,L2.R2.S.val,aH,aI,bJ,dU,sz3,true_and,e]
  refine⟨c,rfl,?_⟩
  first | exact eqh _ Qt | (simp only[if_true];exact eqh _ Qt) | (rw[if_pos rfl,if_pos rfl];exact eqh _ Qt)
end K34
namespace K34
def top (i:Nat):Stmt:=PySem.Challenge.pw_recut_k34_twins.main.body.getD i (.Pass ⟨0,0,0,0⟩)
abbrev s_init:Stmt:=Mh (top 4) 0
structure TopF (K:aF) (mg:Str->Option aB):Prop where
 d0:DefAt K mg "_law_cell" (top 41) ["_law_script","_law_k"]
 d1:DefAt K mg "_law_divisor" (top 34) ["_law_one","_law_other"]
 d2:DefAt K mg "_law_fraction" (top 35) ["_law_top","_law_bottom"]
 d3:DefAt K mg "_law_move" (top 38) ["_law_number"]
 d4:DefAt K mg "_law_due" (top 36) ["_law_share","_law_ring"]
 d5:DefAt K mg "_law_wedge" (top 40) ["_law_s","_law_t","_law_opening"]
 d6:DefAt K mg "_law_drawn" (top 42) ["_law_script","_law_leans_here"]
 d7:DefAt K mg "bits_by_number" (top 25) ["triangles"]
 d8:DefAt K mg "refuse_odd" (top 27) ["groups"]
 d9:DefAt K mg "shared_divisor" (top 6) ["one","other"]
 d10:DefAt K mg "ratio" (top 8) ["top","bottom"]
 d11:DefAt K mg "plus" (top 9) ["one","other"]
 d12:DefAt K mg "signed" (top 12) ["sign","one"]
 d13:DefAt K mg "led" (top 13) ["move","spot"]
 d14:DefAt K mg "behind" (top 14) ["first","second"]
 d15:DefAt K mg "turn" (top 17) ["one","middle","other"]
 d16:DefAt K mg "half_round" (top 18) ["points"]
 d17:DefAt K mg "outline" (top 19) ["points"]
 d18:DefAt K mg "settled" (top 20) ["share","points"]
 d19:DefAt K mg "shared_multiple" (top 7) ["one","other"]
 d20:DefAt K mg "pushed" (top 21) ["piece","move"]
 d21:DefAt K mg "way_back" (top 15) ["move"]
 d22:DefAt K mg "carried" (top 23) ["bit","move"]
 d23:DefAt K mg "minus" (top 10) ["one","other"]
 d24:DefAt K mg "joined" (top 26) ["number","one","other","leans"]
 d25:DefAt K mg "turn_of" (top 28) ["number","leans"]
 d26:DefAt K mg "twin_boxes" (top 29) ["groups","leans"]
 d27:DefAt K mg "twins" (top 30) ["openings","closings","leans"]
 d28:DefAt K mg "_law_kept" (top 44) ["_law_openings","_law_closings","_law_leans_here"]
 d29:DefAt K mg "_law_digit" (top 32) ["_law_number","_law_base","_law_place"]
 d30:DefAt K mg "_law_leans" (top 37) ["_law_number","_law_many"]
 d31:DefAt K mg "_law_odd" (top 43) ["_law_openings","_law_closings","_law_leans_here"]
 d32:DefAt K mg "_law_whole" (top 33) ["_law_found"]
 d33:DefAt K mg "_law_box" (top 46) ["_law_box_here","_law_leans_here"]
 d34:DefAt K mg "_law_pushed" (top 39) ["_law_bit"]
 d35:DefAt K mg "_law_homes" (top 45) ["_law_bits"]
 d36:DefAt K mg "_law_right" (top 47) ["_law_found","_law_openings","_law_closings","_law_leans_here"]
 d37:DefAt K mg "law" (top 48) ["_law_script"]
 b0:mg "len" = none
 b1:mg "abs" = none
 b2:mg "tuple" = none
 b3:mg "min" = none
 b4:mg "range" = none
 b5:mg "list" = none
 b6:mg "sorted" = none
 b7:mg "reversed" = none
 b8:mg "set" = none
 b9:mg "zip" = none
 b10:mg "isinstance" = none
 b11:mg "bool" = none
 b12:mg "int" = none
 x:∃C Cb f c1 c2 fd,ExcO K mg C Cb f c1 c2/\Fun K "__init__" "Odd.__init__" s_init f fd/\∀us:List aB,us.length=2->bindArgs fd ⟨us,[]⟩=pure ((["self","number"]:List Str).zip us)
section
variable {P:bA} {w:cA} {K:aF} {mg:Str->Option aB} {base:Heap} (T:TopF K mg)
theorem Oa:FnScope ["self","number"] ["self","number"] (dR s_init):=⟨rfl,rfl,rfl,by decide +kernel,rfl,by decide +kernel,by decide +kernel⟩
theorem Mc {C Cb f c1 c2:Addr} {fd:iC} (W:ExcO K mg C Cb f c1 c2) (Fu:Fun K "__init__" "Odd.__init__" s_init f fd) (hb:∀us:List aB,us.length=2->bindArgs fd ⟨us,[]⟩=pure ((["self","number"]:List Str).zip us)):FnI P w K mg base C f "number" 1 :=
 Mj Fu Oa hb λcdv A outer s H E=>PSs.mono (MQ (wS (Jt W.z rfl W.mC (pv 0))) (JV (Rg W.z (pv 0) (pv 1)))) λD σ H ⟨e,h0,h1,v,h2,h3⟩=>⟨e,h0,h1,e,v,h0,h2,h1,h3⟩
variable {C Cb fi c1 c2:Addr} (W:ExcO K mg C Cb fi c1 c2) (G:FnI P w K mg base C fi "number" 1)
theorem zK:nZ (["_law_x","_law_y","_law_most"]:List Str):=by decide +kernel
theorem BK:nZ (["x","y","divisor"]:List Str):=by decide +kernel
theorem FR:nZ (["x","y","scale","right","up"]:List Str):=by decide +kernel
theorem ME:nZ (["_law_wedge_here","_law_place"]:List Str):=by decide +kernel
theorem MC:nZ (["_law_bit"]:List Str):=by decide +kernel
theorem tT:nZ (["_law_x","_law_y","_law_sign","_law_by","_law_right_here","_law_up"]:List Str):=by decide +kernel
theorem HK:nZ (["_law_bit"]:List Str):=by decide +kernel
theorem vH:nZ (["_law_place","_law_bit"]:List Str):=by decide +kernel
include T
theorem jY:FnAt P w K mg base "_law_cell" ["_law_script","_law_k"] 1 uQ :=
 T.d0.mkD YT JG λnd hr =>
 aY (sN (kK Bt (dvb 1) (eb (oB T.b0 (dvb 0)))) (cC (eA (bN jC (eb (cN (dvb 0) (dvb 1))) (eb (bN iS (eb (bN Jn aQ aQ)) aQ))))) kX)
 (cC (eA kE))
theorem qV:FnAt P w K mg base "_law_divisor" ["_law_one","_law_other"] 1 AW :=
 T.d1.mkD Br HP λnd hr =>
 aY (dF nd (zC RJ T.b1 AC (aE (dv 0) bE)))
 (aY (dF nd (zC RJ T.b1 AC (aE (dv 1) bE)))
 (aY (LI dW (kK Oz (dvb 1) aQ) (cC (Pr rfl nd (aE (dv 1) (aE (bN jC (dvb 0) (dvb 1)) bE)))))
 (cC (eA (dv 0)))))
theorem kM:FnAt P w K mg base "_law_fraction" ["_law_top","_law_bottom"] 2 OZ :=
 T.d2.mkD Mr FW λnd hr =>
 aY (dF nd (bP (qV T) hr (aE (dv 0) (aE (dv 1) bE))))
 (cC (eA (gX (aE (bN fO (dvb 0) (dvb 2)) (aE (bN fO (dvb 1) (dvb 2)) bE)))))
theorem FT:FnAt P w K mg base "_law_move" ["_law_number"] 3 yJ :=
 T.d3.mkD YV JH λnd hr =>
 aY (dF nd (cN (eb (DO.val (pD (aE kE (aE (bN Jn aQ aQ) bE))))) (eb (bN jC (eb (bN fO (dvb 0) aQ)) aQ))))
 (aY (dF nd (bP (kM T) hr (aE (bN mJ (eb (bN jC (eb (bN eO (eb (bN jC (eb (bN eO (dvb 0) aQ)) aQ)) aQ)) (eb (bN iS (eb (bN eO aQ (dvb 1))) aQ)))) (dvb 1)) (aE (bN iS aQ (eb (bN jC (eb (bN fO (dvb 0) aQ)) aQ))) bE))))
 (aY (dF nd (bP (kM T) hr (aE (bN mJ (eb (bN jC (dvb 0) (eb (bN iS (eb (bN eO aQ (dvb 1))) aQ)))) (dvb 1)) (aE (bN iS aQ (eb (bN jC (eb (bN fO (dvb 0) aQ)) aQ))) bE))))
 (cC (eA (gX (aE (bN mJ aQ (eb (bN eO aQ (eb (bN jC (dvb 0) aQ))))) (aE (dv 2) (aE (dv 3) bE))))))))
theorem zM:FnAt P w K mg base "_law_due" ["_law_share","_law_ring"] 2 OX :=
 T.d4.mkD (N:=["_law_share","_law_ring","_law_most","_law_x","_law_y","_law_corners","_law_at"]) Mn SY λnd hr =>
 aY (dF nd (dv 0))
 (aY (pE dW rfl (lS (dv 1)) (qT rfl (eV (dS nd) (eV (dS nd) mS))) (cC (dF nd (bP (qV T) hr (aE (bP (qV T) hr (aE (dv 2) (aE (dv 3) bE))) (aE (dv 4) bE))))))
 (aY (Ly ["_law_x","_law_y","_law_most"] 2 [2] nd (lS (dv 1)) (λcl C s H fp=>qT rfl (eV (dS zK) (eV (dS zK) mS))) (λcl C s H fp=>gX (aE (bN fO (dvb 0) (dvb 2)) (aE (bN fO (dvb 1) (dvb 2)) bE))))
 (aY (dF nd (Hd hr (dvb 5) (Lq hr T.b3 rfl (dvb 5))))
 (cC (eA (gX (aE (bN fO (dvb 0) (dvb 2)) (aE (UF T.b2 (eb (bN FS (eb (LD (dvb 5) (RV (dv 6)) RU)) (eb (LD (dvb 5) RU (RV (dv 6))))))) bE))))))))
theorem uJ:FnAt P w K mg base "_law_wedge" ["_law_s","_law_t","_law_opening"] 3 uS :=
 T.d5.mkD VU HU λnd hr =>
 aY (dF nd (bN eO (eb (cN (dvb 0) aQ)) (eb (cN (dvb 1) aQ))))
 (aY (dF nd (bN eO (eb (cN (dvb 0) aQ)) (eb (cN (dvb 1) aQ))))
 (aY (dF nd (bN eO (eb (cN (dvb 1) aQ)) (eb (cN (dvb 0) aQ))))
 (aY (sN (DL (dv 2)) (cC (eA (bP (zM T) hr (aE (dv 3) (aE (DO.val (pD (aE (gX (aE kE (aE kE bE))) (aE (gX (aE (dv 3) (aE (dv 4) bE))) (aE (gX (aE (dv 3) (aE (dv 5) bE))) bE))))) bE))))) kX)
 (cC (eA (bP (zM T) hr (aE (dv 3) (aE (DO.val (pD (aE (gX (aE kE (aE kE bE))) (aE (gX (aE (dv 3) (aE (dv 5) bE))) (aE (gX (aE kE (aE (bN mJ (dvb 5) (dvb 4)) bE))) bE))))) bE))))))))
theorem OQ:FnAt P w K mg base "_law_drawn" ["_law_script","_law_leans_here"] 4 zY :=
 T.d6.mkD VN HQ λnd hr =>
 aY (Lv nd)
 (aY (pE dW rfl (Ds T.b4 (aE kE (aE (zC (Lf rfl) T.b3 Db (aE (oB T.b0 (dvb 0)) (aE kE bE))) bE))) (dS nd) (aY (dF nd (bP (jY T) hr (aE (dv 0) (aE (dv 3) bE))))
 (aY (dF nd (bN jC (eb (bN fO (dvb 4) aQ)) (eb (bN mJ (eb (oB T.b0 (dvb 1))) aQ))))
 (aY (dF nd (bP (uJ T) hr (aE (cN (dvb 1) (dvb 5)) (aE (cN (dvb 1) (eb (bN iS (dvb 5) aQ))) (aE (GY SO (eb (bN jC (dvb 4) aQ)) aQ) bE)))))
 (aY (Bc 2 (bN jC (dvb 4) aQ) (gX (aE (dv 5) (aE (gX (aE (dv 6) (aE (bP (FT T) hr (aE (bN iS (eb (bN fO (dvb 4) aQ)) (eb (bN eO aQ (dvb 3)))) bE)) bE))) bE))))
 (cC (Bc 2 (bN jC (dvb 4) aQ) (gX (aE (dv 5) (aE (gX (aE (dv 6) (aE (bP (FT T) hr (aE (bN iS (eb (bN fO (dvb 4) aQ)) (eb (bN eO aQ (dvb 3)))) bE)) bE))) bE))))))))))
 (aY (pE dW rfl (AF T.b4 (aE (bN mJ (eb (bN jC (eb (bP (jY T) hr (aE (dv 0) (aE kE bE)))) aQ)) aQ) bE)) (dS nd) (Hu 2 7 (by decide) nd (bN jC (eb (bN fO (eb (bP (jY T) hr (aE (dv 0) (aE kE bE)))) (eb (bN iS aQ (eb (bN eO aQ (dvb 3))))))) aQ) (kK (Qs hr) (dvb 7) (eb (DO.val (pD bE)))) (bN jC (eb (bN fO (eb (bP (jY T) hr (aE (dv 0) (aE kE bE)))) (eb (bN iS aQ (eb (bN eO aQ (dvb 3))))))) (eb (oB T.b0 (dvb 7))))))
 (cC (Be 2 (eA (dv 2))))))
theorem tU:FnAt P w K mg base "bits_by_number" ["triangles"] 1 K33.F_byNum :=
 T.d7.mkD K33.len_byNum K33.pure_bits_by_number λnd hr =>
 aY (Lx nd)
 (aY (pE dW rfl (lS (dv 0)) (qT rfl (eV (dS nd) (eV (dS nd) mS))) (cC (Lw 1 (dv 2) (dv 3))))
 (cC (Be 1 (eA (dv 1)))))
include W G in
theorem BR:FnAtX P w K mg base C "number" "refuse_odd" ["groups"] 4 ED :=
 T.d8.mkX YX WR λnd hr acc =>
 cC (pE PassesOwn.leaving rfl (lS (DO.val (UM T.b6 (eb (DO.val (UL T.b5 rfl (dv 0))))))) (dS nd) (cC (sN (kK SO (eb (bN jC (eb (oB T.b0 (eb (Hf hr (dv 0) (dv 1))))) aQ)) aQ) (cC (Hs acc W.z G (hr.mono (by decide)) W.kp rfl rfl rfl W.mX (dv 1))) kX)))
theorem lT:FnAt P w K mg base "shared_divisor" ["one","other"] 1 AW :=
 T.d9.mkD Br AT λnd hr =>
 aY (dF nd (zC RJ T.b1 AC (aE (dv 0) bE)))
 (aY (dF nd (zC RJ T.b1 AC (aE (dv 1) bE)))
 (aY (LI dW (kK SQ (dvb 3) aQ) (aY (dF nd (bN jC (dvb 2) (dvb 3)))
 (aY (dF nd (dv 3))
 (cC (dF nd (dv 4))))))
 (cC (eA (dv 2)))))
theorem WI:FnAt P w K mg base "ratio" ["top","bottom"] 2 rJ :=
 T.d10.mkD Eo ZQ λnd hr =>
 aY (sN (kK SO (dvb 1) aQ) (cC Hr) kX)
 (aY (dF nd (bP (lT T) hr (aE (dv 0) (aE (dv 1) bE))))
 (aY (sN (kK Bt (dvb 1) aQ) (cC (dF nd (BE uL (dvb 2)))) kX)
 (cC (eA (gX (aE (bN fO (dvb 0) (dvb 2)) (aE (bN fO (dvb 1) (dvb 2)) bE)))))))
theorem Bx:FnAt P w K mg base "plus" ["one","other"] 3 GF :=
 T.d11.mkD VT Fk λnd hr =>
 cC (eA (bP (WI T) hr (aE (bN iS (eb (bN eO (eb (cN (dvb 0) aQ)) (eb (cN (dvb 1) aQ)))) (eb (bN eO (eb (cN (dvb 1) aQ)) (eb (cN (dvb 0) aQ))))) (aE (bN eO (eb (cN (dvb 0) aQ)) (eb (cN (dvb 1) aQ))) bE))))
theorem AI:FnAt P w K mg base "signed" ["sign","one"] 1 lX :=
 T.d12.mkD YY WS λnd hr =>
 cC (eA (gX (aE (bN eO (dvb 0) (eb (cN (dvb 1) aQ))) (aE (cN (dvb 1) aQ) bE))))
theorem Qu:FnAt P w K mg base "led" ["move","spot"] 4 OY :=
 T.d13.mkD Mq Ka λnd hr =>
 aY (dF nd (cN (dvb 0) aQ))
 (cC (eA (gX (aE (bP (Bx T) hr (aE (bP (AI T) hr (aE (dv 2) (aE (cN (dvb 1) aQ) bE))) (aE (cN (dvb 0) aQ) bE))) (aE (bP (Bx T) hr (aE (bP (AI T) hr (aE (dv 2) (aE (cN (dvb 1) aQ) bE))) (aE (cN (dvb 0) aQ) bE))) bE)))))
theorem Ez:FnAt P w K mg base "behind" ["first","second"] 5 uP :=
 T.d14.mkD YS WO λnd hr =>
 aY (dF nd (bP (Qu T) hr (aE (dv 1) (aE (gX (aE (cN (dvb 0) aQ) (aE (cN (dvb 0) aQ) bE))) bE))))
 (cC (eA (gX (aE (bN eO (eb (cN (dvb 0) aQ)) (eb (cN (dvb 1) aQ))) (aE (cN (dvb 2) aQ) (aE (cN (dvb 2) aQ) bE))))))
theorem Ng:FnAt P w K mg base "turn" ["one","middle","other"] 1 uA :=
 T.d15.mkD Jb Fm λnd hr =>
 aY (dF nd (bN eO (eb (bN mJ (eb (cN (dvb 1) aQ)) (eb (cN (dvb 0) aQ)))) (eb (bN mJ (eb (cN (dvb 2) aQ)) (eb (cN (dvb 0) aQ))))))
 (aY (dF nd (bN eO (eb (bN mJ (eb (cN (dvb 1) aQ)) (eb (cN (dvb 0) aQ)))) (eb (bN mJ (eb (cN (dvb 2) aQ)) (eb (cN (dvb 0) aQ))))))
 (cC (eA (bN mJ (dvb 3) (dvb 4)))))
theorem BQ:FnAt P w K mg base "half_round" ["points"] 2 QY :=
 T.d16.mkD Ja JF λnd hr =>
 aY (RX nd (pD bE))
 (aY (pE dW rfl (lS (dv 0)) (dS nd) (aY (LI dW (DW.tst (Pu (kK Oz (eb (oB T.b0 (dvb 1))) aQ) (Lz (kK To (eb (bP (Ng T) hr (aE (cN (dvb 1) (eb (BE uL aQ))) (aE (cN (dvb 1) (eb (BE uL aQ))) (aE (dv 2) bE))))) aQ)))) (cC (Ps 1)))
 (cC (HB 1 (dv 2)))))
 (cC (eA (LD (dvb 1) RU (RV (BE uL aQ))))))
theorem ZH:FnAt P w K mg base "outline" ["points"] 3 rS :=
 T.d17.mkD VP SZ λnd hr =>
 aY (dF nd (DO.val (YJ hr T.b6 T.b8 rfl (dvb 0))))
 (cC (eA (bN FS (eb (bP (BQ T) hr (aE (dv 1) bE))) (eb (bP (BQ T) hr (aE (DO.val (YI T.b5 T.b7 rfl (dvb 1))) bE))))))
theorem ZI:FnAt P w K mg base "settled" ["share","points"] 4 rT :=
 T.d18.mkD VR TB λnd hr =>
 aY (dF nd (bP (ZH T) hr (aE (dv 1) bE)))
 (aY (sN (kK Bt (eb (oB T.b0 (dvb 2))) aQ) (cC (eA LC)) kX)
 (aY (dF nd (dv 0))
 (aY (pE dW rfl (lS (dv 2)) (qT rfl (eV (dS nd) (eV (dS nd) mS))) (cC (dF nd (bP (lT T) hr (aE (bP (lT T) hr (aE (dv 3) (aE (dv 4) bE))) (aE (dv 5) bE))))))
 (cC (eA (gX (aE (bN fO (dvb 0) (dvb 3)) (aE (UF T.b2 (eb (DO.val (AG ["x","y","divisor"] 2 [3] (lS (dv 2)) (λcl C s H fp=>qT rfl (eV (dS BK) (eV (dS BK) mS))) (λcl C s H fp=>gX (aE (bN fO (dvb 0) (dvb 2)) (aE (bN fO (dvb 1) (dvb 2)) bE))))))) bE))))))))
theorem sR:FnAt P w K mg base "shared_multiple" ["one","other"] 2 Ak :=
 T.d19.mkD Mp zN λnd hr =>
 cC (eA (bN eO (dvb 0) (eb (bN fO (dvb 1) (eb (bP (lT T) hr (aE (dv 0) (aE (dv 1) bE))))))))
theorem Fb:FnAt P w K mg base "pushed" ["piece","move"] 5 uR :=
 T.d20.mkD YW WQ λnd hr =>
 aY (dF nd (cN (dvb 1) aQ))
 (aY (dF nd (cN (dvb 1) aQ))
 (aY (dF nd (bP (sR T) hr (aE (bP (sR T) hr (aE (cN (dvb 0) aQ) (aE (cN (dvb 2) aQ) bE))) (aE (cN (dvb 3) aQ) bE))))
 (aY (dF nd (bN eO (eb (cN (dvb 1) aQ)) (eb (bN fO (dvb 4) (eb (cN (dvb 0) aQ))))))
 (aY (dF nd (bN eO (eb (cN (dvb 2) aQ)) (eb (bN fO (dvb 4) (eb (cN (dvb 2) aQ))))))
 (aY (dF nd (bN eO (eb (cN (dvb 3) aQ)) (eb (bN fO (dvb 4) (eb (cN (dvb 3) aQ))))))
 (cC (eA (bP (ZI T) hr (aE (dv 4) (aE (DO.val (AG ["x","y","scale","right","up"] 2 [5,6,7] (Hi (cN (dvb 0) aQ)) (λcl C s H fp=>qT rfl (eV (dS FR) (eV (dS FR) mS))) (λcl C s H fp=>gX (aE (bN iS (eb (bN eO (dvb 2) (dvb 0))) (dvb 3)) (aE (bN iS (eb (bN eO (dvb 2) (dvb 1))) (dvb 4)) bE))))) bE))))))))))
theorem WJ:FnAt P w K mg base "way_back" ["move"] 2 pU :=
 T.d21.mkD SK OT λnd hr =>
 aY (dF nd (cN (dvb 0) aQ))
 (cC (eA (gX (aE (dv 1) (aE (bP (AI T) hr (aE (BE uL (dvb 1)) (aE (cN (dvb 0) aQ) bE))) (aE (bP (AI T) hr (aE (BE uL (dvb 1)) (aE (cN (dvb 0) aQ) bE))) bE))))))
theorem ZG:FnAt P w K mg base "carried" ["bit","move"] 6 lE :=
 T.d22.mkD VM SX λnd hr =>
 cC (eA (gX (aE (bP (Fb T) hr (aE (cN (dvb 0) aQ) (aE (dv 1) bE))) (aE (bP (Ez T) hr (aE (bP (WJ T) hr (aE (dv 1) bE)) (aE (cN (dvb 0) aQ) bE))) bE))))
theorem Jo:FnAt P w K mg base "minus" ["one","other"] 3 EC :=
 T.d23.mkD VT ZO λnd hr =>
 cC (eA (bP (WI T) hr (aE (bN mJ (eb (bN eO (eb (cN (dvb 0) aQ)) (eb (cN (dvb 1) aQ)))) (eb (bN eO (eb (cN (dvb 1) aQ)) (eb (cN (dvb 0) aQ))))) (aE (bN eO (eb (cN (dvb 0) aQ)) (eb (cN (dvb 1) aQ))) bE))))
theorem Fa:FnAt P w K mg base "joined" ["number","one","other","leans"] 4 K33.F_joined33 :=
 T.d24.mkD K33.len_joined33 K33.pure_joined33 λnd hr =>
 cC (eA (gX (aE (dv 0) (aE (bP (Jo T) hr (aE (cN (dvb 3) (eb (bN iS (dvb 0) aQ))) (aE (cN (dvb 3) (dvb 0)) bE))) (aE (DO.val (pD (aE (dv 1) (aE (dv 2) bE)))) bE)))))
theorem ZJ:FnAt P w K mg base "turn_of" ["number","leans"] 1 lF :=
 T.d25.mkD VS TC λnd hr =>
 cC (eA (gX (aE (BE uL aQ) (aE (gX (aE kE (aE kE bE))) (aE (cN (dvb 1) (eb (bN iS (dvb 0) aQ))) bE)))))
theorem BS:FnAt P w K mg base "twin_boxes" ["groups","leans"] 7 EF :=
 T.d26.mkD YZ WT λnd hr =>
 aY (RX nd (pD bE))
 (aY (pE dW rfl (lS (DO.val (UM T.b6 (eb (DO.val (UL T.b5 rfl (dv 0))))))) (dS nd) (aY (dF nd (Hf hr (dv 0) (dv 3)))
 (cC (pE dW rfl (Po T.b9 (DO.val (Ls (dvb 4))) (DO.val (Lu (dvb 4)))) (qT rfl (eV (dS nd) (eV (dS nd) mS))) (cC (HB 2 (bP (Fa T) hr (aE (dv 3) (aE (dv 5) (aE (bP (ZG T) hr (aE (dv 6) (aE (bP (ZJ T) hr (aE (dv 3) (aE (dv 1) bE))) bE))) (aE (dv 1) bE)))))))))))
 (cC (Be 2 (eA (dv 2)))))
include W G in
theorem ML:FnAtX P w K mg base C "number" "twins" ["openings","closings","leans"] 8 oO :=
 T.d27.mkX Ep ZR λnd hr acc =>
 aY (dF nd (bP (tU T) hr (aE (dv 0) bE)))
 (aY (dF nd (bP (tU T) hr (aE (dv 1) bE)))
 (aY (Bd (UE acc (BR T W G) (hr.mono (by decide)) (aE (dv 3) bE)))
 (aY (Bd (UE acc (BR T W G) (hr.mono (by decide)) (aE (dv 4) bE)))
 (cC (eA (bN FS (eb (bP (BS T) hr (aE (dv 3) (aE (dv 2) bE)))) (eb (bP (BS T) hr (aE (dv 4) (aE (dv 2) bE))))))))))
include W G in
theorem SR:FnAt P w K mg base "_law_kept" ["_law_openings","_law_closings","_law_leans_here"] 9 EB :=
 T.d28.mkD YU WP λnd hr =>
 aY (dF nd LC)
 (aY (dF nd FI)
 (aY (Bf W.xm W.mC ⟨rfl,rfl,rfl⟩ nd rfl rfl (λx c z=>by cases z) (ML T W G) (hr.mono (by decide)) (aE (dv 0) (aE (dv 1) (aE (dv 2) bE))) (λv=>cC (dF nd (Sw (He W.z.k W.no T.b10 (by exact rfl) W.m1 (by exact rfl) W.m2 5) (RN (Hg (Lp (c:=.ty "ValueError") (cv:=.type "ValueError") W.z.k (λu z=>by exact z) W.ve T.b10 (By (by exact rfl) W.vn Le (by exact rfl)) 5)))))))
 (aY (sN (DL (dv 4)) (cC (eA LC)) kX)
 (aY (Bf W.xs W.mX ⟨rfl,rfl,rfl⟩ nd rfl rfl (λx c z=>by cases z) (ML T W G) (hr.mono (by decide)) (aE (dv 0) (aE (dv 1) (aE (dv 2) bE))) (λv=>cC (dF nd (Lm W.z.k W.z.a 5))))
 (cC (eA (dv 3)))))))
theorem BM:FnAt P w K mg base "_law_digit" ["_law_number","_law_base","_law_place"] 1 JJ :=
 T.d29.mkD Ei MT λnd hr =>
 aY (pE dW rfl (AF T.b4 (aE (dv 2) bE)) (dS nd) (cC (dF nd (bN fO (dvb 0) (dvb 1)))))
 (cC (eA (bN jC (dvb 0) (dvb 1))))
theorem OR:FnAt P w K mg base "_law_leans" ["_law_number","_law_many"] 3 zZ :=
 T.d30.mkD VO HR λnd hr =>
 aY (RX nd (pD (aE (bP (kM T) hr (aE (bN mJ (eb (bN jC (dvb 0) aQ)) aQ) (aE (bN iS aQ (eb (bN jC (eb (bN fO (dvb 0) aQ)) aQ))) bE))) bE)))
 (aY (pE dW rfl (AF T.b4 (aE (bN mJ (dvb 1) aQ) bE)) (dS nd) (aY (dF nd (bN iS aQ (eb (bP (BM T) hr (aE (bN fO (dvb 0) aQ) (aE kE (aE (dv 3) bE)))))))
 (aY (dF nd (bN iS aQ (eb (bN jC (eb (bP (BM T) hr (aE (bN fO (dvb 0) aQ) (aE kE (aE (dv 3) bE))))) aQ))))
 (cC (HB 2 (bP (kM T) hr (aE (bN iS (eb (bN eO (eb (cN (eb (cN (dvb 2) (eb (BE uL aQ)))) aQ)) (dvb 5))) (eb (bN eO (dvb 4) (eb (cN (eb (cN (dvb 2) (eb (BE uL aQ)))) aQ))))) (aE (bN eO (eb (cN (eb (cN (dvb 2) (eb (BE uL aQ)))) aQ)) (dvb 5)) bE))))))))
 (cC (Be 2 (eA (dv 2)))))
theorem WH:FnAt P w K mg base "_law_odd" ["_law_openings","_law_closings","_law_leans_here"] 1 JM :=
 T.d31.mkD El ZP λnd hr =>
 aY (pE dW rfl (lS (DO.val (pD (aE (dv 0) (aE (dv 1) bE))))) (dS nd) (cC (pE dW rfl (AF T.b4 (aE (bN mJ (eb (oB T.b0 (dvb 2))) aQ) bE)) (dS nd) (cC (sN (kK SO (eb (bN jC (eb (oB T.b0 (eb (DO.val (UK ["_law_wedge_here","_law_place"] 1 [4] (lS (dv 3)) (λcl C s H fp=>dS ME) (λcl C s H fp=>Hk (kK (Tm hr) (eb (cN (dvb 0) aQ)) (dvb 1))) (λcl C s H fp=>dv 0)))))) aQ)) aQ) (cC (eA (dv 4))) kX)))))
 (cC (eA LC))
theorem BO:FnAt P w K mg base "_law_whole" ["_law_found"] 1 EG :=
 T.d32.mkD Er MV λnd hr =>
 cC (eA (RL (LB (Og _) T.b10 T.b12 Da (dv 0)) (RN (Hg (LB (Kv _) T.b10 T.b11 YE (dv 0))))))
theorem WG:FnAt P w K mg base "_law_box" ["_law_box_here","_law_leans_here"] 4 JI :=
 T.d33.mkD Eh MS λnd hr =>
 aY (sN (DW.tst (PR (LJ (DL (LB (Fw _) T.b10 T.b2 TQ (dv 0)))) (PR (kK SQ (eb (oB T.b0 (dvb 0))) aQ) (PR (LJ (DL (bP (BO T) hr (aE (cN (dvb 0) aQ) bE)))) (YK (LJ (DL (LB (XM _) T.b10 T.b5 KS (cN (dvb 0) aQ))))))))) (cC (eA FI)) kX)
 (aY (RW (dv 0) (qT rfl (eV (dS nd) (eV (dS nd) (eV (dS nd) mS)))))
 (aY (sN (DW.tst (PR (kK SQ (eb (oB T.b0 (dvb 4))) aQ) (PR (kK Bt (dvb 2) aQ) (YK (kK Tn (dvb 2) (eb (bN mJ (eb (oB T.b0 (dvb 1))) aQ))))))) (cC (eA FI)) kX)
 (aY (dF nd (cN (dvb 1) (dvb 2)))
 (aY (dF nd (cN (dvb 1) (eb (bN iS (dvb 2) aQ))))
 (aY (sN (kK (Pa hr) (dvb 3) (eb (bP (kM T) hr (aE (bN mJ (eb (bN eO (eb (cN (dvb 6) aQ)) (eb (cN (dvb 5) aQ)))) (eb (bN eO (eb (cN (dvb 5) aQ)) (eb (cN (dvb 6) aQ))))) (aE (bN eO (eb (cN (dvb 5) aQ)) (eb (cN (dvb 6) aQ))) bE))))) (cC (eA FI)) kX)
 (aY (dF nd (DO.val (pD (aE (bP (uJ T) hr (aE (dv 5) (aE (dv 6) (aE FI bE)))) (aE (bP (uJ T) hr (aE (dv 5) (aE (dv 6) (aE FI bE)))) bE)))))
 (cC (eA (GY (MJ hr) (eb (DO.val (LH hr T.b6 (eb (DO.val (AG ["_law_bit"] 1 [] (lS (dv 4)) (λcl C s H fp=>dS MC) (λcl C s H fp=>cN (dvb 0) aQ))))))) (eb (DO.val (LH hr T.b6 (dvb 7)))))))))))))
theorem MK:FnAt P w K mg base "_law_pushed" ["_law_bit"] 3 JL :=
 T.d34.mkD Ek FX λnd hr =>
 aY (RW (dv 0) (qT rfl (eV (dS nd) (eV (dS nd) mS))))
 (aY (RW (dv 2) (qT rfl (eV (dS nd) (eV (dS nd) (eV (dS nd) mS)))))
 (aY (dF nd (bN eO (eb (cN (dvb 4) aQ)) (eb (cN (dvb 5) aQ))))
 (aY (dF nd (bN eO (eb (bN eO (eb (cN (dvb 4) aQ)) (eb (cN (dvb 5) aQ)))) (eb (cN (dvb 1) aQ))))
 (aY (dF nd (bN eO (eb (bN eO (eb (cN (dvb 5) aQ)) (eb (cN (dvb 4) aQ)))) (eb (cN (dvb 1) aQ))))
 (cC (eA (bP (zM T) hr (aE (bN eO (eb (cN (dvb 1) aQ)) (dvb 6)) (aE (DO.val (AG ["_law_x","_law_y","_law_sign","_law_by","_law_right_here","_law_up"] 2 [3,6,7,8] (Hi (cN (dvb 1) aQ)) (λcl C s H fp=>qT rfl (eV (dS tT) (eV (dS tT) mS))) (λcl C s H fp=>gX (aE (bN iS (eb (bN eO (eb (bN eO (dvb 2) (dvb 0))) (dvb 3))) (dvb 4)) (aE (bN iS (eb (bN eO (eb (bN eO (dvb 2) (dvb 1))) (dvb 3))) (dvb 5)) bE))))) bE)))))))))
theorem BN:FnAt P w K mg base "_law_homes" ["_law_bits"] 4 JK :=
 T.d35.mkD Ej MU λnd hr =>
 cC (eA (DO.val (LH hr T.b6 (eb (DO.val (AG ["_law_bit"] 1 [] (lS (dv 0)) (λcl C s H fp=>dS HK) (λcl C s H fp=>bP (MK T) hr (aE (dv 0) bE))))))))
theorem OS:FnAt P w K mg base "_law_right" ["_law_found","_law_openings","_law_closings","_law_leans_here"] 5 AA :=
 T.d36.mkD VQ HS λnd hr =>
 aY (sN (DW.tst (PR (LJ (DL (LB (XM _) T.b10 T.b5 KS (dv 0)))) (YK (kK SQ (eb (bN eO aQ (eb (oB T.b0 (dvb 0))))) (eb (bN iS (eb (oB T.b0 (dvb 1))) (eb (oB T.b0 (dvb 2))))))))) (cC (eA FI)) kX)
 (aY (dF nd (DO.val (pD bE)))
 (aY (pE dW rfl (lS (dv 0)) (dS nd) (aY (sN (LJ (DL (bP (WG T) hr (aE (dv 5) (aE (dv 3) bE))))) (cC (eA FI)) kX)
 (cC (dF nd (bN FS (dvb 4) (eb (cN (dvb 5) aQ)))))))
 (cC (eA (GY (MJ hr) (eb (bP (BN T) hr (aE (dv 4) bE))) (eb (bP (BN T) hr (aE (DO.val (AG ["_law_place","_law_bit"] 2 [] (lS (bN FS (dvb 1) (dvb 2))) (λcl C s H fp=>qT rfl (eV (dS vH) (eV (dS vH) mS))) (λcl C s H fp=>dv 1))) bE))))))))
include W G in
theorem Py {f:Addr} {fd:iC} (Fu:Fun K "law" "law" (top 48) f fd):FnOk P w K mg base CX0 10 f fd ["_law_script"] (spD K (Cz 63)) :=
 Qo Fu Mo ZN λnd hr =>
 aY (dF nd (bP (OR T) hr (aE (bN fO (eb (bP (jY T) hr (aE (dv 0) (aE kE bE)))) aQ) (aE (bN iS aQ (eb (bN jC (eb (bP (jY T) hr (aE (dv 0) (aE kE bE)))) aQ))) bE))))
 (aY (RW (bP (OQ T) hr (aE (dv 0) (aE (dv 1) bE))) (Pn rfl (eV (dS nd) (eV (dS nd) mS))))
 (aY (dF nd (DO.val (pD (aE (GZ T.b5 (dvb 2)) (aE (GZ T.b5 (dvb 3)) (aE (GZ T.b5 (dvb 1)) bE))))))
 (aY (sN (kK (Pa hr) (eb (Ln W.z G (hr.mono (by decide)) W.kp rfl W.mX (bP (jY T) hr (aE (dv 0) (aE kE bE))))) (eb (bP (jY T) hr (aE (dv 0) (aE kE bE))))) (cC (eA FI)) kX)
 (aY (dF nd (bP (WH T) hr (aE (dv 2) (aE (dv 3) (aE (dv 1) bE)))))
 (aY (sN (kK Nf (dvb 5) (eb LC)) (aY (dF nd (bP (SR T W G) hr (aE (cN (dvb 4) aQ) (aE (cN (dvb 4) aQ) (aE (cN (dvb 4) aQ) bE)))))
 (cC (eA (RL (bP (BO T) hr (aE (dv 6) bE)) (RL (GY (MJ hr) (dvb 6) (dvb 5)) (RN (GY (MJ hr) (dvb 4) (eb (DO.val (pD (aE (dv 2) (aE (dv 3) (aE (dv 1) bE))))))))))))) kX)
 (aY (dF nd (UD (ML T W G).norm (hr.mono (by decide)) (aE (cN (dvb 4) aQ) (aE (cN (dvb 4) aQ) (aE (cN (dvb 4) aQ) bE)))))
 (cC (eA (RL (bP (OS T) hr (aE (dv 7) (aE (dv 2) (aE (dv 3) (aE (dv 1) bE))))) (RN (GY (MJ hr) (dvb 4) (eb (DO.val (pD (aE (dv 2) (aE (dv 3) (aE (dv 1) bE)))))))))))))))))
theorem law_fn {f:Addr} {fd:iC} (Fu:Fun K "law" "law" (top 48) f fd):FnOk P w K mg base CX0 10 f fd ["_law_script"] (spD K (Cz 63)):=by
 obtain⟨C,Cb,fi,c1,c2,fdi,W,Fi,Bi⟩:=T.x
 exact Py T W (Mc W Fi Bi) Fu
end
theorem top_x {K:aF} {h:Heap} {mg:Str->Option aB} (X:K.In h) (G:h.Ns mainGlobals mg) {xC xB x1 x2 xf:Addr} {xd:ClassData} {xod xan:Option Addr} {xsl:Array (Option aB)} {xoc xkV xdc xpm xcd xct:aB}
  (w0:fN K mainGlobals "Odd" = some (some (.ref xC)))
  (w1:fN K mainGlobals "CutError" = some (some (.ref xB)))
  (w2:fN K mainGlobals "NoNumber" = some (some (.ref x1)))
  (w3:fN K mainGlobals "Crossed" = some (some (.ref x2)))
  (w4:BB K xC=some xd)
  (w5:fN K xd.ns "__init__" = some (some (.ref xf)))
  (w6:xd.mro = .ref xC :: .ref xB::XS)
  (w7:xd.hasDict=true)
  (w8:fI K (.ref xC) "__getattribute__" = some (some (.builtin "BaseException.__getattribute__")))
  (w9:fI K (.ref xC) "__getattr__" = some none)
  (w10:fI K (.ref xC) "__class__" = some (some (.builtin "object.__class__")))
  (w11:nJ K xC (.type "object")=some true)
  (w12:nJ K xC (.type "BaseException")=some true)
  (w13:fI K (.ref xC) "__setattr__" = some (some (.builtin "object.__setattr__")))
  (w14:fI K (.ref xC) "number" = some none)
  (w15:SA K xC xf=true)
  (w16:KI K (.ref xf)=some (.type "function"))
  (w17:pA K (.ref xB) "__getattribute__" = some (some (.builtin "type.__getattribute__")))
  (w18:IY K xB (.type "type")=true)
  (w19:IX K (.ref xB) (.type "type") "__init__" = some (.val (.builtin "ValueError.__init__")))
  (w20:fJ K (.ref xC)=true)
  (w21:oZ K (.ref xC) (.ref xB)=some true)
  (w22:sJ K (.ref xC) [.ref x1,.ref x2]=some false)
  (w23:oZ K (.ref xC) (.ref xC)=some true)
  (w24:fK K (.ref xC) (.type "ValueError")=some true)
  (w25:fN K mainGlobals "ValueError" = some none)
  (w26:K.lookup xf=some ⟨xoc,xod,.func (kU "__init__" "Odd.__init__" (AE s_init) (lR s_init) (dR s_init) .none xkV xdc xpm xan xcd xct),xsl⟩)
  (w27:oY K xcd "Odd.__init__" = true)
  (w28:fJ K (.ref xf)=true) :
  ∃C Cb f c1 c2 fd,ExcO K mg C Cb f c1 c2/\Fun K "__init__" "Odd.__init__" s_init f fd/\∀us:List aB,us.length=2->bindArgs fd ⟨us,[]⟩=pure ((["self","number"]:List Str).zip us) :=
 ⟨xC,xB,xf,x1,x2,_,⟨⟨⟨w8,w9,w10,w11,w12,by rw[w4];rfl⟩,⟨w13,⟨xd,xB,w4,w6,w7⟩,w11,w14⟩,w15,w16,w17,w18,w19⟩,w20,qK X G w0,qK X G w1,qK X G w2,qK X G w3,w21,w22,w23,w24,PySem.W.mg_none_of X G w25⟩,Ib (st:=s_init) w26 w27 w28,bind2 (λ_ _=>rfl)⟩
end K34
end
end L2.R2
namespace PySem.W.Fast
theorem tw9033985773415720972:True:=⟨⟩
theorem tw10383614213253674117:True:=⟨⟩
theorem tw16032993063584600177:True:=⟨⟩
theorem tw11819983297407997841:True:=⟨⟩
theorem tw4189984735327979428:True:=⟨⟩
theorem tw4807804973365179392:True:=⟨⟩
theorem tw6259386368054571095:True:=⟨⟩
theorem tw17610335172316825585:True:=⟨⟩
theorem tw3583903553486825633:True:=⟨⟩
theorem tw7397410269821145171:True:=⟨⟩
theorem tw18348944046226669701:True:=⟨⟩
theorem tw10293050441178309701:True:=⟨⟩
theorem tw17863074099507047306:True:=⟨⟩
theorem tw3123086767237848479:True:=⟨⟩
theorem tw10378785762555067934:True:=⟨⟩
theorem tw7229248991131683647:True:=⟨⟩
theorem tw18076724286296707405:True:=⟨⟩
theorem tw10816160200950256296:True:=⟨⟩
theorem tw264715863123093614:True:=⟨⟩
theorem tw706414401108094976:True:=⟨⟩
theorem tw18330384600058088356:True:=⟨⟩
theorem tw11038719702435515794:True:=⟨⟩
theorem tw71787638712633705:True:=⟨⟩
theorem tw2179632229734774272:True:=⟨⟩
theorem tw5318218664769414997:True:=⟨⟩
theorem tw4339815255585458280:True:=⟨⟩
theorem tw122296237067183185:True:=⟨⟩
theorem tw15605271347771049408:True:=⟨⟩
theorem tw14253633038146887001:True:=⟨⟩
theorem tw97689578993764719:True:=⟨⟩
theorem tw13334900933328724219:True:=⟨⟩
theorem tw17553275059554955714:True:=⟨⟩
theorem tw8686819993616505155:True:=⟨⟩
theorem tw7379747105593469567:True:=⟨⟩
theorem tw8699662012957017378:True:=⟨⟩
theorem tw3346097487276230123:True:=⟨⟩
theorem tw2091125977781167589:True:=⟨⟩
theorem tw13882358012821223556:True:=⟨⟩
theorem tw12432486488458906485:True:=⟨⟩
theorem tw7239402593948639216:True:=⟨⟩
theorem tw8880163428542613833:True:=⟨⟩
theorem tw4726931905870566417:True:=⟨⟩
theorem tw13562479264946688516:True:=⟨⟩
theorem tw8327133888611011050:True:=⟨⟩
theorem tw14436122719328142760:True:=⟨⟩
theorem tw8573943487235631345:True:=⟨⟩
theorem tw1183917885214823875:True:=⟨⟩
theorem tw12006628432761704030:True:=⟨⟩
theorem tw9532156404442745416:True:=⟨⟩
theorem tw10450630282842072082:True:=⟨⟩
theorem tw9279250536628021989:True:=⟨⟩
theorem tw9880504483439545818:True:=⟨⟩
theorem tw13665457577884515806:True:=⟨⟩
theorem tw6380088118834974925:True:=⟨⟩
theorem tw15332190833952263990:True:=⟨⟩
theorem tw14491207020892614161:True:=⟨⟩
theorem tw14827919444752637026:True:=⟨⟩
theorem tw14333607808005972464:True:=⟨⟩
theorem tw5113175284326193929:True:=⟨⟩
theorem tw14094937391205042870:True:=⟨⟩
theorem tw17567611099702644340:True:=⟨⟩
theorem tw9202076676838585286:True:=⟨⟩
theorem tw12231691710156365675:True:=⟨⟩
theorem tw860252505225008393:True:=⟨⟩
theorem tw10746725221533014945:True:=⟨⟩
theorem tw17839348483844417994:True:=⟨⟩
theorem tw8231576314061028240:True:=⟨⟩
theorem tw4675375846266686190:True:=⟨⟩
theorem tw17788622877111819151:True:=⟨⟩
theorem tw18025513985821922264:True:=⟨⟩
end PySem.W.Fast
open PySem PySem.W PyProof.Rows
set_option maxRecDepth 100000 in
set_option maxHeartbeats 0 in
theorem PySem.Challenge.cw_recut_k34_twins_holds : PySem.Challenge.rw_recut_k34_twins.Holds := by
 w_on;o_law;k_head;(case hw=>w_witness2)
 k_fill
 refine L2.R2.walk_law (l:=PySem.Challenge.rw_recut_k34_twins) (k:=10) (x:="_law_script") rfl rfl ⟨rfl,by decide,by decide⟩ (λw h Y=>PySem.W.kIn_of Y) rfl ?L ?F
 case L =>
  intro w
  refine' L2.R2.noLam ?q1 ?q2 ?q3
  (case q1=>k_is)
  (case q2=>k_is)
  (case q3=>k_is)
 case F =>
  intro w mg h KX G
  have T:L2.R2.K34.TopF (L2.KOf KX) mg:=by
   dsimp only[L2.KOf]
   constructor
   case x =>
    refine' L2.R2.K34.top_x KX G ?w0 ?w1 ?w2 ?w3 ?w4 ?w5 ?w6 ?w7 ?w8 ?w9 ?w10 ?w11 ?w12 ?w13 ?w14 ?w15 ?w16 ?w17 ?w18 ?w19 ?w20 ?w21 ?w22 ?w23 ?w24 ?w25 ?w26 ?w27 ?w28
    (case w0=>k_is);(case w1=>k_is);(case w2=>k_is);(case w3=>k_is);(case w4=>k_is);(case w5=>k_is);(case w6=>rfl);(case w7=>rfl);(case w8=>k_is);(case w9=>k_is);(case w10=>k_is);(case w11=>k_is);(case w12=>k_is);(case w13=>k_is);(case w14=>k_is);(case w15=>kernel_rfl);(case w16=>k_is);(case w17=>k_is);(case w18=>k_is);(case w19=>k_is);(case w20=>k_is);(case w21=>kts_exm);(case w22=>kit_is);(case w23=>kts_exm);(case w24=>kit_is);(case w25=>k_is);(case w26=>k_is);(case w27=>k_is);(case w28=>k_is)
   all_goals first | (refine PySem.W.mg_none_of KX G ?z;(case z=>k_is)) | (refine' L2.R2.def_mk KX G ?a ?l ?c ?k ?b;(case a=>k_is);(case l=>k_is);(case c=>k_is);(case k=>k_is);(case b=>first | exact L2.R2.bind1 (λ_=>rfl) | exact L2.R2.bind2 (λ_ _=>rfl) | exact L2.R2.bind3 (λ_ _ _=>rfl) | exact L2.R2.bind4 (λ_ _ _ _=>rfl)))
  exact T.d37.okL λbase f fd Fu=>L2.R2.K34.law_fn T Fu
