import PyProof.Rows.All
import Wide.All
import OpenK.AllK
import Wide.FinOn
import Lean
import PyProof.EqAt
import PyProof.EqKinds
import PyProof.TupleCall
import PySem.Challenge.RW_recut_k36_a_box_split
set_option Elab.async false
set_option linter.all false
set_option maxRecDepth 100000
set_option maxHeartbeats 4000000
noncomputable section
open Array renaming append_assoc->tY,append_empty->DM,foldl_toList->DQ,forIn_toList->pR,getD->kP,getD_eq_getD_getElem?->dR,getElem?_eq_getElem->aZ,getElem?_eq_none->qF,getElem?_eq_some_iff->iX,getElem?_setIfInBounds_ne->rB,getElem?_setIfInBounds_self_of_lt->nW,getElem?_toList->jF,getElem_of_mem->zA,length_toList->cM,mem_of_getElem?->yS,mem_toList_iff->gX,replicate->yE,size_map->zB,toList->EW,toList_extract->zC,toList_filterMap->wY,toList_push->uV
open Array.Perm renaming mem_iff->DL,refl->pM
open Bool renaming and_eq_true->fC,and_false->LU,and_true->vI,beq_eq_decide_eq->nJ,eq_iff_iff->pN,false_and->zD,false_eq_true->aM,false_ne_true->cJ,not_false->nX,not_true->fR,or_eq_true->pO,or_false->vJ
open Classical renaming byContradiction->dJ
open False renaming elim->mM
open ForInStep renaming yield->JR
open Function renaming comp->vL,comp_def->FH
open Int renaming add_zero->tJ,dvd_coe_gcd->JS,dvd_mul_right->FI,dvd_refl->oN,dvd_trans->lR,ediv_mul_cancel->sU,eq_of_mul_eq_mul_left->cH,eq_of_mul_eq_mul_right->gY,fdiv_eq_ediv_of_nonneg->cS,gcd->cD,gcd_dvd_left->lZ,gcd_dvd_right->lI,gcd_ediv_gcd_ediv_gcd->uS,gcd_pos_of_ne_zero_left->kJ,le_of_dvd->BY,le_of_lt->dC,le_refl->IZ,le_trans->xC,lt_asymm->oO,lt_irrefl->lS,lt_or_eq_of_le->kQ,lt_trichotomy->gS,mul_assoc->pH,mul_comm->kK,mul_dvd_mul->yH,mul_ediv_cancel'->iR,mul_ediv_cancel_left->fW,mul_eq_zero->sO,mul_le_mul_of_nonneg_right->rL,mul_lt_mul_left->BQ,mul_neg_of_pos_of_neg->fG,mul_nonneg->fH,mul_nonneg_of_nonpos_of_nonpos->pT,mul_nonpos_of_nonneg_of_nonpos->eD,mul_one->pZ,mul_pos->aY,natAbs_dvd_natAbs->yT,natAbs_mul->iY,natAbs_of_nonneg->zG,ne_of_gt->qH,ne_of_lt->xD,neg_lt_neg_iff->DR,not_le->dS,not_lt->lT,ofNat_natAbs_of_nonpos->uB,one_mul->JA,pos_of_mul_pos_left->iS,sub_pos_of_lt->FJ,toNat_natCast->nR,toNat_of_nonneg->BR,zero_mul->qI
open List renaming Nodup->uC,all_cons->BZ,all_eq_true->jH,any_eq_false->FL,any_eq_true->rN,append_assoc->fD,append_eq_nil_iff->xE,append_inj_left'->lA,append_inj_right'->gN,append_nil->eV,append_of_mem->mO,concat_eq_append->yU,cons_append->bG,dropLast->OV,dropLast_concat->jQ,drop_eq_getElem_cons->gM,drop_length->HN,drop_zero->LY,eq_nil_or_concat->eU,ext_getElem->HP,ext_getElem?->qL,filterMap_cons->eG,filter_append->uD,filter_cons->mB,find?_cons->mZ,find?_eq_none->DU,foldl_cons->pP,forIn_cons->nB,forIn_nil->uE,getD_eq_getElem?_getD->dL,getElem?_append_left->cO,getElem?_append_right->cW,getElem?_cons_succ->aR,getElem?_cons_zero->aJ,getElem?_drop->DV,getElem?_eq_getElem->aF,getElem?_eq_none->gR,getElem?_eq_some_iff->aX,getElem?_map->bJ,getElem?_range->sV,getElem?_replicate->iT,getElem?_set_ne->gZ,getElem?_set_self->iC,getElem?_take->DX,getElem?_zip_eq_some->lF,getElem_drop->FN,getElem_mem->oP,getElem_of_mem->eQ,length->fJ,length_append->dI,length_cons->bZ,length_drop->mC,length_dropLast->zK,length_eq_zero_iff->wA,length_erase_of_mem->vM,length_map->cI,length_nil->eW,length_pos_iff->kD,length_pos_of_mem->xF,length_range->FO,length_replicate->lB,length_reverse->sW,length_singleton->rE,length_take->gE,lookup_cons->rO,map->uF,map_append->cU,map_congr_left->pC,map_cons->aT,map_eq_append_iff->mP,map_eq_cons_iff->jR,map_eq_nil_iff->pD,map_id->nZ,map_map->dD,map_nil->bU,map_reverse->HQ,map_snd_zip->HR,map_take->jN,mem_append->cY,mem_append_left->gK,mem_append_right->bT,mem_cons->aK,mem_cons_of_mem->aW,mem_cons_self->cF,mem_erase_of_ne->zL,mem_filter->nD,mem_filterMap->pU,mem_map->cB,mem_map_of_mem->eI,mem_of_find?_eq_some->uT,mem_of_getElem?->eY,mem_of_mem_drop->zM,mem_of_mem_take->jS,mem_range->gG,mem_reverse->oQ,mem_singleton->dU,nil_append->cC,nodup_append->qM,nodup_cons->fM,nodup_range->HS,not_mem_nil->fS,of_mem_zip->sP,pairwise_append->jT,pairwise_cons->cK,pairwise_iff_getElem->jE,pairwise_map->nU,pairwise_reverse->nM,pairwise_singleton->wB,perm_append_comm->yV,range->dM,range_succ->JT,range_succ_eq_map->xG,replicate->eM,replicate_zero->BT,reverse_cons->uW,set_cons_succ->bP,set_cons_zero->bQ,singleton_append->yW,size_toArray->bD,take_append_drop->gB,take_length->rP,take_of_length_le->mQ,take_sublist->FP,take_succ->mD,take_succ_cons->sX,take_zero->zN,toArray->kL,zip->sH,zipIdx_cons->HU,zipIdx_nil->JU,zipWith->mR,zipWith_cons_cons->qN,zip_append->yI,zip_cons_cons->mS
open List.Pairwise renaming map->qK,nil->nT,of_map->zH,sublist->kZ
open List.Perm renaming refl->zJ
open List.Sublist renaming refl->FK
open List.cons renaming injEq->iO
open Nat renaming add_mod->JB,add_mod_right->FQ,dvd_mul_left->HV,eq_zero_of_zero_dvd->wC,eq_zero_or_pos->uG,gcd->SQ,gcd_comm->qO,gcd_zero_right->DY,le_mul_of_pos_right->wD,le_of_dvd->vN,le_of_eq->xH,le_of_lt->mT,le_of_lt_succ->iZ,le_of_succ_le->FR,le_refl->bK,le_trans->fO,lt_irrefl->hV,lt_of_le_of_lt->DZ,lt_of_lt_of_le->bR,lt_or_eq_of_le->uH,lt_succ_of_lt->gI,lt_succ_self->mE,lt_trans->qP,min_eq_left->JV,mod_eq_of_lt->gP,mod_lt->jI,mul_le_mul_right->zO,ne_of_gt->eB,ne_of_lt->bH,not_lt_zero->nE,strongRecOn->JW,sub_le_sub_right->zP,sub_zero->xI,succ_le_succ->HW,succ_ne_self->oR,zero_add->tL,zero_le->gL
open Nat.Coprime renaming dvd_of_dvd_mul_left->lX
open Nat.succ renaming inj->xJ
open Option renaming bind_some->HX,getD_none->HY,getD_some->kO,map_eq_some_iff->xK,map_some->nF,none->zQ
open Option.some renaming inj->dN,injEq->qQ
open Or renaming inl->cZ,inr->cX
open Prod renaming ext->lJ
open Prod.mk renaming injEq->eK
open PyProof.Rows renaming assignInOrder_cons->uK,assignInOrder_nil->FZ,callWith_builtin1->rQ,callWith_type1->fY,get?_update_seq->KD,listUpdate_at->PN,slicePart_none->OI,slot_tuple_getitem->rD,subscriptTail_builtinR->yD
open PyProof.Rows.IsTup renaming new->HM
open PyProof.Rows.KeyOrd renaming kle_antisymm->BS,kle_of_klt->nS,kle_refl->jZ,kle_trans->rM
open PySem renaming Around->dF,FuncData->lY,Keyword->BC,Program->bV,Shared->aG,Value->aD,World->dE,builtinLookup_eq_fast->lC,call->MA,callType_codes->MJ,call_function_tree->EH,call_list_seq->OZ,call_meets->xN,codeAny_builtin->fT,codeAny_mono->tO,codeAny_of_tree->KB,code_list_new->PH,concat_meets->GC,evalPart_none->PL,intBits_le_iff->MX,isSubtype_stop->MY,isSubtype_type->MZ,list_append->FV,mem_of_lookup->kE,noFill_tuple_add->IN,plainId_quiet->gJ,seq_tuple_add->QC,sizeLine_eq->lO,sub_zip->UT,typeLookup_type->pQ,wpAny_Call_Name_kw->hU,wpAny_Name->OO,wpAny_askSetting->oY,wpAny_assign_Name->HI,wpAny_attempt->vU,wpAny_bind->aA,wpAny_bindName->OP,wpAny_callSpecial?_slot->gU,wpAny_call_entry->iE,wpAny_comprehension_free->vV,wpAny_eqIsQuiet_tuple->yZ,wpAny_execs_cons->wX,wpAny_execs_nil->sT,wpAny_field->fQ,wpAny_fieldsOf->OQ,wpAny_forIn_list->sE,wpAny_handled->QH,wpAny_holding->fL,wpAny_isInstance->sF,wpAny_letGo->jD,wpAny_loadPart'->KP,wpAny_mono->jL,wpAny_newList->QI,wpAny_newObj_type->fE,wpAny_newTuple->AY,wpAny_of_eq->oK,wpAny_onRaise->vW,wpAny_passesOwn->lH,wpAny_pure->aI,wpAny_pyIter_list->jX,wpAny_pyIter_slot->HJ,wpAny_pyIter_tuple->kX,wpAny_rule->uR,wpAny_runValue->OR,wpAny_seqItems->eO,wpAny_setEntries_of->tH,wpAny_setField->AZ,wpAny_setField_rec->jM,wpAny_setState_of->jB,wpAny_specialOf->nH,wpAny_standAt->DK,wpAny_storeSet_of->HK,wpAny_truthy_bool->jY,wpAny_tryCatch->kY,wpAny_typeOf->rA,wpAny_updateSeq->gC,wpAny_updateSeq_pair->sN
open PySem.Around renaming under_plainId->eS
open PySem.Builtin renaming divisionGoesByPylong->mY
open PySem.Builtin.Builtins renaming bindParams->kH
open PySem.Builtin.Int renaming intBits->BO
open PySem.Builtin.List renaming listExtendWith->fI,listItems->mL,listLengthHint->iV,listSameRef->iJ,listUpdate->pY
open PySem.Builtin.Slice renaming sliceAdjust->oZ,sliceApplied->tZ,slicePlaces->lE
open PySem.Builtin.SmallTypes renaming nextOf->dA,ownedTupleHandOut->pB,ownedTupleIsFree->dZ
open PySem.Builtin.Tuple renaming tupleExact->lQ
open PySem.Calls renaming Name_function_global->uA,callWith_builtin->wZ,spliced_cons->pS,spliced_nil->qG
open PySem.F renaming args_tuple_add_2->vO,entry_extend_loop->uU,entry_tuple_add->wE,plainAttrs_list->mF,plain_extend_loop->iF,plain_set_new->yX,slot_tuple_add->xL
open PySem.Heap renaming ExtBut->IY,IsList->zF,IsTuple->xB,SameBut->mN,get?_push_of_some->aN,get?_push_size->bI,get?_update_other->cE,get?_update_self->dQ,lt_size->aU,size_push->gD
open PySem.Heap.SameBut renaming update->gQ
open PySem.IsL renaming update->HZ
open PySem.NameKind renaming cell->sG,free->iK
open PySem.Obj renaming data_mapFields->EA,mapSeq->dH,putSet->oA
open PySem.PassesOwn renaming never->dP
open PySem.SeqAt renaming EqAt->EB,RcAt->uJ
open PySem.SeqAt.EqAt renaming int_int->EC,of_refs->ED,same->yK
open PySem.SetFound renaming there->MB
open PySem.SetTable renaming grown->MC
open PySem.SetTable.below renaming go->MF
open PySem.SetTable.layClean renaming free->iW
open PySem.SetTable.probe renaming go->XN
open PySem.Shared renaming TypeIs->CB,heap->lK
open PySem.Str renaming ofString->lM
open PySem.Value renaming bool->EF,int->QM,isInt->JC,none->gH,ref->fP,str->QN,type->iG
open PySem.W renaming Frag->aH,OpenLaw->JX,WalkO->OW,cellsFrom_some->xM,codeIn->uI,findIn->LZ,fnOf->oS,instObj->yJ,kas_asc->vA,kas_bin->TV,kas_count->rY,kas_desc->kU,kas_descPart->oV,kas_place->wK,kas_rev->BI,kas_sort->AA,kas_tail3->tV,keepIn->mG,kia_one->gO,kitOne->kR,kitx_dict->FU,kitx_list->uX,lookIn->zR,methodObj->uY,nsIn->tM,plainGet->IA,tabIn->OX
open PySem.Walks renaming list->ME
open PySem.pickOrder renaming go->GU
open Sum renaming inl->tN,inr->BE
open True renaming intro->rR
set_option compiler.extract_closed false
local macro_rules | `(tactic| walk_at "vis")=>`(tactic| first | exact cZ rfl | exact cX (cZ rfl) | exact cX (cX rfl) | exact cX rfl)
local macro_rules | `(tactic| walk_at "loc")=>`(tactic| first | exact .inl rfl | exact .inr rfl | assumption)
namespace L2
open PySem PySem.Spec PyProof.Rows
abbrev Key:=Sum Int Str
def Rk:Key->aD->Bool
 | .inl k,v=>JC k v
 | .inr x,v=>Value.isStrOf x v
def Yc (w:dE):Key->Int
 | .inl k=>hashInt k
 | .inr x=>hashStr w x
theorem lN:∀{k:Key} {v:aD},Rk k v=true->(∃i t,k=tN i/\v=QM i t)\/(∃x t,k=BE x/\v=QN x t)
 | .inl i,v,h=>by
  obtain⟨t,e⟩:=Value.isInt_shape (k:=i) (v:=v) h
  exact .inl ⟨i,t,rfl,e⟩
 | .inr x,v,h=>by
  obtain⟨t,e⟩:=Value.isStrOf_shape (x:=x) (v:=v) h
  exact .inr ⟨x,t,rfl,e⟩
theorem Ss (a b:Int):decide ((tN a:Key)=tN b)=(a == b):=by
 by_cases e:a=b
 ·subst e;simp
 ·have h:¬(tN a:Key)=tN b:=λq=>e (Sum.inl.inj q)
  rw[decide_eq_false h]
  exact (beq_eq_false_iff_ne.mpr e).symm
theorem Sw (a b:Str):decide ((BE a:Key)=BE b)=decide (a=b):=by
 by_cases e:a=b
 ·subst e;simp
 ·have h:¬(BE a:Key)=BE b:=λq=>e (Sum.inr.inj q)
  rw[decide_eq_false h,decide_eq_false e]
theorem Su (a:Int) (b:Str):decide ((tN a:Key)=BE b)=false:=decide_eq_false (λq=>nomatch q)
theorem Sv (a:Str) (b:Int):decide ((BE a:Key)=tN b)=false:=decide_eq_false (λq=>nomatch q)
def Dh (prog:bV) (w:dE):PySem.KeyKind prog w Key where
 is:=Rk
 hash:=Yc w
 inj:=λv a b ha hb=>by
  rcases lN ha with ⟨i,t,rfl,rfl⟩ | ⟨x,t,rfl,rfl⟩
  ·rcases lN hb with ⟨j,u,rfl,e⟩ | ⟨y,u,rfl,e⟩
   ·injection e with e1 _;rw[e1]
   ·exact nomatch e
  ·rcases lN hb with ⟨j,u,rfl,e⟩ | ⟨y,u,rfl,e⟩
   ·exact nomatch e
   ·injection e with e1 _;rw[e1]
 byValue:=λk v h=>by
  rcases lN h with ⟨i,t,rfl,rfl⟩ | ⟨x,t,rfl,rfl⟩ <;> rfl
 pyHash:=λhv h=>by
  rcases lN hv with ⟨i,t,rfl,rfl⟩ | ⟨x,t,rfl,rfl⟩
  ·exact wpAny_pyHash_int h
  ·exact wpAny_pyHash_str h
 eqBool:=λhu hv h=>by
  rcases lN hu with ⟨i,t,rfl,rfl⟩ | ⟨x,t,rfl,rfl⟩
  ·rcases lN hv with ⟨j,u,rfl,rfl⟩ | ⟨y,u,rfl,rfl⟩
   ·rw[Ss] at h;exact wpAny_eqBool_int h
   ·rw[Su] at h;exact SeqAt.EqAt.int_str i t y u _ _ _ _ h
  ·rcases lN hv with ⟨j,u,rfl,rfl⟩ | ⟨y,u,rfl,rfl⟩
   ·rw[Sv] at h;exact SeqAt.EqAt.str_int x t j u _ _ _ _ h
   ·rw[Sw] at h;exact wpAny_eqBool_str h
 «strs»:=λk x t v h=>by
  rcases lN h with ⟨i,u,rfl,e⟩ | ⟨y,u,rfl,e⟩
  ·exact nomatch e
  ·injection e with e1 _
   subst e1
   cases v <;> rfl
inductive V where
 | non | bl (b:Bool) | int (i:Int) | str (x:Str) | byt (b:Array UInt8) | flt (b:UInt64) | ref (a:Addr) | ty (n:String)
 deriving DecidableEq
def RelV:V->aD->Prop
 | .non,u=>u=gH
 | .bl b,u=>u=EF b
 | .int i,u=>∃t,u=QM i t
 | .str x,u=>∃t,u=QN x t
 | .byt b,u=>∃t,u=Value.bytes b t
 | .flt b,u=>∃t,u=Value.float b t
 | .ref a,u=>u=fP a
 | .ty n,u=>u=iG n
abbrev Vals:List V->List aD->Prop:=Paired RelV
theorem Vals.length {xs:List V} {us:List aD} (r:Vals xs us):xs.length=us.length:=Paired.length r
theorem Vals.get:∀{xs:List V} {us:List aD} {i:Nat} {x:V},Vals xs us->xs[i]? = some x->∃u,us[i]? = some u/\RelV x u
 | _,_,_,_,.nil,e=>by simp at e
 | _,_,0,_,.cons r _,e=>by simp at e;subst e;exact⟨_,rfl,r⟩
 | _,_,i+1,x,.cons _ t,e=>by
  obtain⟨u,h1,h2⟩:=Vals.get (i:=i) (x:=x) t (by simpa using e)
  exact⟨u,by simpa using h1,h2⟩
theorem Vals.append:∀{xs ys:List V} {us ws:List aD},Vals xs us->Vals ys ws->Vals (xs++ys) (us++ws)
 | _,_,_,_,.nil,s=>s
 | _,_,_,_,.cons r t,s=>.cons r (Vals.append t s)
theorem Vals.take:∀{xs:List V} {us:List aD} (n:Nat),Vals xs us->Vals (xs.take n) (us.take n)
 | _,_,0,_=>.nil
 | _,_,_+1,.nil=>.nil
 | _,_,n+1,.cons r t=>.cons r (Vals.take n t)
theorem Vals.drop:∀{xs:List V} {us:List aD} (n:Nat),Vals xs us->Vals (xs.drop n) (us.drop n)
 | _,_,0,r=>r
 | _,_,_+1,.nil=>.nil
 | _,_,n+1,.cons _ t=>Vals.drop n t
def RelO:Option V->Option aD->Prop
 | some v,some u=>RelV v u
 | none,none=>True
 | _,_=>False
def KV {κ:Type}:List (κ × V)->List (κ × aD)->Prop:=Paired λ(p:κ × V) (q:κ × aD)=>p.1=q.1/\RelV p.2 q.2
def kV:Key->V
 | .inl i=>.int i
 | .inr x=>.str x
inductive HO where
  | lst (xs:List V)
  | tup (xs:List V)
  | dK (kvs:List (Key × V)) | dT (kvs:List (List Key × V))
  | set (S:Int->Bool) (n:Nat)
  | ins (C dx:Addr) (fs:List (Str × V))
  | own (x:Addr)
  | xd (fs:List (Str × V))
  | met (f x:Addr)
  | rng (lo hi:Int)
  | frz (o:Obj) (u:HO)
  | tbl (ps:Array aD)
  | ext (φ:Heap->Prop)
abbrev Hp:=Addr->Option HO
def upd (H:Hp) (a:Addr) (o:HO):Hp:=λb=>if b=a then some o else H b
theorem fK {H:Hp} {a:Addr} {o:HO}:upd H a o a=some o:=by unfold upd;rw[if_pos rfl]
theorem cT {H:Hp} {a b:Addr} {o:HO} (h:b≠a):upd H a o b=H b:=by unfold upd;rw[if_neg h]
theorem eT {H:Hp} {a b:Addr} {o:HO} (h:H a=some o) (h':H b=none):a≠b:=by
 intro e;subst e;rw[h] at h';cases h'
section
variable (P:bV) (w:dE)
def ObjOk (H:Hp) (h:Heap) (a:Addr):HO->Prop
 | .lst xs=>xs.length<=sizeLine/\∃(its:List aD) (n:Nat),Vals xs its/\h.get? a=some { cls:=.type "list",data:=.seq its.toArray n }
 | .tup xs=>xs.length<=sizeLine/\∃its:List aD,Vals xs its/\IsTup h a its.toArray
 | .dK kvs=>kvs.length<=sizeLine/\(a == sysModules)=false/\∃vs,KV kvs vs/\h.DictOf (Dh P w) a vs
 | .dT kvs=>kvs.length<=sizeLine/\(a == sysModules)=false/\∃xs:List (List Key × Addr × aD),
   Paired (λ(p:List Key × V) (q:List Key × Addr × aD)=>p.1=q.1/\H q.2.1=some (.tup (p.1.map kV))/\RelV p.2 q.2.2) kvs xs /\
   ∃o es ep,h.get? a=some o/\o.ExactDict/\o.data = .dict es ep/\es.toList=xs.map (entryOfKey (tupleKind (Dh P w)))/\(xs.map (·.1)).Nodup
 | .set S n=>h.SetOf (intKind P w) a S n
 | .ins C dx fs=>H dx=some (.own a)/\fs.length<=1000/\dx≠a/\h.get? a=some (yJ C dx) /\
   ∃mA,h.Ns1 dx mA/\(∀f,RelO (fs.lookup f) (mA f))/\PySem.Within mA (fs.map (·.1))
 | .own _=>∃o,h.get? a=some o
 | .xd fs=>∃mA,h.Ns1 a mA/\∀f,RelO (fs.lookup f) (mA f)
 | .rng lo hi=>∃t u v,h.get? a=some { cls:=.type "range",data:=.fields #[.int lo t,.int hi u,.int 1 v] }
 | .frz o u=>h.get? a=some o/\ObjOk H h a u
 | .tbl ps=>h.get? a=some { cls:=.none,data:=.fields ps }
 | .met f x=>h.get? a=some (uY (.ref f) (.ref x))
 | .ext φ=>φ h/\(∃o,h.get? a=some o)/\∀h1 h2:Heap,φ h1->(∀o,h1.get? a=some o->h2.get? a=some o)->φ h2
def HOk (H:Hp) (h:Heap):Prop:=∀a o,H a=some o->ObjOk P w H h a o
end
section
variable {P:bV} {w:dE} {H H':Hp} {h h':Heap} {a:Addr} {o:HO}
theorem ObjOk.lt (x:ObjOk P w H h a o):a<h.objs.size:=by
 cases o with
 | lst xs=>obtain⟨_,_,_,_,e⟩:=x;exact aU e
 | tup xs=>obtain⟨_,_,_,p⟩:=x;exact p.lt
 | dK kvs=>obtain⟨_,_,_,_,o,_,_,e,_⟩:=x;exact aU e
 | dT kvs=>obtain⟨_,_,_,_,o,_,_,e,_⟩:=x;exact aU e
 | set S n=>obtain⟨o,_,_,_,e,_⟩:=x;exact aU e
 | ins C dx fs=>obtain⟨_,_,_,e,_⟩:=x;exact aU e
 | own y=>obtain⟨_,e⟩:=x;exact aU e
 | xd fs=>obtain⟨_,⟨_,_,_,e,_⟩,_⟩:=x;exact aU e
 | rng lo hi=>obtain⟨_,_,_,e⟩:=x;exact aU e
 | frz ob u=>obtain⟨e,_⟩:=x;exact aU e
 | tbl ps=>exact aU (show h.get? a=some _ from x)
 | met f y=>exact aU (show h.get? a=some _ from x)
 | ext φ=>obtain⟨_,⟨_,e⟩,_⟩:=x;exact aU e
theorem Paired.mapP {α β:Type} {F G:α->β->Prop}:∀{l₁:List α} {l₂:List β},Paired F l₁ l₂->(∀a b,F a b->G a b)->Paired G l₁ l₂
 | _,_,.nil,_=>.nil
 | _,_,.cons r t,f=>.cons (f _ _ r) (Paired.mapP t f)
theorem ObjOk.stay (x:ObjOk P w H h a o) (k:∀b u,(b=a\/H b=some (.own a))->h.get? b=some u->h'.get? b=some u)
  (ho:∀b,H b=some (.own a)->H' b=some (.own a)) (ht:∀b xs,H b=some (.tup xs)->H' b=some (.tup xs)):ObjOk P w H' h' a o:=by
 induction o with
 | lst xs=>obtain⟨z,its,n,r,e⟩:=x;exact⟨z,its,n,r,k _ _ (.inl rfl) e⟩
 | tup xs=>obtain⟨z,its,r,ob,e,c⟩:=x;exact⟨z,its,r,ob,k _ _ (.inl rfl) e,c⟩
 | dK kvs=>obtain⟨z,y,vs,r,ob,es,ep,e,c⟩:=x;exact⟨z,y,vs,r,ob,es,ep,k _ _ (.inl rfl) e,c⟩
 | dT kvs =>
  obtain⟨z,y,xs,r,ob,es,ep,e,c⟩:=x
  exact⟨z,y,xs,Paired.mapP r λp q z=>⟨z.1,ht _ _ z.2.1,z.2.2⟩,ob,es,ep,k _ _ (.inl rfl) e,c⟩
 | set S n=>obtain⟨ob,es,ep,t,e,c⟩:=x;exact⟨ob,es,ep,t,k _ _ (.inl rfl) e,c⟩
 | ins C dx fs =>
  obtain⟨d,z,ne,e,mA,⟨od,es,ep,e2,c⟩,r⟩:=x
  exact⟨ho _ d,z,ne,k _ _ (.inl rfl) e,mA,⟨od,es,ep,k _ _ (.inr d) e2,c⟩,r⟩
 | own y=>obtain⟨ob,e⟩:=x;exact⟨ob,k _ _ (.inl rfl) e⟩
 | xd fs=>obtain⟨mA,⟨od,es,ep,e,c⟩,r⟩:=x;exact⟨mA,⟨od,es,ep,k _ _ (.inl rfl) e,c⟩,r⟩
 | rng lo hi=>obtain⟨t,u,v,e⟩:=x;exact⟨t,u,v,k _ _ (.inl rfl) e⟩
 | frz ob u ih=>obtain⟨e,q⟩:=x;exact⟨k _ _ (.inl rfl) e,ih q⟩
 | tbl ps =>
  have e:h.get? a=some { cls:=.none,data:=.fields ps }:=x
  show h'.get? a=some { cls:=.none,data:=.fields ps }
  exact k a _ (.inl rfl) e
 | met f y =>
  have e:h.get? a=some (uY (.ref f) (.ref y)):=x
  show h'.get? a=some (uY (.ref f) (.ref y))
  exact k a _ (.inl rfl) e
 | ext φ=>obtain⟨p,⟨o,e⟩,st⟩:=x;exact⟨st _ _ p λo q=>k _ _ (.inl rfl) q,⟨o,k _ _ (.inl rfl) e⟩,st⟩
theorem HOk.lt (x:HOk P w H h) (e:H a=some o):a<h.objs.size:=(x a o e).lt
theorem HOk.fresh (x:HOk P w H h) (e:h.objs.size<=a):H a=none:=by
 cases q:H a with
 | none=>rfl
 | some u=>exact absurd (bR (x.lt q) e) (hV _)
theorem HOk.kept (x:HOk P w H h) (k:∀b u,h.get? b=some u->h'.get? b=some u):HOk P w H h':=λa o e =>
 (x a o e).stay (λb u _ q=>k b u q) (λ_ q=>q) λ_ _ q=>q
theorem HOk.laid (x:HOk P w H h) (k:∀b u,h.get? b=some u->h'.get? b=some u) (hp:h.objs.size<=a) (new:ObjOk P w (upd H a o) h' a o):HOk P w (upd H a o) h':=λb u e=>by
 have hn:=x.fresh hp
 by_cases hb:b=a
 ·subst hb;rw[fK] at e;cases e;exact new
 ·rw[cT hb] at e
  exact (x b u e).stay (λc v _ q=>k c v q) (λc q=>by rw[cT (eT q hn)];exact q) λc xs q=>by rw[cT (eT q hn)];exact q
end
def Rd (H:Hp) (a:Addr) (u:HO):Prop:=H a=some u\/∃o,H a=some (.frz o u)
theorem Rd.ok {P:bV} {w:dE} {H:Hp} {h:Heap} {a:Addr} {u:HO} (r:Rd H a u) (x:HOk P w H h):ObjOk P w H h a u:=by
 rcases r with r | ⟨o,r⟩
 ·exact x a u r
 ·obtain⟨_,q⟩:=x a _ r
  exact q
def Mut:Option HO->Prop
 | some (.lst _)=>True
 | some (.dK _)=>True
 | some (.dT _)=>True
 | some (.set _ _)=>True
 | some (.ins _ _ _)=>True
 | some (.ext _)=>True
 | _=>False
section
variable {P:bV} {w:dE} {H:Hp} {h h':Heap} {x e:Addr} {o':HO}
theorem HOk.write (ok:HOk P w H h) (mu:Mut (H x)) (he:e=x\/H e=some (.own x)) (k:∀b u,b≠e->h.get? b=some u->h'.get? b=some u) (heo:∃u,h'.get? e=some u)
  (new:ObjOk P w (upd H x o') h' x o'):HOk P w (upd H x o') h':=λb u q=>by
 have nown:∀c y,H c=some (.own y)->c≠x:=λc y r z=>by subst z;rw[r] at mu;exact mu
 have ntup:∀c xs,H c=some (.tup xs)->c≠x:=λc xs r z=>by subst z;rw[r] at mu;exact mu
 by_cases hb:b=x
 ·subst hb;rw[fK] at q;cases q;exact new
 ·rw[cT hb] at q
  by_cases hbe:b=e
  ·have q':H b=some (.own x):=by
    rcases he with z | z
    ·exact absurd (hbe.trans z) hb
    ·rw[hbe];exact z
   rw[q] at q';cases q'
   obtain⟨v,hv⟩:=heo
   exact⟨v,by rw[hbe];exact hv⟩
  ·refine (ok b u q).stay (λc v hc r=>k c v ?_ r) (λc r=>by rw[cT (nown c b r)];exact r) λc xs r=>by rw[cT (ntup c xs r)];exact r
   rcases hc with rfl | hc
   ·exact hbe
   ·rintro rfl
    rcases he with z | z
    ·exact nown c b hc z
    ·rw[hc] at z;cases z;exact hb rfl
end
structure Un (fs ex:List Addr) (H H':Hp) (h h':Heap):Prop where
 keep:∀b o,h.get? b=some o->H b=none->b ∉ fs->b ∉ ex->h'.get? b=some o
 slot:∀b o,h.get? b=some o->H b=none->b∈fs->b ∉ ex->∃sl,h'.get? b=some { o with slots:=sl }
 free:∀b o,h.get? b=some o->H b=none->b ∉ ex->H' b=none
 there:∀b o,h.get? b=some o->b ∉ ex->∃o',h'.get? b=some o'
 tups:∀b xs,H b=some (.tup xs)->H' b=some (.tup xs)
 frzs:∀b o u,H b=some (.frz o u)->H' b=some (.frz o u)
 tbls:∀b ps,H b=some (.tbl ps)->∃more,H' b=some (.tbl (ps++more))
section
variable {fs fs' ex ex':List Addr} {H H1 H2:Hp} {h h1 h2 h':Heap} {a x e:Addr} {o:HO}
theorem Un.any (u:Un fs ex H H1 h h1) {b:Addr} {ob:Obj} (q:h.get? b=some ob) (n:H b=none) (hx:b ∉ ex):∃sl,h1.get? b=some { ob with slots:=sl }:=by
 by_cases hb:b∈fs
 ·exact u.slot b ob q n hb hx
 ·exact⟨ob.slots,u.keep b ob q n hb hx⟩
theorem Un.kept (k:∀b u,h.get? b=some u->h'.get? b=some u):Un fs ex H H h h' :=
 ⟨λb ob q _ _ _=>k b ob q,λb ob q _ _ _=>⟨ob.slots,k b ob q⟩,λ_ _ _ n _=>n,λb ob q _=>⟨ob,k b ob q⟩,λ_ _ q=>q,λ_ _ _ q=>q,λ_ ps q=>⟨#[],by rw[q];simp⟩⟩
theorem Un.refl:Un fs ex H H h h:=Un.kept λ_ _ q=>q
theorem Un.laid (k:∀b u,h.get? b=some u->h'.get? b=some u) (hp:h.objs.size<=a) (hn:H a=none):Un fs ex H (upd H a o) h h' where
 keep:=λb u q _ _ _=>k b u q
 slot:=λb u q _ _ _=>⟨u.slots,k b u q⟩
 free:=λb u q n _=>by rw[cT (bH (bR (aU q) hp))];exact n
 there:=λb u q _=>⟨u,k b u q⟩
 tups:=λb xs q=>by rw[cT (eT q hn)];exact q
 frzs:=λb u xs q=>by rw[cT (eT q hn)];exact q
 tbls:=λb ps q=>⟨#[],by rw[cT (eT q hn),q];simp⟩
theorem Un.write (mu:Mut (H x)) (he:e=x\/H e=some (.own x)) (k:∀b u,b≠e->h.get? b=some u->h'.get? b=some u) (heo:∃u,h'.get? e=some u):Un fs ex H (upd H x o) h h':=by
 have hx:∀b,H b=none->b≠x:=λb n z=>by subst z;rw[n] at mu;exact mu
 have hb:∀b,H b=none->b≠e:=λb n z=>by
  subst z
  rcases he with r | r
  ·exact hx b n r
  ·rw[n] at r;cases r
 have hm:∀b u,H b=some u->¬Mut (some u)->b≠x:=λb u q nm z=>by subst z;rw[q] at mu;exact nm mu
 refine⟨λb u q n _ _=>k b u (hb b n) q,λb u q n _ _=>⟨u.slots,k b u (hb b n) q⟩,λb u q n _=>by rw[cT (hx b n)];exact n,λb u q _=>?_,
  λb xs q=>by rw[cT (hm b _ q λz=>z)];exact q,λb u xs q=>by rw[cT (hm b _ q λz=>z)];exact q,λb ps q=>⟨#[],by rw[cT (hm b _ q λz=>z),q];simp⟩⟩
 by_cases hbe:b=e
 ·subst hbe;exact heo
 ·exact⟨u,k b u hbe q⟩
end
def trk (h:Heap) (H:Hp):List Addr:=(dM h.objs.size).filter λa=>(H a).isSome
def TQ (h:Heap) (H:Hp):Heap:=PySem.W.hideAll h (trk h H)
theorem Ex (h:Heap) (H:Hp):(TQ h H).objs.size=h.objs.size:=PySem.W.hideAll_size _ _
theorem Jx {h:Heap} {H:Hp} {b:Addr} {o:Obj} (e:h.get? b=some o) (n:H b=none):(TQ h H).get? b=some o :=
 PySem.W.hideAll_get _ e λhm=>by
  have q:(H b).isSome=true:=(nD.mp hm).2
  rw[n] at q;simp at q
theorem Oy {h:Heap} {H:Hp} {b:Addr} {o:Obj} (e:(TQ h H).get? b=some o):h.get? b=some o/\H b=none:=by
 have e':h.get? b=some o:=PySem.W.of_hideAll (trk h H) e
 refine⟨e',?_⟩
 cases q:H b with
 | none=>rfl
 | some x =>
  have hm:b∈trk h H:=nD.mpr ⟨gG.mpr (aU e'),by simp[q]⟩
  have z:(TQ h H).get? b=none:=PySem.W.hideAll_none (trk h H) hm
  rw[z] at e;cases e
def Mx (g h:Heap) (L:Addr):List (Addr × Obj):=(dM h.objs.size).filterMap λa=>if a=L\/(g.get? a).isSome=true then none else (h.get? a).map λo=>(a,o)
def rest (g h:Heap) (L d:Addr):List (Addr × Obj):=(Mx g h L).filter λp=>decide (p.1≠d)
structure Mod (K:aH) (mg:Str->Option aD) (base:Heap):Prop where
 kin:K.In base
 glob:base.Ns mainGlobals mg
 blt:∃mb,base.Ns builtinsNs mb/\∀x:Str,x≠"__name__"->mb x=bootBuiltins x
 nolimit:base.NoLimit
structure Cx where
 prog:bV
 w:dE
 K:aH
 mg:Str->Option aD
 base:Heap
 A:dF
 N:List Str
 s₀:aG
 H₀:Hp
 env:Env
 outer:List Env
 stack:List Env
 ex:List Addr
 fn:Str->Bool
 calm:Bool
 pn:List (Addr × Obj)
 xe:aD->aG->Prop
def frs (l:List Env):List Addr:=l.filterMap (·.frame)
abbrev Cx.fs (X:Cx):List Addr:=frs X.outer
def Vis (sc:Scope) (x:Str):Prop:=sc.names.lookup x=some .local\/sc.names.lookup x=some .cell\/sc.names.lookup x=some .free
def Loc (sc:Scope) (x:Str):Prop:=sc.names.lookup x=some .local\/sc.names.lookup x=some .cell
def Look (env:Env) (h:Heap) (m:Str->Option aD) (x:Str) (u:aD):Prop :=
 (env.kindOf x=some .local/\m x=some u)\/((env.kindOf x=some .cell\/env.kindOf x=some .free)/\∃c,env.cells.lookup x=some c/\h.IsCell c (some u))
structure Cx.Ok (X:Cx):Prop where
 mod:Mod X.K X.mg X.base
 kind:X.env.scope.kind = .function
 glob:X.env.globals=mainGlobals
 blt:X.env.builtins=builtinsNs
 above:X.s₀.heap.objs.size<=X.env.locals
 inj:∀x y c,X.env.cells.lookup x=some c->X.env.cells.lookup y=some c->x=y
 has:∀x,(X.env.kindOf x=some .cell\/X.env.kindOf x=some .free)->∃c,X.env.cells.lookup x=some c
 cab:∀x c,X.fn x=true->X.env.cells.lookup x=some c->X.s₀.heap.objs.size<=c
 hd:X.calm=true->X.A.handled=none
 frames:X.A.frames=some X.stack
 stk:X.stack=X.outer\/(X.stack=X.env::X.outer/\X.env.frame=some X.env.locals)
 exf:∀b∈X.ex,b≠X.env.locals/\∀x c,X.env.cells.lookup x=some c->c≠b
 bs:∀b o,X.base.get? b=some o->X.s₀.heap.get? b=some o/\X.H₀ b=none
 bsz:X.base.objs.size<=X.s₀.heap.objs.size
 noex:∀b o,X.base.get? b=some o->b ∉ X.ex
 exfs:∀b∈X.ex,b ∉ X.fs
 funs:X.s₀.heap.FunFrames X.base X.outer
 frf:∀b∈X.fs,X.H₀ b=none
structure Inv (X:Cx) (pins:List (Addr × Obj)) (σ:List (Option V)) (H:Hp) (s:aG):Prop where
 ok:X.Ok
 os:s.os=X.s₀.os
 bare:AllBare s.gens
 base:Un X.fs X.ex X.H₀ H X.s₀.heap s.heap
 loc:∃m,s.heap.Ns X.env.locals m/\∀(i:Nat) (x:Str) (v:V),X.N[i]? = some x->σ[i]? = some (some v)->Vis X.env.scope x->∃u,RelV v u/\Look X.env s.heap m x u
 cell:∀x c,X.env.cells.lookup x=some c->∃v,s.heap.IsCell c v
 free:H X.env.locals=none
 freeC:∀x c,X.env.cells.lookup x=some c->H c=none
 pin:∀p∈X.pn++pins,s.heap.get? p.1=some p.2/\H p.1=none/\p.1≠X.env.locals/\p.1 ∉ X.fs/\∀v,p.2.data≠.cell v
 hok:HOk X.prog X.w H s.heap
 len:σ.length=X.N.length
section
variable {X:Cx} {pins:List (Addr × Obj)} {σ:List (Option V)} {H H':Hp} {s:aG} {h':Heap}
theorem Cx.Ok.nofr (ok:X.Ok) {b:Addr} {o:Obj} (e:X.base.get? b=some o):b ∉ X.fs:=λhb=>by
 have:=(ok.funs.mem hb).1
 rw[e] at this;cases this
theorem Inv.bs (I:Inv X pins σ H s):∀b o,X.base.get? b=some o->s.heap.get? b=some o/\H b=none:=λb o e =>
 ⟨I.base.keep b o (I.ok.bs b o e).1 (I.ok.bs b o e).2 (I.ok.nofr e) (I.ok.noex b o e),I.base.free b o (I.ok.bs b o e).1 (I.ok.bs b o e).2 (I.ok.noex b o e)⟩
theorem Inv.bk (I:Inv X pins σ H s):∀b o,X.base.get? b=some o->s.heap.get? b=some o:=λb o e=>(I.bs b o e).1
theorem Inv.mod (I:Inv X pins σ H s):Mod X.K X.mg X.base:=I.ok.mod
theorem Inv.kIn (I:Inv X pins σ H s):X.K.In s.heap:=I.ok.mod.kin.keeps I.bk
theorem Inv.lt (I:Inv X pins σ H s):X.env.locals<s.heap.objs.size:=let ⟨_,hn,_⟩:=I.loc;hn.lt
theorem Inv.sz (I:Inv X pins σ H s):X.s₀.heap.objs.size<=s.heap.objs.size:=fO I.ok.above (mT I.lt)
theorem Inv.nofs (I:Inv X pins σ H s) {a:Addr} (h:s.heap.objs.size<=a):a ∉ X.fs:=λhb=>by
 obtain⟨_,o,ho,_⟩:=I.ok.funs.mem hb
 exact absurd (bR (aU ho) (fO I.sz h)) (hV _)
theorem Inv.cne (I:Inv X pins σ H s):∀x c,X.env.cells.lookup x=some c->c≠X.env.locals:=λx c e z=>by
 obtain⟨v,o,ho,hd⟩:=I.cell x c e
 obtain⟨m,⟨o',es,ep,ho',hd',_⟩,_⟩:=I.loc
 rw[z,ho'] at ho;cases ho;rw[hd'] at hd;cases hd
theorem Inv.funs (I:Inv X pins σ H s):s.heap.FunFrames X.base X.outer:=by
 have all:∀(l:List Env),(∀b∈frs l,b∈X.fs)->X.s₀.heap.FunFrames X.base l->s.heap.FunFrames X.base l:=by
  intro l
  induction l with
  | nil=>intro _ _;trivial
  | cons env r ih =>
   intro hs hl
   obtain⟨hk,⟨L,o,hf,hn,ho,hd⟩,hr⟩:=hl
   have hL:L∈X.fs:=hs L (by unfold frs;rw[eG,hf];exact cF)
   obtain⟨sl,e⟩:=I.base.slot L o ho (I.ok.frf L hL) hL λz=>I.ok.exfs L z hL
   exact⟨hk,⟨L,_,hf,hn,e,hd⟩,ih (λb hb=>hs b (by unfold frs;rw[eG,hf];exact aW _ hb)) hr⟩
 exact all X.outer (λ_ hb=>hb) I.ok.funs
theorem Inv.stack (I:Inv X pins σ H s):s.heap.FunFrames X.base X.stack:=by
 rcases I.ok.stk with e | ⟨e,hf⟩
 ·rw[e];exact I.funs
 ·rw[e]
  obtain⟨m,hn,_⟩:=I.loc
  refine .cons (by rw[I.ok.kind];decide) hf hn ?_ I.funs
  exact Heap.get?_none_of_le (fO I.ok.bsz I.ok.above)
theorem Inv.stkSub (I:Inv X pins σ H s):∀b∈frs X.stack,b∈X.env.locals::X.fs:=λb hb=>by
 rcases I.ok.stk with e | ⟨e,hf⟩
 ·rw[e] at hb;exact aW _ hb
 ·rw[e] at hb
  unfold frs at hb
  rw[eG,hf] at hb
  exact hb
theorem Inv.stkFree (I:Inv X pins σ H s):∀b∈frs X.stack,H b=none:=λb hb=>by
 rcases aK.mp (I.stkSub b hb) with e | hb
 ·rw[e];exact I.free
 ·obtain⟨_,o,ho,_⟩:=I.ok.funs.mem hb
  exact I.base.free b o ho (I.ok.frf b hb) λz=>I.ok.exfs b z hb
theorem Inv.step {g':Array GenState} {t':Nat} {d':Drawn} {ch:List Addr} (I:Inv X pins σ H s)
  (hch:∀b∈ch,(b∈X.ex\/X.s₀.heap.objs.size<=b)/\b≠X.env.locals/\(∀x c,X.env.cells.lookup x=some c->c≠b)/\∀p∈X.pn++pins,p.1≠b)
  (keep:∀b o,b≠X.env.locals->b ∉ X.fs->b ∉ ch->s.heap.get? b=some o->H b=none->h'.get? b=some o)
  (slot:∀b o,b≠X.env.locals->b∈X.fs->b ∉ ch->s.heap.get? b=some o->H b=none->∃sl,h'.get? b=some { o with slots:=sl }) (free:∀b o,b ∉ ch->s.heap.get? b=some o->H b=none->H' b=none)
  (there:∀b o,b ∉ ch->s.heap.get? b=some o->∃o',h'.get? b=some o')
  (tups:∀b xs,H b=some (.tup xs)->H' b=some (.tup xs)) (frzs:∀b o u,H b=some (.frz o u)->H' b=some (.frz o u)) (tbls:∀b ps,H b=some (.tbl ps)->∃more,H' b=some (.tbl (ps++more)))
  (ns:∀m,s.heap.Ns X.env.locals m->h'.Ns X.env.locals m) (hok:HOk X.prog X.w H' h') (hg:AllBare g') :
  Inv X pins σ H' { s with heap:=h',gens:=g',drawn:=d',toks:=t' }:=by
 have neL:∀b o,X.s₀.heap.get? b=some o->b≠X.env.locals:=λb o e=>bH (bR (aU e) I.ok.above)
 have neC:∀b o,X.s₀.heap.get? b=some o->b ∉ X.ex->b ∉ ch:=λb o e hx hb=>by
  rcases (hch b hb).1 with z | z
  ·exact hx z
  ·exact absurd (bR (aU e) z) (hV _)
 have cellK:∀x c,X.env.cells.lookup x=some c->∀v,s.heap.IsCell c v->h'.IsCell c v:=λx c e v ⟨o,ho,hd⟩=>by
  have nch:c ∉ ch:=λz=>(hch c z).2.2.1 x c e rfl
  by_cases hc:c∈X.fs
  ·obtain⟨sl,q⟩:=slot c o (I.cne x c e) hc nch ho (I.freeC x c e)
   exact⟨_,q,hd⟩
  ·exact⟨o,keep c o (I.cne x c e) hc nch ho (I.freeC x c e),hd⟩
 refine⟨I.ok,I.os,hg,⟨λb o e n hb hx=>?_,λb o e n hb hx=>?_,λb o e n hx=>?_,λb o e hx=>?_,λb xs e=>tups b xs (I.base.tups b xs e),λb o xs e=>frzs b o xs (I.base.frzs b o xs e),λb ps e=>?_⟩,?_,λx c e=>?_,?_,λx c e=>?_,λp hp=>?_,hok,I.len⟩
 ·exact keep b o (neL b o e) hb (neC b o e hx) (I.base.keep b o e n hb hx) (I.base.free b o e n hx)
 ·obtain⟨sl,e1⟩:=I.base.slot b o e n hb hx
  obtain⟨sl',e2⟩:=slot b _ (neL b o e) hb (neC b o e hx) e1 (I.base.free b o e n hx)
  exact⟨sl',e2⟩
 ·obtain⟨o',e1⟩:=I.base.there b o e hx
  exact free b o' (neC b o e hx) e1 (I.base.free b o e n hx)
 ·obtain⟨o',e1⟩:=I.base.there b o e hx
  exact there b o' (neC b o e hx) e1
 ·obtain⟨m1,e1⟩:=I.base.tbls b ps e
  obtain⟨m2,e2⟩:=tbls b _ e1
  exact⟨m1++m2,by rw[e2,tY]⟩
 ·obtain⟨m,hn,hl⟩:=I.loc
  refine⟨m,ns m hn,λi x v e1 e2 e3=>?_⟩
  obtain⟨u,r,l⟩:=hl i x v e1 e2 e3
  refine⟨u,r,?_⟩
  rcases l with l | ⟨k,c,e,z⟩
  ·exact .inl l
  ·exact .inr ⟨k,c,e,cellK x c e _ z⟩
 ·obtain⟨v,z⟩:=I.cell x c e
  exact⟨v,cellK x c e v z⟩
 ·obtain⟨m,⟨o,_,_,ho,_⟩,_⟩:=I.loc
  exact free _ o (λz=>(hch _ z).2.1 rfl) ho I.free
 ·obtain⟨v,o,ho,hd⟩:=I.cell x c e
  exact free c o (λz=>(hch c z).2.2.1 x c e rfl) ho (I.freeC x c e)
 ·obtain⟨e,n,ne,nf,d⟩:=I.pin p hp
  have nch:p.1 ∉ ch:=λz=>(hch p.1 z).2.2.2 p hp rfl
  exact⟨keep p.1 p.2 ne nf nch e n,free p.1 p.2 nch e n,ne,nf,d⟩
theorem Inv.un {t':Nat} (I:Inv X pins σ H s) (u:Un X.fs [] H H' s.heap h') (hok:HOk X.prog X.w H' h'):Inv X pins σ H' { s with heap:=h',toks:=t' }:=by
 obtain⟨m,⟨o,es,ep,ho,r⟩,_⟩:=id I.loc
 obtain⟨sl,hL⟩:=u.any ho I.free (by simp)
 exact I.step (g':=s.gens) (d':=s.drawn) (ch:=[]) (λ_ z=>nomatch z) (λb o _ hb _ e n=>u.keep b o e n hb (by simp)) (λb o _ hb _ e n=>u.slot b o e n hb (by simp)) (λb o _ e n=>u.free b o e n (by simp)) (λb o _ e=>u.there b o e (by simp)) u.tups u.frzs u.tbls (λm' hm=>by
  obtain⟨o',es',ep',ho',r'⟩:=hm
  rw[ho] at ho';cases ho'
  exact⟨_,es',ep',hL,r'⟩) hok I.bare
theorem Inv.call {g':Array GenState} {t':Nat} {d':Drawn} {ch:List Addr} (I:Inv X pins σ H s) (u:Un (frs X.stack) ch H H' s.heap h') (hok:HOk X.prog X.w H' h') (hg:AllBare g')
  (hch:∀b∈ch,(b∈X.ex\/X.s₀.heap.objs.size<=b)/\b≠X.env.locals/\(∀x c,X.env.cells.lookup x=some c->c≠b)/\∀p∈X.pn++pins,p.1≠b) :
  Inv X pins σ H' { s with heap:=h',gens:=g',drawn:=d',toks:=t' }:=by
 obtain⟨m,⟨o,es,ep,ho,r⟩,_⟩:=id I.loc
 obtain⟨sl,hL⟩:=u.any ho I.free λz=>(hch _ z).2.1 rfl
 exact I.step (ch:=ch) hch (λb o hL hb hc e n=>u.keep b o e n (λz=>(aK.mp (I.stkSub b z)).elim hL hb) hc) (λb o _ _ hc e n=>u.any e n hc) (λb o hc e n=>u.free b o e n hc) (λb o hc e=>u.there b o e hc) u.tups u.frzs u.tbls (λm' hm=>by
  obtain⟨o',es',ep',ho',r'⟩:=hm
  rw[ho] at ho';cases ho'
  exact⟨_,es',ep',hL,r'⟩) hok hg
theorem Inv.turned {t':Nat} {it:Addr} (I:Inv X pins σ H s) (k:∀b o,b≠it->s.heap.get? b=some o->h'.get? b=some o) (hn:H it=none) (hL:it≠X.env.locals)
  (h1:it∈X.ex\/X.s₀.heap.objs.size<=it) (h2:∀x c,X.env.cells.lookup x=some c->c≠it) (h3:∀p∈X.pn++pins,p.1≠it):Inv X pins σ H { s with heap:=h',toks:=t' }:=by
 have nit:∀b u,H b=some u->b≠it:=λb u e z=>by rw[z,hn] at e;cases e
 refine I.step (g':=s.gens) (d':=s.drawn) (ch:=[it]) (λb hb=>?_) (λb o _ _ hc e _=>k b o (λz=>hc (by simp[z])) e) (λb o _ _ hc e _=>⟨o.slots,k b o (λz=>hc (by simp[z])) e⟩) (λ_ _ _ _ n=>n)
  (λb o hc e=>⟨o,k b o (λz=>hc (by simp[z])) e⟩) (λ_ _ e=>e) (λ_ _ _ e=>e) (λb ps e=>⟨#[],by rw[e];simp⟩) (λm hm=>?_) (λb u e=>?_) I.bare
 ·have e:b=it:=by simpa using hb
  subst e
  exact⟨h1,hL,h2,h3⟩
 ·obtain⟨o,es,ep,ho,r⟩:=hm
  exact⟨o,es,ep,k _ o (Ne.symm hL) ho,r⟩
 ·refine (I.hok b u e).stay (λc v hc q=>k c v ?_ q) (λ_ q=>q) λ_ _ q=>q
  rcases hc with z | z
  ·rw[z];exact nit b u e
  ·exact nit c _ z
theorem Inv.tok (I:Inv X pins σ H s) (t:Nat):Inv X pins σ H { s with toks:=t }:=I.un (h':=s.heap) (t':=t) Un.refl I.hok
theorem Inv.kept {t':Nat} (I:Inv X pins σ H s) (k:∀b u,s.heap.get? b=some u->h'.get? b=some u):Inv X pins σ H { s with heap:=h',toks:=t' }:=I.un (Un.kept k) (I.hok.kept k)
theorem Inv.laid {a:Addr} {o:HO} {t':Nat} (I:Inv X pins σ H s) (k:∀b u,s.heap.get? b=some u->h'.get? b=some u) (hp:s.heap.objs.size<=a) (new:ObjOk X.prog X.w (upd H a o) h' a o) :
  Inv X pins σ (upd H a o) { s with heap:=h',toks:=t' }:=I.un (Un.laid k hp (I.hok.fresh hp)) (I.hok.laid k hp new)
theorem Inv.write {x e:Addr} {o:HO} {t':Nat} (I:Inv X pins σ H s) (mu:Mut (H x)) (he:e=x\/H e=some (.own x)) (k:∀b u,b≠e->s.heap.get? b=some u->h'.get? b=some u) (heo:∃u,h'.get? e=some u)
  (new:ObjOk X.prog X.w (upd H x o) h' x o):Inv X pins σ (upd H x o) { s with heap:=h',toks:=t' }:=I.un (Un.write mu he k heo) (I.hok.write mu he k heo new)
theorem Inv.pins_of {pins':List (Addr × Obj)} (I:Inv X pins σ H s) (h:∀p∈pins',s.heap.get? p.1=some p.2/\H p.1=none/\p.1≠X.env.locals/\p.1 ∉ X.fs/\∀v,p.2.data≠.cell v):Inv X pins' σ H s :=
 ⟨I.ok,I.os,I.bare,I.base,I.loc,I.cell,I.free,I.freeC,λp hp=>(cY.mp hp).elim (λz=>I.pin p (gK _ z)) (h p),I.hok,I.len⟩
theorem WY {N:List Str} (hN:N.Nodup) {i j:Nat} {x:Str} (a:N[i]? = some x) (b:N[j]? = some x):i=j:=by
 obtain⟨h1,e1⟩:=aX.mp a
 obtain⟨h2,e2⟩:=aX.mp b
 exact (List.getElem_inj hN).mp (e1.trans e2.symm)
theorem SF {M:Model} {A:dF} {E:aD->aG->Prop} {i:Nat} {x:Str} {v:V} {u:aD} {Q:Unit->aG->Prop} (I:Inv X pins σ H s) (hN:X.N.Nodup) (hi:X.N[i]? = some x) (hx:Loc X.env.scope x) (r:RelV v u)
  (h:∀s',Inv X pins (σ.set i (some v)) H s'->(∃a,mN a s.heap s'.heap/\(a=X.env.locals\/X.env.cells.lookup x=some a))->Q () s') (hf:X.fn x=true\/X.env.scope.names.lookup x=some .local:=by walk_at "loc"):wpAny M A (storeName X.env x u) Q E s:=by
 obtain⟨m,hn,hl⟩:=id I.loc
 have hcls:(X.env.scope.kind == .class || (X.env.scope.kind == .module && X.env.locals != X.env.globals))=false:=by rw[I.ok.kind];rfl
 have hiσ:i<σ.length:=by rw[I.len];exact (aX.mp hi).1
 have cne:=I.cne
 have tracked:∀{a:Addr} {h':Heap},(∃o,s.heap.get? a=some o/\H a=none)->mN a s.heap h'->HOk X.prog X.w H h':=λ{a h'} ha hs b ob e=>by
  obtain⟨_,_,hfree⟩:=ha
  refine (I.hok b ob e).stay (λc w' hc q=>(hs.2 c ?_).trans q) (λ_ q=>q) λ_ _ q=>q
  rintro rfl
  rcases hc with rfl | hc
  ·rw[hfree] at e;cases e
  ·rw[hfree] at hc;cases hc
 rcases hx with hk | hk
 ·refine wpAny_storeName_local hk hn (λh' hn' hs=>?_) hcls
  obtain⟨oL,_,_,hoL,_⟩:=id hn
  refine h _ ⟨I.ok,I.os,I.bare,⟨λb o e n hb hx=>?_,λb o e n hb hx=>?_,I.base.free,λb o e hx=>?_,I.base.tups,I.base.frzs,I.base.tbls⟩,⟨_,hn',λj y v' e1 e2 e3=>?_⟩,λy c e=>?_,I.free,I.freeC,λp hp=>?_,tracked ⟨oL,hoL,I.free⟩ hs,by simpa using I.len⟩ ⟨_,hs,.inl rfl⟩
  ·exact (hs.2 b (bH (bR (aU e) I.ok.above))).trans (I.base.keep b o e n hb hx)
  ·obtain⟨sl,e1⟩:=I.base.slot b o e n hb hx
   exact⟨sl,(hs.2 b (bH (bR (aU e) I.ok.above))).trans e1⟩
  ·obtain⟨o',e1⟩:=I.base.there b o e hx
   exact⟨o',(hs.2 b (bH (bR (aU e) I.ok.above))).trans e1⟩
  ·by_cases hj:j=i
   ·subst hj
    rw[hi] at e1;cases e1
    rw[iC hiσ] at e2
    cases e2
    exact⟨u,r,.inl ⟨hk,by simp⟩⟩
   ·rw[gZ (Ne.symm hj)] at e2
    obtain⟨u',r',q⟩:=hl j y v' e1 e2 e3
    refine⟨u',r',?_⟩
    rcases q with ⟨k,e⟩ | ⟨k,c,e,z⟩
    ·refine .inl ⟨k,?_⟩
     have:y≠x:=λe=>hj (WY hN e1 (e ▸ hi))
     simp[this,e]
    ·exact .inr ⟨k,c,e,z.sameBut hs (cne y c e)⟩
  ·obtain⟨w',z⟩:=I.cell y c e
   exact⟨w',z.sameBut hs (cne y c e)⟩
  ·obtain⟨e,n,ne,nf,d⟩:=I.pin p hp
   exact⟨(hs.2 p.1 ne).trans e,n,ne,nf,d⟩
 ·have hfn:X.fn x=true:=by
   rcases hf with z | z
   ·exact z
   ·rw[z] at hk;cases hk
  obtain⟨c,hc⟩:=I.ok.has x (.inl hk)
  obtain⟨w',z⟩:=I.cell x c hc
  refine wpAny_storeName_cell I.ok.kind hk hc z (λh' hc' hs=>?_)
  obtain⟨oc,hoc,hocd⟩:=id z
  refine h { s with heap:=h' } ⟨I.ok,I.os,I.bare,⟨λb o e n hb hx=>?_,λb o e n hb hx=>?_,I.base.free,λb o e hx=>?_,I.base.tups,I.base.frzs,I.base.tbls⟩,⟨m,hn.sameBut hs (Ne.symm (cne x c hc)),λj y v' e1 e2 e3=>?_⟩,λy c' e=>?_,I.free,I.freeC,λp hp=>?_,tracked ⟨oc,hoc,I.freeC x c hc⟩ hs,by simpa using I.len⟩ ⟨c,hs,.inr hc⟩
  ·exact (hs.2 b (bH (bR (aU e) (I.ok.cab x c hfn hc)))).trans (I.base.keep b o e n hb hx)
  ·obtain⟨sl,e1⟩:=I.base.slot b o e n hb hx
   exact⟨sl,(hs.2 b (bH (bR (aU e) (I.ok.cab x c hfn hc)))).trans e1⟩
  ·obtain⟨o',e1⟩:=I.base.there b o e hx
   exact⟨o',(hs.2 b (bH (bR (aU e) (I.ok.cab x c hfn hc)))).trans e1⟩
  ·by_cases hj:j=i
   ·subst hj
    rw[hi] at e1;cases e1
    rw[iC hiσ] at e2
    cases e2
    exact⟨u,r,.inr ⟨.inl hk,c,hc,hc'⟩⟩
   ·rw[gZ (Ne.symm hj)] at e2
    obtain⟨u',r',q⟩:=hl j y v' e1 e2 e3
    refine⟨u',r',?_⟩
    rcases q with q | ⟨k,c',e,z'⟩
    ·exact .inl q
    ·refine .inr ⟨k,c',e,z'.sameBut hs ?_⟩
     rintro rfl
     exact hj (WY hN e1 (I.ok.inj _ _ _ e hc ▸ hi))
  ·by_cases hcc:c'=c
   ·subst hcc;exact⟨_,hc'⟩
   ·obtain⟨w2,z2⟩:=I.cell y c' e
    exact⟨w2,z2.sameBut hs hcc⟩
  ·obtain⟨e,n,ne,nf,d⟩:=I.pin p hp
   refine⟨(hs.2 p.1 ?_).trans e,n,ne,nf,d⟩
   intro q
   rw[q,hoc] at e
   have q':oc=p.2:=dN e
   exact d w' (by rw[<-q'];exact hocd)
theorem HG {M:Model} {A:dF} {E:aD->aG->Prop} {i:Nat} {x:Str} {v:V} {u:aD} {Q:Unit->aG->Prop} (I:Inv X pins σ H s) (hN:X.N.Nodup) (hi:X.N[i]? = some x) (hx:Loc X.env.scope x) (r:RelV v u)
  (h:∀s',Inv X pins (σ.set i (some v)) H s'->Q () s') (hf:X.fn x=true\/X.env.scope.names.lookup x=some .local:=by walk_at "loc"):wpAny M A (storeName X.env x u) Q E s :=
 SF I hN hi hx r (λs' I' _=>h s' I') hf
theorem Inv.call' {s':aG} {ch:List Addr} (I:Inv X pins σ H s) (ho:s'.os=s.os) (u:Un (frs X.stack) ch H H' s.heap s'.heap) (hok:HOk X.prog X.w H' s'.heap) (hg:AllBare s'.gens)
  (hch:∀b∈ch,(b∈X.ex\/X.s₀.heap.objs.size<=b)/\b≠X.env.locals/\(∀x c,X.env.cells.lookup x=some c->c≠b)/\∀p∈X.pn++pins,p.1≠b):Inv X pins σ H' s':=by
 obtain⟨h',g',d',t',o'⟩:=s'
 have e:o'=s.os:=ho
 subst e
 exact I.call (g':=g') (t':=t') (d':=d') u hok hg hch
end
abbrev XK:=aD->Option Addr->Hp->Prop
abbrev St:=List (Option V)
abbrev VK:=V->Hp->Prop
abbrev TE:=St->Hp->VK->Prop
abbrev TT:=St->Hp->(Bool->Hp->Prop)->Prop
abbrev TA:=St->Hp->(List V->Hp->Prop)->Prop
structure Ends where
 nx:St->Hp->Prop
 rt:VK
 bk:St->Hp->Prop:=λ_ _=>False
 ct:St->Hp->Prop:=λ_ _=>False
abbrev TS:=Ends->St->Hp->Prop
def EP (X:Cx) (pins:List (Addr × Obj)) (σ:St) (Q:VK) (u:aD) (s':aG):Prop:=∃v H',Inv X pins σ H' s'/\RelV v u/\Q v H'
def TP (X:Cx) (pins:List (Addr × Obj)) (σ:St) (Q:Bool->Hp->Prop) (b:Bool) (s':aG):Prop:=∃H',Inv X pins σ H' s'/\Q b H'
def AP (X:Cx) (pins:List (Addr × Obj)) (σ:St) (Q:List V->Hp->Prop) (us:List aD) (s':aG):Prop:=∃vs H',Inv X pins σ H' s'/\Vals vs us/\Q vs H'
def SP (X:Cx) (pins:List (Addr × Obj)) (D:Ends) (f:Flow) (s':aG):Prop :=
 match f with
 | .next=>∃σ' H',Inv X pins σ' H' s'/\D.nx σ' H'
 | .brk=>∃σ' H',Inv X pins σ' H' s'/\D.bk σ' H'
 | .cont=>∃σ' H',Inv X pins σ' H' s'/\D.ct σ' H'
 | .ret u=>∃v σ' H',Inv X pins σ' H' s'/\RelV v u/\D.rt v H'
def PE (X:Cx) (e:Expr) (t:TE):Prop :=
 ∀(pins:List (Addr × Obj)) (s:aG) (σ:St) (H:Hp) (Q:VK),Inv X pins σ H s->t σ H Q->wpAny (model X.prog X.w) X.A (eval e X.env) (EP X pins σ Q) X.xe s
def PT (X:Cx) (e:Expr) (t:TT):Prop :=
 ∀(pins:List (Addr × Obj)) (s:aG) (σ:St) (H:Hp) (Q:Bool->Hp->Prop),Inv X pins σ H s->t σ H Q->wpAny (model X.prog X.w) X.A (isTrue e X.env (eval e X.env)) (TP X pins σ Q) X.xe s
def PW (X:Cx) (e:Expr) (t:TT):Prop :=
 ∀(whole:Sem aD) (pins:List (Addr × Obj)) (s:aG) (σ:St) (H:Hp) (Q:Bool->Hp->Prop),Inv X pins σ H s->t σ H Q->wpAny (model X.prog X.w) X.A (isTrue e X.env whole) (TP X pins σ Q) X.xe s
theorem PW.pt {X:Cx} {e:Expr} {t:TT} (h:PW X e t):PT X e t:=h _
def PA (X:Cx) (es:List Expr) (t:TA):Prop :=
 ∀(pos:Pos) (pins:List (Addr × Obj)) (s:aG) (σ:St) (H:Hp) (Q:List V->Hp->Prop),Inv X pins σ H s->t σ H Q->wpAny (model X.prog X.w) X.A (spliced (backTo pos (starEach es X.env))) (AP X pins σ Q) X.xe s
def PS (X:Cx) (st:Stmt) (t:TS):Prop :=
 ∀(pins:List (Addr × Obj)) (s:aG) (σ:St) (H:Hp) (D:Ends),Inv X pins σ H s->t D σ H->wpAny (model X.prog X.w) X.A (exec st X.env) (SP X pins D) X.xe s
def PSs (X:Cx) (st:List Stmt) (t:TS):Prop :=
 ∀(pins:List (Addr × Obj)) (s:aG) (σ:St) (H:Hp) (D:Ends),Inv X pins σ H s->t D σ H->wpAny (model X.prog X.w) X.A (execs st X.env) (SP X pins D) X.xe s
theorem thn {α:Type} {t:Sem α} {Q Q':α->aG->Prop} {M:Model} {A:dF} {E:aD->aG->Prop} {s:aG} (h:wpAny M A t Q E s) (hQ:∀a s,Q a s->Q' a s):wpAny M A t Q' E s:=jL h hQ λ_ _ x=>x
section
variable {X:Cx}
def Xo (i:Nat):TE:=λσ H Q=>∃v,σ[i]? = some (some v)/\Q v H
def tC (v:V):TE:=λ_ H Q=>Q v H
theorem Tp {i:Nat} {x:Str} {pos:Pos} (hN:X.N[i]? = some x) (hv:Vis X.env.scope x) (hd:(x == ("__debug__":Str))=false:=by decide) (hcd:(x == ("__classdict__":Str))=false:=by decide):PE X (.Name x pos) (Xo i):=by
 intro pins s σ H Q I h
 obtain⟨v,e,h⟩:=h
 obtain⟨m,hn,hl⟩:=I.loc
 obtain⟨u,r,l⟩:=hl i x v hN e hv
 have fin:EP X pins σ Q u s:=⟨v,H,I,r,h⟩
 rcases l with ⟨hk,hm⟩ | ⟨hk,c,hc,hcell⟩
 ·exact OO (wpAny_loadName_local I.ok.kind hk hn hm fin) hd
 ·rcases hk with hk | hk
  ·exact OO (wpAny_loadName_cell I.ok.kind hk hc hcell fin) hd
  ·exact OO (wpAny_loadName_free I.ok.kind hk hc hcell fin hcd) hd
theorem An {i j pos}:PE X (.Constant (.int i) j pos) (tC (.int i)):=λ_ _ _ H _ I h=>wpAny_Constant_int ⟨.int i,H,I.tok _,⟨_,rfl⟩,h⟩
theorem Wg {b j pos}:PE X (.Constant (.bool b) j pos) (tC (.bl b)):=λ_ _ _ H _ I h=>Constant_bool ⟨.bl b,H,I,rfl,h⟩
theorem Tm {j pos}:PE X (.Constant .none j pos) (tC .non):=λ_ _ _ H _ I h=>Constant_none ⟨.non,H,I,rfl,h⟩
def Gl (X:Cx) (x:Str):Prop:=X.env.kindOf x=some .globalImplicit
theorem Oe {E:aD->aG->Prop} {pins:List (Addr × Obj)} {s:aG} {σ:St} {H:Hp} {x:Str} {u:aD} {pos:Pos} {Q:aD->aG->Prop} (I:Inv X pins σ H s) (hg:Gl X x) (hm:X.mg x=some u) (h:Q u s)
  (hd:(x == ("__debug__":Str))=false:=by decide):wpAny (model X.prog X.w) X.A (eval (.Name x pos) X.env) Q E s :=
 uA I.ok.kind hg (Calls.loadGlobal_global (by rw[I.ok.glob];exact I.mod.glob.keeps I.bk) hm h) hd
theorem vQ {E:aD->aG->Prop} {pins:List (Addr × Obj)} {s:aG} {σ:St} {H:Hp} {x:Str} {u:aD} {pos:Pos} {Q:aD->aG->Prop} (I:Inv X pins σ H s) (hg:Gl X x) (hm:X.mg x=none) (hv:bootBuiltins x=some u) (h:Q u s)
  (hn:x≠"__name__":=by decide) (hd:(x == ("__debug__":Str))=false:=by decide):wpAny (model X.prog X.w) X.A (eval (.Name x pos) X.env) Q E s:=by
 obtain⟨mb,h1,h2⟩:=I.mod.blt
 exact uA I.ok.kind hg (Calls.loadGlobal_builtin (by rw[I.ok.glob];exact I.mod.glob.keeps I.bk) hm (by rw[I.ok.blt];exact h1.keeps I.bk) ((h2 x hn).trans hv) h) hd
theorem Pf {x:Str} {v:V} {u:aD} {pos:Pos} (hg:Gl X x) (hm:X.mg x=none) (hv:bootBuiltins x=some u) (r:RelV v u) (hn:x≠"__name__":=by decide) (hd:(x == ("__debug__":Str))=false:=by decide):PE X (.Name x pos) (tC v) :=
 λ_ _ _ H _ I h=>vQ I hg hm hv ⟨v,H,I,r,h⟩ hn hd
variable {a b:Expr} {ta tb:TE} {pos:Pos}
def tB (t:TE):TT:=λσ H Q=>t σ H λx H1=>∃c,x = .bl c/\Q c H1
theorem Tw {e:Expr} {t:TE} (h:PE X e t) (he:∀whole,isTrue e X.env whole=(do let v <-whole;standAt e.pos;holding [v] (truthy v)):=by intro _;rfl):PT X e (tB t):=by
 intro pins s σ H Q I hw
 refine isTrue_plain (thn (h pins s σ H _ I hw) λv s1 ⟨x,H1,I1,r1,q1⟩=>?_) (he _)
 obtain⟨d,rfl,q⟩:=q1
 cases r1
 exact jY ⟨H1,I1,q⟩
variable {tA tB':TT} {rest:List Expr}
def Zb (t u:TT):TT:=λσ H Q=>t σ H λc H1=>if c=true then u σ H1 Q else Q false H1
def tOr (t u:TT):TT:=λσ H Q=>t σ H λc H1=>if c=true then Q true H1 else u σ H1 Q
def Zh (t:TT):TT:=λσ H Q=>t σ H λc H1=>Q (!c) H1
theorem Ps (ha:PT X a tA):PW X (.BoolOp .And [a] pos) tA:=by
 intro wh pins s σ H Q I h
 refine isTrue_and (thn (ha pins s σ H Q I h) λc s1 e=>?_)
 cases c with
 | true=>exact isTrue_and_nil e
 | false=>exact e
theorem Tz (ha:PT X a tA):PW X (.BoolOp .Or [a] pos) tA:=by
 intro wh pins s σ H Q I h
 refine isTrue_or (thn (ha pins s σ H Q I h) λc s1 e=>?_)
 cases c with
 | false=>exact isTrue_or_nil e
 | true=>exact e
theorem Ty (ha:PT X a tA) (hb:PW X (.BoolOp .And (b::rest) pos) tB'):PW X (.BoolOp .And (a::b::rest) pos) (Zb tA tB'):=by
 intro wh pins s σ H Q I h
 refine isTrue_and (thn (ha pins s σ H _ I h) λc s1 ⟨H1,I1,q1⟩=>?_)
 cases c with
 | true=>exact hb wh pins s1 σ H1 Q I1 q1
 | false=>exact⟨H1,I1,q1⟩
theorem Wo (ha:PT X a tA) (hb:PW X (.BoolOp .Or (b::rest) pos) tB'):PW X (.BoolOp .Or (a::b::rest) pos) (tOr tA tB'):=by
 intro wh pins s σ H Q I h
 refine isTrue_or (thn (ha pins s σ H _ I h) λc s1 ⟨H1,I1,q1⟩=>?_)
 cases c with
 | true=>exact⟨H1,I1,q1⟩
 | false=>exact hb wh pins s1 σ H1 Q I1 q1
theorem Tv (ha:PT X a tA):PT X (.UnaryOp .Not a pos) (Zh tA):=by
 intro pins s σ H Q I h
 exact isTrue_not (ha pins s σ H (λc H1=>Q (!c) H1) I h)
def Xf (ta tb:TE):TE:=λσ H Q=>ta σ H λx H1=>∃c,x = .bl c/\if c=true then tb σ H1 Q else Q (.bl false) H1
def Zi (ta tb:TE):TE:=λσ H Q=>ta σ H λx H1=>∃c,x = .bl c/\if c=true then Q (.bl true) H1 else tb σ H1 Q
def Xl (ta:TE):TE:=λσ H Q=>ta σ H λx H1=>∃c,x = .bl c/\Q (.bl (!c)) H1
theorem To {op} {t:TE} (h:PE X a t):PE X (.BoolOp op [a] pos) t:=λpins s σ H Q I hw=>BoolOp_one (h pins s σ H Q I hw)
theorem Tk (ha:PE X a ta) (hb:PE X (.BoolOp .And (b::rest) pos) tb):PE X (.BoolOp .And (a::b::rest) pos) (Xf ta tb):=by
 intro pins s σ H Q I h
 refine BoolOp_and (thn (ha pins s σ H _ I h) λv s1 ⟨x,H1,I1,r1,q1⟩=>?_)
 obtain⟨c,rfl,q1⟩:=q1
 cases r1
 refine jY ?_
 cases c with
 | true=>exact hb pins s1 σ H1 Q I1 q1
 | false=>exact⟨.bl false,H1,I1,rfl,q1⟩
theorem Wi (ha:PE X a ta) (hb:PE X (.BoolOp .Or (b::rest) pos) tb):PE X (.BoolOp .Or (a::b::rest) pos) (Zi ta tb):=by
 intro pins s σ H Q I h
 refine BoolOp_or (thn (ha pins s σ H _ I h) λv s1 ⟨x,H1,I1,r1,q1⟩=>?_)
 obtain⟨c,rfl,q1⟩:=q1
 cases r1
 refine jY ?_
 cases c with
 | false=>exact hb pins s1 σ H1 Q I1 q1
 | true=>exact⟨.bl true,H1,I1,rfl,q1⟩
theorem Tn (ha:PE X a ta):PE X (.UnaryOp .Not a pos) (Xl ta):=by
 intro pins s σ H Q I h
 refine UnaryOp_ (thn (ha pins s σ H _ I h) λv s1 ⟨x,H1,I1,r1,q1⟩=>?_)
 obtain⟨c,rfl,q1⟩:=q1
 cases r1
 exact not_of (jY ⟨.bl (!c),H1,I1,rfl,q1⟩)
end
def SqL (K:aH) (H:Hp) (a:Addr) (xs:List V):Prop :=
 Rd H a (.lst xs) \/
  ∃(o:Obj) (its:Array aD) (n:Nat),K.lookup a=some o/\o.cls = .type "list"/\o.dict=none/\o.data = .seq its n/\its.size<=sizeLine/\Vals xs its.toList
def SqT (K:aH) (H:Hp) (a:Addr) (xs:List V):Prop :=
 Rd H a (.tup xs) \/
  ∃(o:Obj) (its:Array aD) (n:Nat),K.lookup a=some o/\o.cls = .type "tuple"/\o.data = .seq its n/\its.size<=sizeLine/\Vals xs its.toList
def Xv:aD->Option V
 | .none=>some .non
 | .bool b=>some (.bl b)
 | .int i _=>some (.int i)
 | .str x _=>some (.str x)
 | .bytes b _=>some (.byt b)
 | .float b _=>some (.flt b)
 | .ref a=>some (.ref a)
 | .type n=>some (.ty n)
 | _=>none
theorem RelV.abs {x:V} {u:aD} (r:RelV x u):Xv u=some x:=by
 cases x with
 | non=>cases r;rfl
 | bl _=>cases r;rfl
 | int _=>obtain⟨t,rfl⟩:=r;rfl
 | str _=>obtain⟨t,rfl⟩:=r;rfl
 | byt _=>obtain⟨t,rfl⟩:=r;rfl
 | flt _=>obtain⟨t,rfl⟩:=r;rfl
 | ref _=>cases r;rfl
 | ty _=>cases r;rfl
theorem RelV.inj {x y:V} {u:aD} (r:RelV x u) (q:RelV y u):x=y:=dN (r.abs.symm.trans q.abs)
theorem Vals.inj:∀{xs ys:List V} {us:List aD},Vals xs us->Vals ys us->xs=ys
 | _,_,_,.nil,.nil=>rfl
 | _,_,_,.cons r t,.cons r' t'=>by rw[r.inj r',Vals.inj t t']
section
variable {X:Cx} {pins:List (Addr × Obj)} {σ:St} {H:Hp} {s:aG} {a:Addr} {xs ys:List V}
theorem SqL.of {K:aH} (h:H a=some (.lst xs)):SqL K H a xs:=.inl (.inl h)
theorem SqT.of {K:aH} (h:H a=some (.tup xs)):SqT K H a xs:=.inl (.inl h)
theorem Inv.list (I:Inv X pins σ H s) (h:SqL X.K H a xs):∃its:List aD,Vals xs its/\PlainL s.heap a its.toArray/\xs.length<=sizeLine:=by
 rcases h with h | ⟨o,its,n,hk,hc,hd,hs,hz,r⟩
 ·obtain⟨z,its,n,r,e⟩:=h.ok I.hok
  exact⟨its,r,⟨_,n,e,rfl,rfl,rfl⟩,z⟩
 ·refine⟨its.toList,r,⟨o,n,I.kIn a o hk,hc,hd,by simpa using hs⟩,?_⟩
  have e:=r.length
  simp only[cM] at e
  lia
theorem Inv.tuple (I:Inv X pins σ H s) (h:SqT X.K H a xs):∃its:List aD,Vals xs its/\IsTup s.heap a its.toArray/\xs.length<=sizeLine:=by
 rcases h with h | ⟨o,its,n,hk,hc,hs,hz,r⟩
 ·obtain⟨z,its,r,p⟩:=h.ok I.hok
  exact⟨its,r,p,z⟩
 ·refine⟨its.toList,r,⟨o,I.kIn a o hk,hc,n,by simpa using hs⟩,?_⟩
  have e:=r.length
  simp only[cM] at e
  lia
theorem Inv.list_inj (I:Inv X pins σ H s) (h:SqL X.K H a xs) (h':SqL X.K H a ys):xs=ys:=by
 obtain⟨its,r,⟨o,n,e,_,_,d⟩,_⟩:=I.list h
 obtain⟨its',r',⟨o',n',e',_,_,d'⟩,_⟩:=I.list h'
 rw[e] at e';cases e'
 rw[d] at d'
 injection d' with d1 _
 have:its=its':=by simpa using congrArg EW d1
 subst this
 exact r.inj r'
theorem Inv.tuple_inj (I:Inv X pins σ H s) (h:SqT X.K H a xs) (h':SqT X.K H a ys):xs=ys:=by
 obtain⟨its,r,⟨o,e,_,n,d⟩,_⟩:=I.tuple h
 obtain⟨its',r',⟨o',e',_,n',d'⟩,_⟩:=I.tuple h'
 rw[e] at e';cases e'
 rw[d] at d'
 injection d' with d1 _
 have:its=its':=by simpa using congrArg EW d1
 subst this
 exact r.inj r'
end
abbrev Cx.wish (X:Cx) (E:aD->aG->Prop):Cx:={ X with xe:=E }
abbrev Cx.nox (X:Cx):Cx:=X.wish λ_ _=>False
theorem Cx.Ok.wish {X:Cx} (ok:X.Ok) (E:aD->aG->Prop):(X.wish E).Ok :=
 ⟨ok.mod,ok.kind,ok.glob,ok.blt,ok.above,ok.inj,ok.has,ok.cab,ok.hd,ok.frames,ok.stk,ok.exf,ok.bs,ok.bsz,ok.noex,ok.exfs,ok.funs,ok.frf⟩
theorem Cx.Ok.unwish {X:Cx} {E:aD->aG->Prop} (ok:(X.wish E).Ok):X.Ok :=
 ⟨ok.mod,ok.kind,ok.glob,ok.blt,ok.above,ok.inj,ok.has,ok.cab,ok.hd,ok.frames,ok.stk,ok.exf,ok.bs,ok.bsz,ok.noex,ok.exfs,ok.funs,ok.frf⟩
section
variable {X:Cx} {pins:List (Addr × Obj)} {σ:St} {H:Hp} {s:aG} {E:aD->aG->Prop}
theorem Inv.wish (I:Inv X pins σ H s) (E:aD->aG->Prop):Inv (X.wish E) pins σ H s:=⟨I.ok.wish E,I.os,I.bare,I.base,I.loc,I.cell,I.free,I.freeC,I.pin,I.hok,I.len⟩
theorem Inv.unwish (I:Inv (X.wish E) pins σ H s):Inv X pins σ H s:=⟨I.ok.unwish,I.os,I.bare,I.base,I.loc,I.cell,I.free,I.freeC,I.pin,I.hok,I.len⟩
theorem SP.unwish {D:Ends} {f:Flow} {s':aG} (h:SP (X.wish E) pins D f s'):SP X pins D f s':=by
 cases f with
 | next=>obtain⟨σ',H',I,q⟩:=h;exact⟨σ',H',I.unwish,q⟩
 | brk=>obtain⟨σ',H',I,q⟩:=h;exact⟨σ',H',I.unwish,q⟩
 | cont=>obtain⟨σ',H',I,q⟩:=h;exact⟨σ',H',I.unwish,q⟩
 | ret u=>obtain⟨v,σ',H',I,r,q⟩:=h;exact⟨v,σ',H',I.unwish,r,q⟩
theorem PSs.nox {st:List Stmt} {t:TS} (h:PSs X.nox st t):PSs X st t:=λpins s σ H D I hw =>
 jL (h pins s σ H D (I.wish _) hw) (λ_ _ q=>q.unwish) λ_ _ z=>mM z
end
section
variable {X:Cx} {st:Stmt} {rest:List Stmt} {t u:TS} {e:Expr} {te:TE} {pos:Pos}
def Xk:TS:=λD σ H=>D.nx σ H
def Zl (t u:TS):TS:=λD σ H=>t { D with nx:=u D } σ H
theorem Pp:PSs X [] Xk:=λ_ _ σ H _ I h=>sT ⟨σ,H,I,h⟩
theorem NS (h1:PS X st t) (h2:PSs X rest u):PSs X (st::rest) (Zl t u):=by
 intro pins s σ H D I h
 refine wX (thn (h1 pins s σ H { D with nx:=u D } I h) λf s1 q=>?_)
 cases f with
 | next =>
  obtain⟨σ',H',I',q⟩:=q
  exact h2 pins s1 σ' H' D I' q
 | ret v=>exact q
 | brk=>exact q
 | cont=>exact q
theorem Ds (h1:PS X st t):PSs X [st] t:=by
 intro pins s σ H D I h
 refine wX (thn (h1 pins s σ H D I h) λf s1 q=>?_)
 cases f with
 | next=>exact sT q
 | ret v=>exact q
 | brk=>exact q
 | cont=>exact q
theorem Inv.quiet {pins:List (Addr × Obj)} {σ:St} {H:Hp} {s:aG} (I:Inv X pins σ H s):interactive X.env=false:=by simp[interactive,I.ok.kind]
def Xj (te:TE):TS:=λD σ H=>te σ H λ_ H1=>D.nx σ H1
theorem UI (he:PE X e te) (hs:swapsWith e none pos.line X.env=pure false:=by rfl):PS X (.Expr e pos) (Xj te):=by
 intro pins s σ H D I h
 exact wpAny_Expr_any (thn (he pins s σ H _ I h) λv s1 ⟨x,H1,I1,r1,q1⟩=>⟨σ,H1,I1,q1⟩) I.quiet hs
def Zk (te:TE):TS:=λD σ H=>te σ H D.rt
theorem Li (he:PE X e te):PS X (.Return (some e) pos) (Zk te):=by
 intro pins s σ H D I h
 exact wpAny_Return_some (thn (he pins s σ H _ I h) λv s1 ⟨x,H1,I1,r1,q1⟩=>⟨x,σ,H1,I1,r1,q1⟩)
def Ze (c:TT) (t u:TS):TS:=λD σ H=>c σ H λb H1=>if b=true then t D σ H1 else u D σ H1
theorem Wl {c:Expr} {a b:List Stmt} {tc:TT} (hc:PT X c tc) (ha:PSs X a t) (hb:PSs X b u):PS X (.If c a b pos) (Ze tc t u):=by
 intro pins s σ H D I h
 refine wpAny_If (thn (hc pins s σ H _ I h) λd s1 ⟨H1,I1,q1⟩=>?_)
 cases d with
 | true=>exact ha pins s1 σ H1 D I1 q1
 | false=>exact hb pins s1 σ H1 D I1 q1
def Uq:TS:=λ_ _ _=>False
theorem Lh:PS X st Uq:=λ_ _ _ _ _ _ h=>h.elim
end
abbrev TG:=V->St->Hp->(St->Hp->Prop)->Prop
abbrev TGs:=List V->St->Hp->(St->Hp->Prop)->Prop
def PG (X:Cx) (target:Expr) (t:TG):Prop :=
 ∀(pins:List (Addr × Obj)) (s:aG) (σ:St) (H:Hp) (v:V) (u:aD) (Q:St->Hp->Prop),Inv X pins σ H s->RelV v u->t v σ H Q ->
  wpAny (model X.prog X.w) X.A (assign target X.env u) (λ_ s'=>∃σ' H',Inv X pins σ' H' s'/\Q σ' H') X.xe s
def PGs (X:Cx) (ts:List Expr) (t:TGs):Prop :=
 ∀(pins:List (Addr × Obj)) (s:aG) (σ:St) (H:Hp) (vs:List V) (us:List aD) (Q:St->Hp->Prop),Inv X pins σ H s->Vals vs us->t vs σ H Q ->
  wpAny (model X.prog X.w) X.A (assignInOrder ((assignEach ts X.env).map (·.2)) us) (λ_ s'=>∃σ' H',Inv X pins σ' H' s'/\Q σ' H') X.xe s
section
variable {X:Cx} {pos:Pos}
def Ri (i:Nat):TG:=λv σ H Q=>Q (σ.set i (some v)) H
theorem Ph {i:Nat} {x:Str} (hN:X.N.Nodup) (hi:X.N[i]? = some x) (hx:Loc X.env.scope x) (hf:X.fn x=true\/X.env.scope.names.lookup x=some .local:=by walk_at "loc"):PG X (.Name x pos) (Ri i):=by
 intro pins s σ H v u Q I r h
 exact HI (HG I hN hi hx r (λs' I'=>⟨_,H,I',h⟩) hf)
def Xz:TGs:=λvs σ H Q=>vs=[]/\Q σ H
def Vn (t:TG) (u:TGs):TGs:=λvs σ H Q=>∃v r,vs=v::r/\t v σ H λσ' H'=>u r σ' H' Q
theorem Pj:PGs X [] Xz:=by
 intro pins s σ H vs us Q I r h
 obtain⟨e,h⟩:=h
 subst e
 cases r
 exact FZ ⟨σ,H,I,h⟩
theorem Lf {e:Expr} {es:List Expr} {t:TG} {u:TGs} (h1:PG X e t) (h2:PGs X es u)
  (hs:(assignEach (e::es) X.env).map (·.2)=assign e X.env::(assignEach es X.env).map (·.2):=by rfl):PGs X (e::es) (Vn t u):=by
 intro pins s σ H vs us Q I r h
 obtain⟨v,vr,e1,h⟩:=h
 subst e1
 cases r with
 | cons r rr =>
  rw[hs]
  refine uK (thn (h1 pins s σ H _ _ _ I r h) λ_ s1 ⟨σ1,H1,I1,q1⟩=>?_)
  exact h2 pins s1 σ1 H1 _ _ Q I1 rr q1
def Ya (K:aH) (n:Nat) (t:TGs):TG:=λv σ H Q=>∃a xs,v = .ref a/\SqT K H a xs/\xs.length=n/\t xs σ H Q
theorem Tq {es:List Expr} {k:Nat} {t:TGs} {n:Nat} (hc:X.calm=true) (h:PGs X es t)
  (hn:(assignEach es X.env).length=n:=by rfl) (hst:(assignEach es X.env).findIdx? (·.1)=none:=by rfl):PG X (.Tuple es k pos) (Ya X.K n t):=by
 intro pins s σ H v u Q I r hw
 obtain⟨a,xs,e1,hq,hl,hw⟩:=hw
 subst e1
 cases r
 obtain⟨its,rv,ht,hz⟩:=I.tuple hq
 refine assign_Tuple_tuple (I.ok.hd hc) ht (by simp[hn,<-hl,rv.length]) hst λh' hx=>?_
 have I1:Inv X pins σ H { s with heap:=h' }:=I.kept (t':=s.toks) λb o e=>hx b o (bH (aU e)) e
 exact h pins _ σ H xs _ Q I1 (by simpa using rv) hw
def Xg (te:TE) (g:TG):TS:=λD σ H=>te σ H λx H1=>g x σ H1 D.nx
theorem Ts {tg e:Expr} {te:TE} {g:TG} (he:PE X e te) (hg:PG X tg g) (hs:swapsWithSole [tg] e pos.line X.env=pure false:=by rfl) (hw:swappedStores [tg] e X.env=pure none:=by rfl)
  (h1:(assignEach [tg] X.env).map (·.2)=[assign tg X.env]:=by rfl):PS X (.Assign [tg] e pos) (Xg te g):=by
 intro pins s σ H D I h
 refine wpAny_Assign_stores (thn (he pins s σ H _ I h) λv s1 ⟨x,H1,I1,r1,q1⟩=>?_) hs hw
 rw[h1]
 exact thn (hg pins s1 σ H1 x v _ I1 r1 q1) λ_ s2 q=>q
theorem Ap {i:Nat} {x:Str} {e:Expr} {te:TE} {pos':Pos} (hN:X.N.Nodup) (hi:X.N[i]? = some x) (hx:Loc X.env.scope x) (he:PE X e te) (hs:swapsWith e (some (.Name x pos')) pos.line X.env=pure false:=by rfl) (hf:X.fn x=true\/X.env.scope.names.lookup x=some .local:=by walk_at "loc") :
  PS X (.Assign [.Name x pos'] e pos) (Xg te (Ri i)):=by
 intro pins s σ H D I h
 refine wpAny_Assign_Name (thn (he pins s σ H _ I h) λv s1 ⟨y,H1,I1,r1,q1⟩=>?_) hs
 exact HG I1 hN hi hx r1 (λs2 I2=>⟨_,H1,I2,q1⟩) hf
def Zj (i j:Nat) (ta:TA):TS:=λD σ H=>ta σ H λvs H1=>∃v w,vs=[v,w]/\D.nx ((σ.set i (some v)).set j (some w)) H1
theorem Tu {i j:Nat} {x y:Str} {a b:Expr} {ta:TA} {px py pt:Pos} {kt k2 pt2} (hc:X.calm=true) (hN:X.N.Nodup) (hi:X.N[i]? = some x) (hj:X.N[j]? = some y) (hij:i≠j)
  (hx:X.env.scope.names.lookup x=some .local) (hy:X.env.scope.names.lookup y=some .local) (ha:PA X [a,b] ta)
  (hw:swappedStores [.Tuple [.Name x px,.Name y py] kt pt] (.Tuple [a,b] k2 pt2) X.env=pure (some [x,y]))
  (hs:swapsWithSole [.Tuple [.Name x px,.Name y py] kt pt] (.Tuple [a,b] k2 pt2) pos.line X.env=pure false:=by rfl) :
  PS X (.Assign [.Tuple [.Name x px,.Name y py] kt pt] (.Tuple [a,b] k2 pt2) pos) (Zj i j ta):=by
 intro pins s σ H D I h
 rw[exec_Assign_arm]
 refine aA (DK ?_)
 rw[hs]
 refine aA (aI ?_)
 rw[if_neg (by decide)]
 refine aA (Tuple_ (thn (ha _ pins s σ H _ I h) λus s1 ⟨vs,H1,I1,r1,q1⟩=>?_))
 obtain⟨v,w,e1,q1⟩:=q1
 subst e1
 obtain⟨u1,u2,rfl,rv,rw'⟩:∃u1 u2,us=[u1,u2]/\RelV v u1/\RelV w u2:=by
  cases r1 with
  | cons p q =>
   cases q with
   | cons p' q' =>
    cases q'
    exact⟨_,_,rfl,p,p'⟩
 refine fE ?_ (by show 2<=sizeLine;decide)
 have I2:Inv X pins σ H1 { s1 with heap:=s1.heap.push { cls:=.type "tuple",data:=.seq [u1,u2].toArray } }:=I1.kept (t':=s1.toks) λb o e=>aN _ e
 rw[hw]
 refine aA (aI ?_)
 show wpAny (model X.prog X.w) X.A (do rule "assign.swapped-stores";let items <-unpackItems (.ref s1.heap.objs.size) 2 none;assignInOrder [λv=>bindName X.env y v,λv=>bindName X.env x v] items.reverse;pure Flow.next) _ _ _
 refine aA (uR (aA (unpackItems_tuple (items:=#[u1,u2]) (I.ok.hd hc) (HM s1.heap _) λh' hx'=>?_)))
 have I3:=I2.kept (h':=h') (t':=s1.toks) λb o e=>hx' b o (bH (aU e)) e
 show wpAny _ _ (assignInOrder [λv=>bindName X.env y v,λv=>bindName X.env x v] [u2,u1] >>= λ_=>pure Flow.next) _ _ _
 refine aA (uK (OP (HG I3 hN hj (.inl hy) rw' (λs2 I4=>?_) (.inr hy))))
 refine uK (OP (HG I4 hN hi (.inl hx) rv (λs3 I5=>FZ (aI ?_)) (.inr hx)))
 rw[List.set_comm _ _ (Ne.symm hij)] at I5
 exact⟨_,H1,I5,q1⟩
end
section
variable {X:Cx} {pos:Pos}
def Ur (c:TT) (tb:TS):TS:=λD σ H=>∃W:Nat->St->Hp->Prop,(∃m,W m σ H)/\∀m σ H,W m σ H ->
 c σ H λb H1=>if b=true then ∃N:St->Hp->Prop,(∀σ' H',N σ' H'->∃m',m'<m/\W m' σ' H')/\tb { D with nx:=N,ct:=N,bk:=D.nx } σ H1 else D.nx σ H1
theorem Lj {c:Expr} {body:List Stmt} {tc:TT} {tb:TS} (hp:PassesOwn (model X.prog X.w) X.A X.env X.xe) (hc:PT X c tc) (hb:PSs X body tb):PS X (.While c body [] pos) (Ur tc tb):=by
 intro pins s σ H D I h
 obtain⟨W,⟨m0,w0⟩,turn⟩:=h
 refine wpAny_While (codeAny_whileLoop (λn s'=>∃σ' H',Inv X pins σ' H' s'/\W n σ' H') ?_ m0 ⟨σ,H,I,w0⟩)
 rintro n s1 ⟨σ1,H1,I1,w1⟩
 refine lH hp (thn (hc pins s1 σ1 H1 _ I1 (turn n σ1 H1 w1)) λb s2 ⟨H2,I2,q2⟩=>?_)
 cases b with
 | true =>
  obtain⟨N,hN,q2⟩:=q2
  rw[if_pos rfl]
  refine lH hp (thn (hb pins s2 σ1 H2 _ I2 q2) λf s3 q3=>?_)
  cases f with
  | next =>
   obtain⟨σ3,H3,I3,n3⟩:=q3
   obtain⟨m',hm,w3⟩:=hN σ3 H3 n3
   exact⟨m',hm,σ3,H3,I3,w3⟩
  | cont =>
   obtain⟨σ3,H3,I3,n3⟩:=q3
   obtain⟨m',hm,w3⟩:=hN σ3 H3 n3
   exact⟨m',hm,σ3,H3,I3,w3⟩
  | brk=>exact q3
  | ret v=>exact q3
 | false =>
  rw[if_neg cJ]
  exact sT ⟨σ1,H2,I2,q2⟩
end
structure It where
 go:Nat->Hp->Prop
 yld:Nat->Hp->V->Hp->Prop
 stop:Nat->Hp->Prop
def OU (X:Cx) (pins:List (Addr × Obj)) (H:Hp) (b:Addr):Prop :=
 H b=none/\b≠X.env.locals/\b ∉ X.fs/\(b∈X.ex\/X.s₀.heap.objs.size<=b)/\(∀x c,X.env.cells.lookup x=some c->c≠b)/\∀p∈X.pn++pins,p.1≠b
theorem Inv.fpOk {X:Cx} {pins:List (Addr × Obj)} {σ:St} {H H':Hp} {s:aG} {b:Addr} (I:Inv X pins σ H s) (hb:s.heap.objs.size<=b) (hn:H' b=none):OU X pins H' b:=by
 refine⟨hn,eB (bR I.lt hb),I.nofs hb,.inr (fO I.sz hb),λx c e z=>?_,λp hp z=>?_⟩
 ·obtain⟨v,q⟩:=I.cell x c e
  exact absurd (bR q.lt (by rw[z];exact hb)) (hV _)
 ·exact absurd (bR (aU (I.pin p hp).1) (by rw[z];exact hb)) (hV _)
structure Turn (P:bV) (w:dE) (K:aH) (tg:Expr) (J:It) (fp:List Addr) (it:Addr) (tn:Nat->Heap->Prop):Prop where
 mem:it∈fp
 obj:∀i h,tn i h->∀b∈fp,∃o,h.get? b=some o/\∀v,o.data≠.cell v
 keep:∀i h h',tn i h->(∀b∈fp,∀o,h.get? b=some o->h'.get? b=some o)->tn i h'
 item:∀(X:Cx),X.prog=P->X.w=w->X.K=K->X.calm=true->∀(i:Nat) (pins:List (Addr × Obj)) (s:aG) (σ:St) (H:Hp) (E:aD->aG->Prop),Inv X pins σ H s->(∀b∈fp,OU X pins H b)->tn i s.heap->J.go i H ->
  wpAny (model P w) X.A (pyNext (.ref it)) (λr s1=>∃u,r=some u /\
   wpAny (model P w) X.A (letOwnedTupleGo tg (.ref it) u) (λ_ s2=>∃x H',Inv X pins σ H' s2/\RelV x u/\J.yld i H x H'/\tn (i+1) s2.heap/\∀b∈fp,H' b=none) E s1) E s
 done:∀(X:Cx),X.prog=P->X.w=w->X.K=K->X.calm=true->∀(i:Nat) (pins:List (Addr × Obj)) (s:aG) (σ:St) (H:Hp) (E:aD->aG->Prop),Inv X pins σ H s->(∀b∈fp,OU X pins H b)->tn i s.heap->J.stop i H ->
  wpAny (model P w) X.A (pyNext (.ref it)) (λr s1=>r=none/\Inv X pins σ H s1) E s
 self:∀(A:dF) (i:Nat) (s:aG) (Q:aD->aG->Prop) (E:aD->aG->Prop),tn i s.heap->Q (.ref it) s->wpAny (model P w) A (pyIter (.ref it)) Q E s
abbrev TI:=St->Hp->(It->Hp->Prop)->Prop
def PIE (X:Cx) (pins:List (Addr × Obj)) (σ:St) (tg:Expr) (R:It->Hp->Prop) (itv:aD) (s2:aG):Prop :=
 ∃(it:Addr) (fp:List Addr) (tn:Nat->Heap->Prop) (J:It) (H':Hp),itv = .ref it/\Inv X pins σ H' s2/\Turn X.prog X.w X.K tg J fp it tn/\tn 0 s2.heap/\(∀b∈fp,OU X pins H' b)/\R J H'
def PI (X:Cx) (tg iter:Expr) (wi:TI):Prop :=
 ∀(pins:List (Addr × Obj)) (s:aG) (σ:St) (H:Hp) (R:It->Hp->Prop),Inv X pins σ H s->wi σ H R ->
  wpAny (model X.prog X.w) X.A (eval iter X.env) (λv s1=>wpAny (model X.prog X.w) X.A (pyIter v) (PIE X pins σ tg R) X.xe s1) X.xe s
theorem Ju {M:Model} {A:dF} {E:aD->aG->Prop} {s:aG} {tg:Expr} {it:Addr} {u:aD} {o:Obj} {n:String} {vs:Array aD} {Q:Unit->aG->Prop} (ho:s.heap.get? it=some o) (hc:o.cls = .type n) (hd:o.data = .fields vs)
  (hn:["enumerate","zip","dict_itemiterator","dict_reverseitemiterator","odict_iterator","itertools.zip_longest","itertools.pairwise"].contains n=false) (hQ:Q () s):wpAny M A (letOwnedTupleGo tg (.ref it) u) Q E s:=by
 unfold letOwnedTupleGo
 cases tg <;> first
  | exact aI hQ
  | (cases u <;> first
    | exact aI hQ
    | (refine aA (wpAny_load ho ?_);rw[hc,hd];show wpAny M A (if (["enumerate","zip","dict_itemiterator","dict_reverseitemiterator","odict_iterator","itertools.zip_longest","itertools.pairwise"].contains n && vs[0]? == some (rawInt _))=true then _ else _) Q E s;rw[if_neg (by intro h;rw[hn,zD] at h;cases h)];exact aI hQ))
def Itl (K:aH) (a:Addr):It :=
 ⟨λi H=>∃xs x,SqL K H a xs/\xs[i]? = some x,λi H x H'=>H'=H/\∀xs,SqL K H a xs->xs[i]? = some x,λi H=>∃xs,SqL K H a xs/\xs.length<=i⟩
def Itt (K:aH) (a:Addr):It :=
 ⟨λi H=>∃xs x,SqT K H a xs/\xs[i]? = some x,λi H x H'=>H'=H/\∀xs,SqT K H a xs->xs[i]? = some x,λi H=>∃xs,SqT K H a xs/\xs.length<=i⟩
def Itr (lo:Int) (n:Nat):It:=⟨λi _=>i<n,λi H x H'=>H'=H/\x = .int (lo+i),λi _=>n<=i⟩
theorem Hi {P:bV} {w:dE} {K:aH} {tg:Expr} (a it:Addr):Turn P w K tg (Itl K a) [it] it (λi h=>h.IsListIter it a i) where
 mem:=by simp
 obj:=λi h st b hb=>by
  have e:b=it:=by simpa using hb
  subst e
  obtain⟨o,e,c,d⟩:=st
  exact⟨o,e,λv z=>by rw[d] at z;cases z⟩
 keep:=λi h h' st k=>st.at λo e=>k it (by simp) o e
 item:=by
  intro X hP hw hK hc i pins s σ H E I hf st hg
  subst hP hw hK
  obtain⟨xs,x,hq,hx⟩:=hg
  obtain⟨its,rv,p,hz⟩:=I.list hq
  obtain⟨u,hu,ru⟩:=rv.get hx
  obtain⟨f0,f1,f2,f3,f4,f5⟩:=hf it (by simp)
  refine wpAny_pyNext_list_item st p.isList (x:=u) (by simpa using hu) λh' st' sb=>?_
  have I1:Inv X pins σ H { s with heap:=h' }:=I.turned (t':=s.toks) (λb o hb e=>(sb.2 b hb).trans e) f0 f1 f3 f4 f5
  obtain⟨o,e,c,d⟩:=id st'
  exact⟨u,rfl,Ju (s:={ s with heap:=h' }) e c d (by decide) ⟨x,H,I1,ru,⟨rfl,λys hy=>by rw[I.list_inj hy hq];exact hx⟩,st',λb hb=>(hf b hb).1⟩⟩
 done:=by
  intro X hP hw hK hc i pins s σ H E I hf st hg
  subst hP hw hK
  obtain⟨xs,hq,hx⟩:=hg
  obtain⟨its,rv,p,hz⟩:=I.list hq
  obtain⟨f0,f1,f2,f3,f4,f5⟩:=hf it (by simp)
  have hl:=rv.length
  exact wpAny_pyNext_list_end (I.ok.hd hc) st p.isList (by simp;lia) λh' eb=>⟨rfl,I.turned (t':=s.toks) (λb o hb e=>eb b o hb e) f0 f1 f3 f4 f5⟩
 self:=λ_ _ _ _ _ st h=>wpAny_pyIter_listiter st h
theorem Bp {P:bV} {w:dE} {K:aH} {tg:Expr} (a it:Addr):Turn P w K tg (Itt K a) [it] it (λi h=>h.IsTupleIter it a i) where
 mem:=by simp
 obj:=λi h st b hb=>by
  have e:b=it:=by simpa using hb
  subst e
  obtain⟨o,e,c,d⟩:=st
  exact⟨o,e,λv z=>by rw[d] at z;cases z⟩
 keep:=λi h h' st k=>st.at λo e=>k it (by simp) o e
 item:=by
  intro X hP hw hK hc i pins s σ H E I hf st hg
  subst hP hw hK
  obtain⟨xs,x,hq,hx⟩:=hg
  obtain⟨its,rv,p,hz⟩:=I.tuple hq
  obtain⟨u,hu,ru⟩:=rv.get hx
  obtain⟨f0,f1,f2,f3,f4,f5⟩:=hf it (by simp)
  refine wpAny_pyNext_tuple_item st (show s.heap.IsTuple a its.toArray from p) (x:=u) (by simpa using hu) λh' st' sb=>?_
  have I1:Inv X pins σ H { s with heap:=h' }:=I.turned (t':=s.toks) (λb o hb e=>(sb.2 b hb).trans e) f0 f1 f3 f4 f5
  obtain⟨o,e,c,d⟩:=id st'
  exact⟨u,rfl,Ju (s:={ s with heap:=h' }) e c d (by decide) ⟨x,H,I1,ru,⟨rfl,λys hy=>by rw[I.tuple_inj hy hq];exact hx⟩,st',λb hb=>(hf b hb).1⟩⟩
 done:=by
  intro X hP hw hK hc i pins s σ H E I hf st hg
  subst hP hw hK
  obtain⟨xs,hq,hx⟩:=hg
  obtain⟨its,rv,p,hz⟩:=I.tuple hq
  obtain⟨f0,f1,f2,f3,f4,f5⟩:=hf it (by simp)
  have hl:=rv.length
  exact wpAny_pyNext_tuple_end (I.ok.hd hc) st (show s.heap.IsTuple a its.toArray from p) (by simp;lia) λh' eb=>⟨rfl,I.turned (t':=s.toks) (λb o hb e=>eb b o hb e) f0 f1 f3 f4 f5⟩
 self:=λ_ _ _ _ _ st h=>wpAny_pyIter_tupleiter st h
theorem Bo {P:bV} {w:dE} {K:aH} {tg:Expr} (it:Addr) (lo:Int) (n:Nat):Turn P w K tg (Itr lo n) [it] it (λi h=>IsRangeIter h it (lo+(i:Nat)*1) ((n:Int)-(i:Nat)) 1) where
 mem:=by simp
 obj:=λi h st b hb=>by
  have e:b=it:=by simpa using hb
  subst e
  exact⟨_,st,λv z=>by
   have z':Data.fields _=Data.cell v:=z
   cases z'⟩
 keep:=λi h h' st k=>k it (by simp) _ st
 item:=by
  intro X hP hw hK hc i pins s σ H E I hf st hg
  subst hP hw hK
  obtain⟨f0,f1,f2,f3,f4,f5⟩:=hf it (by simp)
  have W:=Walks.range (prog:=X.prog) (w:=X.w) (I.ok.hd hc) it lo 1 n
  refine W.item i s _ _ hg st λv h' tk hv st' kk=>?_
  obtain⟨t,rfl⟩:=hv
  have I1:Inv X pins σ H { s with heap:=h',toks:=tk }:=I.turned (λb o hb e=>kk b o (by simpa using hb) e) f0 f1 f3 f4 f5
  refine⟨_,rfl,Ju (s:={ s with heap:=h',toks:=tk }) (n:="range_iterator") st' rfl rfl (by decide) ⟨.int (lo+i),H,I1,⟨t,?_⟩,⟨rfl,rfl⟩,st',λb hb=>(hf b hb).1⟩⟩
  rw[pZ]
 done:=by
  intro X hP hw hK hc i pins s σ H E I hf st hg
  subst hP hw hK
  obtain⟨f0,f1,f2,f3,f4,f5⟩:=hf it (by simp)
  exact wpAny_pyNext_range_end (I.ok.hd hc) st (by have:n<=i:=hg;lia) λh' eb=>⟨rfl,I.turned (t':=s.toks) (λb o hb e=>eb b o hb e) f0 f1 f3 f4 f5⟩
 self:=λ_ _ _ _ _ st h=>wpAny_pyIter_rangeiter st h
section
variable {X:Cx} {tg:Expr}
def Vp (K:aH) (tl:TE):TI:=λσ H R=>tl σ H λx H1=>∃a,x = .ref a/\(∃xs,SqL K H1 a xs)/\R (Itl K a) H1
def Yb (K:aH) (tl:TE):TI:=λσ H R=>tl σ H λx H1=>∃a,x = .ref a/\(∃xs,SqT K H1 a xs)/\R (Itt K a) H1
theorem Pk {l:Expr} {tl:TE} (hl:PE X l tl):PI X tg l (Vp X.K tl):=by
 intro pins s σ H R I h
 refine thn (hl pins s σ H _ I h) λv s1 ⟨x,H1,I1,r1,q1⟩=>?_
 obtain⟨a,e,⟨xs,hq⟩,q⟩:=q1
 subst e
 cases r1
 obtain⟨its,rv,p,hz⟩:=I1.list hq
 refine jX p.isList ?_
 refine⟨s1.heap.objs.size,[s1.heap.objs.size],_,_,H1,rfl,I1.kept (t':=s1.toks) λb o e=>aN _ e,Hi a _,⟨_,bI _ rfl,rfl,rfl⟩,λb hb=>?_,q⟩
 have e:b=s1.heap.objs.size:=by simpa using hb
 subst e
 exact I1.fpOk (bK _) (I1.hok.fresh (bK _))
theorem Tr {l:Expr} {tl:TE} (hl:PE X l tl):PI X tg l (Yb X.K tl):=by
 intro pins s σ H R I h
 refine thn (hl pins s σ H _ I h) λv s1 ⟨x,H1,I1,r1,q1⟩=>?_
 obtain⟨a,e,⟨xs,hq⟩,q⟩:=q1
 subst e
 cases r1
 obtain⟨its,rv,p,hz⟩:=I1.tuple hq
 refine kX (show s1.heap.IsTuple a its.toArray from p) ?_
 refine⟨s1.heap.objs.size,[s1.heap.objs.size],_,_,H1,rfl,I1.kept (t':=s1.toks) λb o e=>aN _ e,Bp a _,⟨_,bI _ rfl,rfl,rfl⟩,λb hb=>?_,q⟩
 have e:b=s1.heap.objs.size:=by simpa using hb
 subst e
 exact I1.fpOk (bK _) (I1.hok.fresh (bK _))
theorem Lu {pins:List (Addr × Obj)} {σ:St} {H:Hp} {s:aG} {R:It->Hp->Prop} {E:aD->aG->Prop} {lo hi:Int} {t u v:Tok} {tk:Nat} (I:Inv X pins σ H s) (h1:-(2 ^ 62)<=lo) (h2:lo<2 ^ 62) (h3:-(2 ^ 62)<=hi) (h4:hi<2 ^ 62)
  (q:R (Itr lo (hi-lo).toNat) H):wpAny (model X.prog X.w) X.A (pyIter (.ref s.heap.objs.size)) (PIE X pins σ tg R) E { s with heap:=s.heap.push { cls:=.type "range",data:=.fields #[.int lo t,.int hi u,.int 1 v] },toks:=tk }:=by
 refine wpAny_pyIter_range (IsRange.new ..) (small_one h1 h2 h3 h4) ?_
 have I1:Inv X pins σ H { s with heap:=s.heap.push { cls:=.type "range",data:=.fields #[.int lo t,.int hi u,.int 1 v] },toks:=tk }:=I.kept λb o e=>aN _ e
 refine⟨(s.heap.push { cls:=.type "range",data:=.fields #[.int lo t,.int hi u,.int 1 v] }).objs.size,[(s.heap.push { cls:=.type "range",data:=.fields #[.int lo t,.int hi u,.int 1 v] }).objs.size],_,_,H,rfl,
  I1.kept (t':=tk) λb o e=>aN _ e,Bo _ lo (hi-lo).toNat,?_,λb hb=>?_,q⟩
 ·have e1:lo+((0:Nat):Int)*1=lo:=by simp
  have e2:(((hi-lo).toNat:Nat):Int)-((0:Nat):Int)=Builtin.Range.rangeSize lo hi 1:=by rw[rangeSize_one];split <;> lia
  show IsRangeIter _ _ (lo+((0:Nat):Int)*1) ((((hi-lo).toNat:Nat):Int)-((0:Nat):Int)) 1
  rw[e1,e2]
  exact bI _ rfl
 ·have e:b=(s.heap.push { cls:=.type "range",data:=.fields #[.int lo t,.int hi u,.int 1 v] }).objs.size:=by simpa using hb
  subst e
  exact I1.fpOk (bK _) (I1.hok.fresh (bK _))
def Vq (ta:TA):TI:=λσ H R=>ta σ H λvs H1=>∃j:Int,vs=[.int j]/\-(2 ^ 62)<=j/\j<2 ^ 62/\R (Itr 0 j.toNat) H1
theorem Gn {a:Expr} {ta:TA} {p pos:Pos} (hg:Gl X "range") (hm:X.mg "range" = none) (ha:PA X [a] ta) (hs:starEach [a] X.env=[(false,eval a X.env)]:=by rfl):PI X tg (.Call (.Name "range" p) [a] [] pos) (Vq ta):=by
 intro pins s σ H R I h
 refine Call_ (vQ I hg hm boot_range (fY (thn (ha pos pins s σ H _ I h) λus s1 ⟨vs,H1,I1,r1,q1⟩=>?_) hs rfl))
 obtain⟨j,e,q1,q2,q⟩:=q1
 subst e
 cases r1 with
 | cons r rr =>
  cases rr
  obtain⟨t,rfl⟩:=r
  exact call_range_1 (Lu I1 (by lia) (by lia) q1 q2 (by simpa using q))
def Zd (wi:TI) (g:TG) (tb:TS):TS:=λD σ H=>wi σ H λJ H1=>∃W:Nat->Nat->St->Hp->Prop,(∃m,W 0 m σ H1)/\∀i m σ H,W i m σ H ->
 (J.stop i H/\D.nx σ H)\/(J.go i H/\∃N:St->Hp->Prop,(∀σ' H',N σ' H'->∃m',m'<m/\W (i+1) m' σ' H')/\∀x H',J.yld i H x H'->g x σ H' λσ2 H2=>tb { D with nx:=N,ct:=N,bk:=D.nx } σ2 H2)
def UH (fp:List Addr) (h:Heap):List (Addr × Obj):=fp.filterMap λb=>(h.get? b).map λo=>(b,o)
theorem sA {fp:List Addr} {h:Heap} {b:Addr} {o:Obj} (hb:b∈fp) (e:h.get? b=some o):(b,o)∈UH fp h:=pU.mpr ⟨b,hb,by rw[e];rfl⟩
theorem Ge {fp:List Addr} {h:Heap} {p:Addr × Obj} (hp:p∈UH fp h):p.1∈fp/\h.get? p.1=some p.2:=by
 obtain⟨b,hb,e⟩:=pU.mp hp
 cases q:h.get? b with
 | none=>rw[q] at e;cases e
 | some o =>
  rw[q] at e
  have e':(b,o)=p:=dN e
  subst e'
  exact⟨hb,q⟩
theorem Inv.pinned {pins:List (Addr × Obj)} {σ:St} {H:Hp} {s:aG} {fp:List Addr} (I:Inv X pins σ H s) (hf:∀b∈fp,OU X pins H b) (ho:∀b∈fp,∃o,s.heap.get? b=some o/\∀v,o.data≠.cell v):Inv X (pins++UH fp s.heap) σ H s :=
 I.pins_of λp hp=>(cY.mp hp).elim (λz=>I.pin p (bT _ z)) λz=>by
  obtain⟨hb,e⟩:=Ge z
  obtain⟨f0,f1,f2,_⟩:=hf p.1 hb
  obtain⟨o,e',d⟩:=ho p.1 hb
  rw[e] at e';cases e'
  exact⟨e,f0,f1,f2,d⟩
theorem Inv.unpinned {pins pl:List (Addr × Obj)} {σ:St} {H:Hp} {s:aG} (I:Inv X (pins++pl) σ H s):Inv X pins σ H s:=I.pins_of λp hp=>I.pin p (bT _ (gK _ hp))
theorem Tt {iter:Expr} {body:List Stmt} {wi:TI} {g:TG} {tb:TS} {pos:Pos} (hp:PassesOwn (model X.prog X.w) X.A X.env X.xe) (hc:X.calm=true) (hi:PI X tg iter wi) (hg:PG X tg g) (hb:PSs X body tb)
  (hs:∀x,foldedSetIterable iter X.env x=pure x:=by intro _;rfl):PS X (.For tg iter body [] pos) (Zd wi g tb):=by
 intro pins s σ H D I h
 refine wpAny_For (thn (hi pins s σ H _ I h) λv s1 h1=>thn h1 λitv s2 h2=>?_) hs
 obtain⟨it,fp,tn,J,H2,e,I2,T,st2,f2,W,⟨m0,w0⟩,turn⟩:=h2
 subst e
 have stat:∀{H':Hp},(∀b∈fp,H' b=none)->∀b∈fp,OU X pins H' b:=λhn b hb=>⟨hn b hb,(f2 b hb).2⟩
 refine codeAny_forLoop_any (λn s'=>∃i σ' H',Inv X pins σ' H' s'/\tn i s'.heap/\(∀b∈fp,H' b=none)/\W i n σ' H') ?_ m0 ⟨0,σ,H2,I2,st2,λb hb=>(f2 b hb).1,w0⟩
 rintro n s3 ⟨i,σ3,H3,I3,st3,fr3,w3⟩
 rcases turn i n σ3 H3 w3 with ⟨stop,qn⟩ | ⟨go,N,hN,step⟩
 ·refine lH hp (thn (T.done X rfl rfl rfl hc i pins s3 σ3 H3 X.xe I3 (stat fr3) st3 stop) λr s4 ⟨hr,I4⟩=>?_)
  subst hr
  exact sT ⟨σ3,H3,I4,qn⟩
 ·refine lH hp (thn (T.item X rfl rfl rfl hc i pins s3 σ3 H3 X.xe I3 (stat fr3) st3 go) λr s4 ⟨u,hr,h4⟩=>?_)
  subst hr
  refine lH hp (thn h4 λ_ s5 ⟨x,H5,I5,r5,y5,st5,fr5⟩=>?_)
  have I5':=I5.pinned (stat fr5) (T.obj _ _ st5)
  refine lH hp (thn (hg _ s5 σ3 H5 x u _ I5' r5 (step x H5 y5)) λ_ s6 ⟨σ6,H6,I6,q6⟩=>?_)
  refine lH hp (thn (hb _ s6 σ6 H6 _ I6 q6) λf s7 q7=>?_)
  have again:∀{σ7:St} {H7:Hp},Inv X (pins++UH fp s5.heap) σ7 H7 s7->N σ7 H7->∃m,m<n/\∃i σ' H',Inv X pins σ' H' s7/\tn i s7.heap/\(∀b∈fp,H' b=none)/\W i m σ' H':=λ{σ7 H7} I7 n7=>by
   obtain⟨m',hm,w7⟩:=hN σ7 H7 n7
   refine⟨m',hm,i+1,σ7,H7,I7.unpinned,T.keep _ _ _ st5 λb hb o e=>(I7.pin (b,o) (bT _ (bT _ (sA hb e)))).1,λb hb=>?_,w7⟩
   obtain⟨o,e,d⟩:=T.obj _ _ st5 b hb
   exact (I7.pin (b,o) (bT _ (bT _ (sA hb e)))).2.1
  cases f with
  | next=>obtain⟨σ7,H7,I7,n7⟩:=q7;exact again I7 n7
  | cont=>obtain⟨σ7,H7,I7,n7⟩:=q7;exact again I7 n7
  | brk=>obtain⟨σ7,H7,I7,q7⟩:=q7;exact⟨σ7,H7,I7.unpinned,q7⟩
  | ret v=>obtain⟨x7,σ7,H7,I7,r7,q7⟩:=q7;exact⟨x7,σ7,H7,I7.unpinned,r7,q7⟩
end
theorem WE {K:aH} {a:Addr} {xs:List V} {g:TG} {tb:TS} {D:Ends} {σ:St} {H:Hp} (Pv:Nat->St->Hp->Prop) (h0:Pv 0 σ H) (hl:∀i σ H,i<=xs.length->Pv i σ H->SqL K H a xs)
  (hs:∀i x σ H,xs[i]? = some x->Pv i σ H->g x σ H λσ2 H2=>tb { D with nx:=Pv (i+1),ct:=Pv (i+1),bk:=D.nx } σ2 H2) (hd:∀σ H,Pv xs.length σ H->D.nx σ H) :
  ∃W:Nat->Nat->St->Hp->Prop,(∃m,W 0 m σ H)/\∀i m σ H,W i m σ H ->
   ((Itl K a).stop i H/\D.nx σ H)\/((Itl K a).go i H/\∃N:St->Hp->Prop,(∀σ' H',N σ' H'->∃m',m'<m/\W (i+1) m' σ' H')/\∀x H',(Itl K a).yld i H x H'->g x σ H' λσ2 H2=>tb { D with nx:=N,ct:=N,bk:=D.nx } σ2 H2):=by
 refine⟨λi m σ H=>m=xs.length-i/\i<=xs.length/\Pv i σ H,⟨xs.length,by simp,gL _,h0⟩,?_⟩
 rintro i m σ H ⟨rfl,hi,p⟩
 have q:=hl i σ H hi p
 by_cases hlt:i<xs.length
 ·refine .inr ⟨⟨xs,xs[i],q,by simp[hlt]⟩,Pv (i+1),λσ' H' p'=>⟨xs.length-(i+1),by lia,rfl,hlt,p'⟩,λx H' y=>?_⟩
  obtain⟨e,y⟩:=y
  subst e
  exact hs i x σ _ (y xs q) p
 ·have e:i=xs.length:=by lia
  subst e
  exact .inl ⟨⟨xs,q,bK _⟩,hd σ H p⟩
abbrev R2:=V->V->Hp->VK->Prop
def OpR (X:Cx) (f:aD->aD->Sem aD) (r:R2):Prop :=
 ∀(pins:List (Addr × Obj)) (s:aG) (σ:St) (H:Hp) (x y:V) (v u:aD) (Q:VK),Inv X pins σ H s->RelV x v->RelV y u->r x y H Q ->
  wpAny (model X.prog X.w) X.A (f v u) (EP X pins σ Q) X.xe s
def UnR (X:Cx) (f:aD->Sem aD) (r:V->Hp->VK->Prop):Prop :=
 ∀(pins:List (Addr × Obj)) (s:aG) (σ:St) (H:Hp) (x:V) (v:aD) (Q:VK),Inv X pins σ H s->RelV x v->r x H Q ->
  wpAny (model X.prog X.w) X.A (f v) (EP X pins σ Q) X.xe s
def yF (X:Cx) (f:aD) (r:List V->Hp->VK->Prop):Prop :=
 ∀(pins:List (Addr × Obj)) (s:aG) (σ:St) (H:Hp) (xs:List V) (us:List aD) (Q:VK),Inv X pins σ H s->Vals xs us->r xs H Q ->
  wpAny (model X.prog X.w) X.A (call f us) (EP X pins σ Q) X.xe s
def tOp (r:R2) (ta tb:TE):TE:=λσ H Q=>ta σ H λx H1=>tb σ H1 λy H2=>r x y H2 Q
def tUn (r:V->Hp->VK->Prop) (ta:TE):TE:=λσ H Q=>ta σ H λx H1=>r x H1 Q
def rI (C:Int->Int->Prop) (g:Int->Int->V):R2:=λx y H Q=>∃i j,x = .int i/\y = .int j/\C i j/\Q (g i j) H
def rI0 (g:Int->Int->V):R2:=λx y H Q=>∃i j,x = .int i/\y = .int j/\Q (g i j) H
def rU (g:Int->V):V->Hp->VK->Prop:=λx H Q=>∃i,x = .int i/\Q (g i) H
section
variable {X:Cx} {a b c:Expr} {ta tb tc:TE} {pos:Pos}
theorem Ry (ha:PE X a ta) (hb:PE X b tb) {pins:List (Addr × Obj)} {s:aG} {σ:St} {H:Hp} {R:V->V->Hp->Prop} (I:Inv X pins σ H s)
  (h:ta σ H λx H1=>tb σ H1 λy H2=>R x y H2) {Q:aD->aG->Prop} {f:aD->aD->Sem aD}
  (hf:∀v u s2 x y H2,Inv X pins σ H2 s2->RelV x v->RelV y u->R x y H2->wpAny (model X.prog X.w) X.A (f v u) Q X.xe s2) :
  wpAny (model X.prog X.w) X.A (eval a X.env) (λv s₁=>wpAny (model X.prog X.w) X.A (eval b X.env) (λu s₂=>wpAny (model X.prog X.w) X.A (f v u) Q X.xe s₂) X.xe s₁) X.xe s:=by
 refine thn (ha pins s σ H _ I h) λv s1 ⟨x,H1,I1,r1,q1⟩=>?_
 refine thn (hb pins s1 σ H1 _ I1 q1) λu s2 ⟨y,H2,I2,r2,q2⟩=>?_
 exact hf v u s2 x y H2 I2 r1 r2 q2
theorem Wh {op:Operator} {r:R2} (ho:OpR X (binaryOp op) r) (ha:PE X a ta) (hb:PE X b tb):PE X (.BinOp a op b pos) (tOp r ta tb):=by
 intro pins s σ H Q I h
 exact wpAny_BinOp (Ry ha hb I h λv u s2 x y H2 I2 rx ry q=>ho pins s2 σ H2 x y v u Q I2 rx ry q)
theorem Wj {op:UnaryOp} {r:V->Hp->VK->Prop} (ho:UnR X (unaryOp op) r) (ha:PE X a ta):PE X (.UnaryOp op a pos) (tUn r ta):=by
 intro pins s σ H Q I h
 exact UnaryOp_ (thn (ha pins s σ H _ I h) λv s1 ⟨x,H1,I1,r1,q1⟩=>ho pins s1 σ H1 x v Q I1 r1 q1)
theorem opI {f:aD->aD->Sem aD} {C:Int->Int->Prop} {g:Int->Int->Int}
  (rule:∀(i j:Int) (t u:Tok) (s:aG) (Q:aD->aG->Prop) (E:aD->aG->Prop),C i j->Q (.int (g i j) s.toks) { s with toks:=s.toks+1 }->wpAny (model X.prog X.w) X.A (f (.int i t) (.int j u)) Q E s) :
  OpR X f (rI C λi j=>.int (g i j)):=by
 intro pins s σ H x y v u Q I rx ry h
 obtain⟨i,j,rfl,rfl,hc,q⟩:=h
 obtain⟨t,rfl⟩:=rx
 obtain⟨t',rfl⟩:=ry
 exact rule i j t t' s _ _ hc ⟨.int (g i j),H,I.tok _,⟨_,rfl⟩,q⟩
theorem Pa {f:aD->aD->Sem aD} {g:Int->Int->Bool}
  (rule:∀(i j:Int) (t u:Tok) (s:aG) (Q:aD->aG->Prop) (E:aD->aG->Prop),Q (.bool (g i j)) s->wpAny (model X.prog X.w) X.A (f (.int i t) (.int j u)) Q E s) :
  OpR X f (rI0 λi j=>.bl (g i j)):=by
 intro pins s σ H x y v u Q I rx ry h
 obtain⟨i,j,rfl,rfl,q⟩:=h
 obtain⟨t,rfl⟩:=rx
 obtain⟨t',rfl⟩:=ry
 exact rule i j t t' s _ _ ⟨.bl (g i j),H,I,rfl,q⟩
theorem unI {f:aD->Sem aD} {g:Int->Int}
  (rule:∀(i:Int) (t:Tok) (s:aG) (Q:aD->aG->Prop) (E:aD->aG->Prop),Q (.int (g i) s.toks) { s with toks:=s.toks+1 }->wpAny (model X.prog X.w) X.A (f (.int i t)) Q E s) :
  UnR X f (rU λi=>.int (g i)):=by
 intro pins s σ H x v Q I rx h
 obtain⟨i,rfl,q⟩:=h
 obtain⟨t,rfl⟩:=rx
 exact rule i t s _ _ ⟨.int (g i),H,I.tok _,⟨_,rfl⟩,q⟩
theorem Ut:UnR X (unaryOp .USub) (rU λi=>.int (-i)):=unI λ_ _ _ _ _ q=>neg_int q
end
def Xd:V->V->Bool
 | .non,.non=>true | .non,.int _=>true | .int _,.non=>true | .non,.bl _=>true | .bl _,.non=>true | .non,.str _=>true | .str _,.non=>true
 | .int _,.int _=>true | .bl _,.bl _=>true | .str _,.str _=>true | .byt _,.byt _=>true
 | .int _,.str _=>true | .str _,.int _=>true | .bl _,.str _=>true | .str _,.bl _=>true
 | _,_=>false
def rEq:R2:=λx y H Q=>Xd x y=true/\Q (.bl (decide (x=y))) H
def rNe:R2:=λx y H Q=>Xd x y=true/\Q (.bl (!decide (x=y))) H
theorem Cr {i j:Int}:decide (V.int i=V.int j)=(i == j):=by
 rw[pN]
 simp
theorem Ji {i j:Bool}:decide (V.bl i=V.bl j)=(i == j):=by
 rw[pN]
 simp
theorem Cs {i j:Str}:decide (V.str i=V.str j)=(i == j):=by
 rw[pN]
 simp
theorem Cq {i j:Array UInt8}:decide (V.byt i=V.byt j)=(i.toList == j.toList):=by
 rw[pN]
 cases i
 cases j
 simp
section
variable {X:Cx} {a b c:Expr} {ta tb tc:TE} {pos:Pos}
theorem iM {pins:List (Addr × Obj)} {σ:St} {H:Hp} {s:aG} {Q:VK} {k k':Bool} (I:Inv X pins σ H s) (q:Q (.bl k) H) (e:k=k'):EP X pins σ Q (.bool k') s:=by
 subst e
 exact⟨.bl k,H,I,rfl,q⟩
theorem Rq:OpR X (compareOp .Eq) rEq:=by
 intro pins s σ H x y v u Q I rx ry h
 obtain⟨hs,q⟩:=h
 cases x with
 | non =>
  cases rx
  cases y with
  | non=>cases ry;exact PySem.EqNone.eq_none_none (iM I q (by simp))
  | bl j=>cases ry;exact PySem.EqNone.eq_none_bool (iM I q (by simp))
  | int j=>obtain⟨t',rfl⟩:=ry;exact PySem.EqNone.eq_none_int (iM I q (by simp))
  | str j=>obtain⟨t',rfl⟩:=ry;exact PySem.EqNone.eq_none_str (iM I q (by simp))
  | _=>exact absurd (show false=true from hs) cJ
 | bl i =>
  cases rx
  cases y with
  | non=>cases ry;exact PySem.EqNone.eq_bool_none (iM I q (by simp))
  | bl j=>cases ry;exact eq_bool (iM I q Ji)
  | str j=>obtain⟨t',rfl⟩:=ry;exact PySem.EqMixed.eq_bool_str (iM I q (by simp))
  | _=>exact absurd (show false=true from hs) cJ
 | int i =>
  obtain⟨t,rfl⟩:=rx
  cases y with
  | non=>cases ry;exact PySem.EqNone.eq_int_none (iM I q (by simp))
  | int j=>obtain⟨t',rfl⟩:=ry;exact eq_int (iM I q Cr)
  | str j=>obtain⟨t',rfl⟩:=ry;exact PySem.EqMixed.eq_int_str (iM I q (by simp))
  | _=>exact absurd (show false=true from hs) cJ
 | str i =>
  obtain⟨t,rfl⟩:=rx
  cases y with
  | non=>cases ry;exact PySem.EqNone.eq_str_none (iM I q (by simp))
  | bl j=>cases ry;exact PySem.EqMixed.eq_str_bool (iM I q (by simp))
  | int j=>obtain⟨t',rfl⟩:=ry;exact PySem.EqMixed.eq_str_int (iM I q (by simp))
  | str j=>obtain⟨t',rfl⟩:=ry;exact eq_str (iM I q Cs)
  | _=>exact absurd (show false=true from hs) cJ
 | byt i =>
  obtain⟨t,rfl⟩:=rx
  cases y with
  | byt j=>obtain⟨t',rfl⟩:=ry;exact PySem.W.eq_bytes (iM I q Cq)
  | _=>exact absurd (show false=true from hs) cJ
 | _=>cases y <;> exact absurd (show false=true from hs) cJ
theorem Rr:OpR X (compareOp .NotEq) rNe:=by
 intro pins s σ H x y v u Q I rx ry h
 obtain⟨hs,q⟩:=h
 cases x with
 | non =>
  cases rx
  cases y with
  | non=>cases ry;exact PySem.EqNone.ne_none_none (iM I q (by simp))
  | bl j=>cases ry;exact PySem.EqNone.ne_none_bool (iM I q (by simp))
  | int j=>obtain⟨t',rfl⟩:=ry;exact PySem.EqNone.ne_none_int (iM I q (by simp))
  | str j=>obtain⟨t',rfl⟩:=ry;exact PySem.EqNone.ne_none_str (iM I q (by simp))
  | _=>exact absurd (show false=true from hs) cJ
 | bl i =>
  cases rx
  cases y with
  | non=>cases ry;exact PySem.EqNone.ne_bool_none (iM I q (by simp))
  | bl j=>cases ry;exact ne_bool (iM I q (congrArg not Ji))
  | str j=>obtain⟨t',rfl⟩:=ry;exact PySem.EqMixed.ne_bool_str (iM I q (by simp))
  | _=>exact absurd (show false=true from hs) cJ
 | int i =>
  obtain⟨t,rfl⟩:=rx
  cases y with
  | non=>cases ry;exact PySem.EqNone.ne_int_none (iM I q (by simp))
  | int j=>obtain⟨t',rfl⟩:=ry;exact ne_int (iM I q (congrArg not Cr))
  | str j=>obtain⟨t',rfl⟩:=ry;exact PySem.EqMixed.ne_int_str (iM I q (by simp))
  | _=>exact absurd (show false=true from hs) cJ
 | str i =>
  obtain⟨t,rfl⟩:=rx
  cases y with
  | non=>cases ry;exact PySem.EqNone.ne_str_none (iM I q (by simp))
  | bl j=>cases ry;exact PySem.EqMixed.ne_str_bool (iM I q (by simp))
  | int j=>obtain⟨t',rfl⟩:=ry;exact PySem.EqMixed.ne_str_int (iM I q (by simp))
  | str j=>obtain⟨t',rfl⟩:=ry;exact ne_str (iM I q (congrArg not Cs))
  | _=>exact absurd (show false=true from hs) cJ
 | byt i =>
  obtain⟨t,rfl⟩:=rx
  cases y with
  | byt j=>obtain⟨t',rfl⟩:=ry;exact PySem.W.ne_bytes (iM I q (congrArg not Cq))
  | _=>exact absurd (show false=true from hs) cJ
 | _=>cases y <;> exact absurd (show false=true from hs) cJ
theorem Wf:OpR X (compareOp .Lt) (rI0 λi j=>.bl (decide (i<j))):=Pa λ_ _ _ _ _ _ _ q=>lt_int q
theorem We:OpR X (compareOp .LtE) (rI0 λi j=>.bl (decide (i<=j))):=Pa λ_ _ _ _ _ _ _ q=>le_int q
theorem Wd:OpR X (compareOp .Gt) (rI0 λi j=>.bl (decide (j<i))):=Pa λ_ _ _ _ _ _ _ q=>gt_int q
theorem Wc:OpR X (compareOp .GtE) (rI0 λi j=>.bl (decide (j<=i))):=Pa λ_ _ _ _ _ _ _ q=>ge_int q
theorem Ti:OpR X (compareOp .Is) (λx y H Q=>y = .non/\Q (.bl (decide (x = .non))) H):=by
 intro pins s σ H x y v u Q I rx ry h
 obtain⟨rfl,q⟩:=h
 cases ry
 refine is_none_gen (iM I q ?_)
 cases x <;> first
  | (cases rx;rfl)
  | (obtain⟨t,rfl⟩:=rx;rfl)
theorem Pe:OpR X (compareOp .IsNot) (λx y H Q=>y = .non/\Q (.bl (!decide (x = .non))) H):=by
 intro pins s σ H x y v u Q I rx ry h
 obtain⟨rfl,q⟩:=h
 cases ry
 refine isnot_none_gen (iM I q ?_)
 cases x <;> first
  | (cases rx;rfl)
  | (obtain⟨t,rfl⟩:=rx;rfl)
theorem Ks (b:Expr) {op:CmpOp} (h:op≠.In:=by decide) (h2:op≠.NotIn:=by decide):behindInMarks op b=false:=by
 have e1:(op == CmpOp.In)=false:=by cases op <;> first | rfl | exact absurd rfl h
 have e2:(op == CmpOp.NotIn)=false:=by cases op <;> first | rfl | exact absurd rfl h2
 cases b <;> simp[behindInMarks,e1,e2]
theorem Pg {op:CmpOp} {r:R2} (ho:OpR X (compareOp op) r) (ha:PE X a ta) (hb:PE X b tb) (hm:behindInMarks op b=false):PE X (.Compare a [op] [b] pos) (tOp r ta tb):=by
 intro pins s σ H Q I h
 exact wpAny_Compare1 (Ry ha hb I h λv u s2 x y H2 I2 rx ry q=>ho pins s2 σ H2 x y v u Q I2 rx ry q) hm
def Xn (t:TE):TT:=λσ H Q=>t σ H λx H'=>∃k,x = .bl k/\Q k H'
theorem Pq {op:CmpOp} {r:R2} (ho:OpR X (compareOp op) r) (ha:PE X a ta) (hb:PE X b tb) (hm:behindInMarks op b=false):PT X (.Compare a [op] [b] pos) (Xn (tOp r ta tb)):=by
 intro pins s σ H Q I h
 refine wpAny_isTrue_Compare1 (thn (ha pins s σ H _ I h) λv s1 ⟨x,H1,I1,r1,q1⟩=>thn (hb pins s1 σ H1 _ I1 q1) λu s2 ⟨y,H2,I2,r2,q2⟩ =>
  thn (ho pins s2 σ H2 x y v u _ I2 r1 r2 q2) λc s3 ⟨z,H3,I3,r3,k,e,q3⟩=>?_) hm
 subst e
 cases r3
 exact jY ⟨H3,I3,q3⟩
theorem Ac:(sizeLine:Nat)<2 ^ 63:=by rw[lO];decide
theorem vals1 {x:V} {us:List aD} (r:Vals [x] us):∃u,us=[u]/\RelV x u:=by
 cases r with
 | cons r1 r2=>cases r2;exact⟨_,rfl,r1⟩
theorem vals2 {x y:V} {us:List aD} (r:Vals [x,y] us):∃u w',us=[u,w']/\RelV x u/\RelV y w':=by
 cases r with
 | cons r1 r2 =>
  cases r2 with
  | cons r3 r4=>cases r4;exact⟨_,_,rfl,r1,r3⟩
theorem Ih:yF X (.builtin "abs") (λxs H Q=>∃i,xs=[.int i]/\Q (.int (if i<0 then -i else i)) H):=by
 intro pins s σ H xs us Q I r h
 obtain⟨i,rfl,q⟩:=h
 obtain⟨u,rfl,t,rfl⟩:=vals1 r
 exact call_abs_int λu tk=>⟨.int (if i<0 then -i else i),H,I.tok _,⟨_,rfl⟩,q⟩
theorem QS:yF X (.type "int") (λxs H Q=>(∃i,xs=[.int i]/\Q (.int i) H)\/∃k,xs=[.bl k]/\Q (.int (if k then 1 else 0)) H):=by
 intro pins s σ H xs us Q I r h
 rcases h with ⟨i,rfl,q⟩ | ⟨k,rfl,q⟩
 ·obtain⟨u,rfl,t,rfl⟩:=vals1 r
  exact call_int_int ⟨.int i,H,I,⟨_,rfl⟩,q⟩
 ·obtain⟨u,rfl,r1⟩:=vals1 r
  cases r1
  exact call_int_bool ⟨.int (if k then 1 else 0),H,I.tok _,⟨_,rfl⟩,q⟩
end
structure ObjM (h:Heap) (x dx C:Addr) (mA:Str->Option aD):Prop where
 obj:h.get? x=some (yJ C dx)
 ns:h.Ns1 dx mA
 ne:dx≠x
theorem Fy {h:Heap} {dx:Addr} {mA:Str->Option aD} (n:h.Ns1 dx mA):∃od,h.get? dx=some od/\∀name,zR name od=some (mA name):=by
 obtain⟨o,es,ep,ho,hd,hk,_,hm⟩:=n
 refine⟨o,ho,λname=>?_⟩
 have e:=hm name
 unfold nsFind findBy at e
 rw[<-Array.find?_toList] at e
 unfold zR
 rw[hd]
 dsimp only
 split
 ·rename_i y q
  rw[q] at e
  exact congrArg some e
 ·rename_i q
  rw[q] at e
  have a:es.toList.any (·.refKey)=false:=by
   rw[FL]
   intro y hy
   obtain⟨z,t,hkey⟩:=hk y (gX.mp hy)
   simp[DictEntry.refKey,hkey]
  have a':¬es.toList.any (·.refKey)=true:=by rw[a];exact cJ
  rw[if_neg a']
  exact congrArg some e
theorem ObjM.look {h:Heap} {x dx C:Addr} {mA:Str->Option aD} (I:ObjM h x dx C mA):∃od,PySem.W.InstAt h x (yJ C dx) C (some od)/\∀name,zR name od=some (mA name) :=
 let ⟨od,ho,hl⟩:=Fy I.ns
 ⟨od,⟨I.obj,rfl,rfl,ho⟩,hl⟩
section
variable {prog:bV} {w:dE} {A:dF} {E:aD->aG->Prop} {s:aG} {K:aH} {x dx C f:Addr} {mA:Str->Option aD} {name:Str} {v:aD}
end
section
variable {P:bV} {w:dE} {H H':Hp} {h h':Heap} {a C dx:Addr} {fs fs':List (Str × V)}
theorem Oa (hok:HOk P w H h) (e:H a=some (.ins C dx fs)):∃mA,ObjM h a dx C mA/\(∀f,RelO (fs.lookup f) (mA f))/\PySem.Within mA (fs.map (·.1))/\fs.length<=1000/\H dx=some (.own a):=by
 obtain⟨d,z,ne,ob,mA,n,r,q⟩:=(show ObjOk P w H h a (.ins C dx fs) from hok a _ e)
 exact⟨mA,⟨ob,n,ne⟩,r,q,z,d⟩
end
structure Cls (K:aH) (C:Addr):Prop where
 pg:IA K C Str.empty=true
 hd:PySem.W.hasDictIn K C=true
 po:PySem.W.plainOver K C=true
 sa:LZ K (.ref C) "__setattr__" = some (some (.builtin "object.__setattr__"))
theorem Cls.get {K:aH} {C:Addr} (c:Cls K C) (f:Str):IA K C f=true:=c.pg
section
variable {X:Cx} {pins:List (Addr × Obj)} {σ:St} {H:Hp} {s:aG} {a C dx:Addr} {fs:List (Str × V)} {f:Str} {v:V} {A:dF} {E:aD->aG->Prop}
end
section
variable {X:Cx} {o e value:Expr} {f:Str} {pos pos' tpos:Pos} {ta tv:TE}
end
section
variable {X:Cx} {pins:List (Addr × Obj)} {σ:St} {H:Hp} {s:aG} {A:dF} {E:aD->aG->Prop} {Q:aD->aG->Prop} {c:aD} {b:Bool}
inductive TyOf (K:aH) (H:Hp):V->aD->Prop where
 | non:TyOf K H .non (.type "NoneType")
 | bl (x:Bool):TyOf K H (.bl x) (.type "bool")
 | int (i:Int):TyOf K H (.int i) (.type "int")
 | str (x:Str):TyOf K H (.str x) (.type "str")
 | flt (x:UInt64):TyOf K H (.flt x) (.type "float")
 | lst {a:Addr} {xs:List V} (e:H a=some (.lst xs)):TyOf K H (.ref a) (.type "list")
 | frz {a:Addr} {o:Obj} {xs:List V} (e:H a=some (.frz o (.lst xs))):TyOf K H (.ref a) (.type "list")
 | tup {a:Addr} {xs:List V} (e:H a=some (.tup xs)):TyOf K H (.ref a) (.type "tuple")
 | dK {a:Addr} {kvs:List (Key × V)} (e:H a=some (.dK kvs)):TyOf K H (.ref a) (.type "dict")
 | dT {a:Addr} {kvs:List (List Key × V)} (e:H a=some (.dT kvs)):TyOf K H (.ref a) (.type "dict")
 | ins {a C dx:Addr} {fs:List (Str × V)} (e:H a=some (.ins C dx fs)) (cl:Cls K C) (ha:LZ K (.ref C) "__class__" = some (some (.builtin "object.__class__")))
   (hn:PySem.W.specialIn K (.builtin "object.__class__") "__get__" = some (some (.builtin "getset_descriptor.__get__"))) (htk:PySem.W.takesIn K (.builtin "object.__class__")=some true)
   (hm:PySem.W.mroIn K C (.type "object")=some true):TyOf K H (.ref a) (.ref C)
theorem Fa {x:V} {u t:aD} (I:Inv X pins σ H s) (rx:RelV x u) (ty:TyOf X.K H x t) (e:kR X.K t c=some b) (h:∀tk,Q (.bool b) { s with toks:=tk }) :
  wpAny (model X.prog X.w) A (call (.builtin "isinstance") [u,c]) Q E s:=by
 cases ty with
 | non=>cases (show u=gH from rx);exact gO PySem.W.kitx_none I.kIn rR e (λz=>nomatch z) h
 | bl y=>cases (show u=EF y from rx);exact gO PySem.W.kitx_bool I.kIn rR e (λz=>nomatch z) h
 | int i=>obtain⟨t,q⟩:=(show ∃t,u=QM i t from rx);cases q;exact gO PySem.W.kitx_int I.kIn rR e (λz=>nomatch z) h
 | str y=>obtain⟨t,q⟩:=(show ∃t,u=QN y t from rx);cases q;exact gO PySem.W.kitx_str I.kIn rR e (λz=>nomatch z) h
 | flt y=>obtain⟨t,q⟩:=(show ∃t,u=Value.float y t from rx);cases q;exact gO PySem.W.kitx_float I.kIn rR e (λz=>nomatch z) h
 | @lst a xs ea =>
  cases (show u=fP a from rx)
  obtain⟨_,_,n,_,h1⟩:=(show ObjOk X.prog X.w H s.heap a (.lst xs) from I.hok a _ ea)
  exact gO uX I.kIn ⟨_,h1,rfl⟩ e (λz=>nomatch z) h
 | @frz a ob xs ea =>
  cases (show u=fP a from rx)
  obtain⟨_,_,_,n,_,h1⟩:=(show ObjOk X.prog X.w H s.heap a (.frz ob (.lst xs)) from I.hok a _ ea)
  exact gO uX I.kIn ⟨_,h1,rfl⟩ e (λz=>nomatch z) h
 | @tup a xs ea =>
  cases (show u=fP a from rx)
  obtain⟨_,_,_,p⟩:=(show ObjOk X.prog X.w H s.heap a (.tup xs) from I.hok a _ ea)
  obtain⟨o,h1,h2,_⟩:=p
  exact gO PySem.W.kitx_tuple I.kIn ⟨o,h1,h2⟩ e (λz=>nomatch z) h
 | @dK a kvs ea =>
  cases (show u=fP a from rx)
  obtain⟨_,_,vs,_,p⟩:=(show ObjOk X.prog X.w H s.heap a (.dK kvs) from I.hok a _ ea)
  obtain⟨o,es,ep,h1,h2,_⟩:=p
  exact gO FU I.kIn ⟨o,h1,h2.1⟩ e (λz=>nomatch z) h
 | @dT a kvs ea =>
  cases (show u=fP a from rx)
  obtain⟨_,_,xs,_,o,es,ep,h1,h2,_⟩:=(show ObjOk X.prog X.w H s.heap a (.dT kvs) from I.hok a _ ea)
  exact gO FU I.kIn ⟨o,h1,h2.1⟩ e (λz=>nomatch z) h
 | @ins a C dx fs ea cl ha hn htk hm =>
  cases (show u=fP a from rx)
  obtain⟨mA,O,_⟩:=Oa I.hok ea
  obtain⟨od,J,_⟩:=O.look
  exact gO (PySem.W.kitx_own (cl.get _) cl.hd ha hn htk hm) I.kIn J e (λz=>nomatch z) h
end
structure Room (k:Nat) (A:dF):Prop where
 hd:A.handled=none
 dp:A.depth+3*k+5<recursionLimit
 un:A.units+16*k+200<cLine
theorem Room.mono {j k:Nat} {A:dF} (r:Room k A) (h:j<=k):Room j A:=⟨r.hd,by have:=r.dp;lia,by have:=r.un;lia⟩
theorem Room.deeper {k:Nat} {A:dF} (r:Room (k+1) A) (env:Env):Room k (A.deeper env) :=
 ⟨r.hd,by have:=r.dp;show A.depth+1+3*k+5<_;lia,by have:=r.un;show A.units+3+16*k+200<_;lia⟩
theorem Room.depth {k:Nat} {A:dF} (r:Room k A):A.depth<recursionLimit:=by have:=r.dp;lia
theorem Room.units {k:Nat} {A:dF} (r:Room k A):A.units+64<cLine:=by have:=r.un;lia
def Zg:TA:=λ_ H Q=>Q [] H
def Xi (ta:TE) (tr:TA):TA:=λσ H Q=>ta σ H λx H1=>tr σ H1 λxs H2=>Q (x::xs) H2
section
variable {X:Cx} {e:Expr} {es:List Expr} {te:TE} {t:TA} {pos:Pos}
theorem NO:PA X [] Zg:=λ_ _ _ _ H Q I h=>qG ⟨[],H,I,.nil,h⟩
theorem xZ (ha:PE X e te) (hr:PA X es t) (hs:starEach (e::es) X.env=(false,eval e X.env)::starEach es X.env:=by rfl):PA X (e::es) (Xi te t):=by
 intro pos pins s σ H Q I h
 rw[hs]
 show wpAny _ _ (spliced ((false,eval e X.env)::backTo pos (starEach es X.env))) _ _ s
 refine pS (thn (ha pins s σ H _ I h) λu s1 ⟨x,H1,I1,r1,q1⟩=>?_)
 exact thn (hr pos pins s1 σ H1 _ I1 q1) λus s2 ⟨xs,H2,I2,r2,q2⟩=>⟨x::xs,H2,I2,.cons r1 r2,q2⟩
def Zm (t:TA):TE:=λσ H Q=>t σ H λxs H1=>xs.length<=sizeLine/\∀p,H1 p=none->Q (.ref p) (upd H1 p (.tup xs))
def Zf (t:TA):TE:=λσ H Q=>t σ H λxs H1=>xs.length<=sizeLine/\∀p,H1 p=none->Q (.ref p) (upd H1 p (.lst xs))
theorem Le {x1} (h:PA X es t):PE X (.Tuple es x1 pos) (Zm t):=by
 intro pins s σ H Q I hq
 refine wpAny_Tuple_spliced (thn (h pos pins s σ H _ I hq) λus s1 ⟨xs,H1,I1,r,z,q⟩=>⟨by rw[<-r.length];exact z,?_⟩)
 have hf:H1 s1.heap.objs.size=none:=I1.hok.fresh (bK _)
 refine⟨.ref s1.heap.objs.size,upd H1 s1.heap.objs.size (.tup xs),I1.laid (t':=s1.toks) (λb u e=>aN _ e) (bK _) ?_,rfl,q _ hf⟩
 exact⟨z,us,r,⟨_,bI _ rfl,rfl,_,rfl⟩⟩
theorem Tl (h:PA X es t):PE X (.List es pos) (Zf t):=by
 intro pins s σ H Q I hq
 refine wpAny_List_spliced (thn (h pos pins s σ H _ I hq) λus s1 ⟨xs,H1,I1,r,z,q⟩=>⟨by rw[<-r.length];exact z,?_⟩)
 have hf:H1 s1.heap.objs.size=none:=I1.hok.fresh (bK _)
 refine⟨.ref s1.heap.objs.size,upd H1 s1.heap.objs.size (.lst xs),I1.laid (t':=s1.toks) (λb u e=>aN _ e) (bK _) ?_,rfl,q _ hf⟩
 exact⟨z,us,0,r,bI _ rfl⟩
end
abbrev Sp:=List V->Hp->VK->XK->Prop
abbrev CXT:=List Env->Hp->aG->XK->aD->aG->Prop
structure Env0 (P:bV) (w:dE) (K:aH) (mg:Str->Option aD) (base:Heap) (A:dF) (outer:List Env) (s:aG) (H:Hp):Prop where
 frames:A.frames=some outer
 mod:Mod K mg base
 bs:∀b o,base.get? b=some o->s.heap.get? b=some o/\H b=none
 bsz:base.objs.size<=s.heap.objs.size
 funs:s.heap.FunFrames base outer
 frf:∀b∈frs outer,H b=none
 hok:HOk P w H s.heap
 bare:AllBare s.gens
def CE (outer:List Env) (P:bV) (w:dE) (H:Hp) (s:aG) (Q:VK) (u:aD) (s':aG):Prop :=
 ∃v H',s'.os=s.os/\AllBare s'.gens/\Un (frs outer) [] H H' s.heap s'.heap/\HOk P w H' s'.heap/\RelV v u/\Q v H'
def CR (CX:CXT) (outer:List Env) (P:bV) (w:dE) (H:Hp) (s:aG) (Q:VK) (E:XK) (r:Result) (s':aG):Prop :=
 match r with
 | .ok (.ret u)=>CE outer P w H s Q u s'
 | .ok _=>False
 | .error e=>CX outer H s E e s'
structure FnOk (P:bV) (w:dE) (K:aH) (mg:Str->Option aD) (base:Heap) (CX:CXT) (k:Nat) (f:Addr) (fd:lY) (ps:List Str) (sp:Sp):Prop where
 len:∀vs H Q E,sp vs H Q E->vs.length=ps.length
 run:∀(A:dF) (outer:List Env) (s:aG) (H:Hp) (args:Args) (us:List aD) (vs:List V) (Q:VK) (E:XK),Room k A->Env0 P w K mg base A outer s H->BindsTo s fd args (ps.zip us)->Vals vs us->sp vs H Q E ->
  codeAny (model P w) A (.call (.ref f) args) (CR CX outer P w H s Q E) s
section
variable {X:Cx} {pins:List (Addr × Obj)} {σ:St} {H:Hp} {s s':aG}
theorem Inv.env0 (I:Inv X pins σ H s):Env0 X.prog X.w X.K X.mg X.base X.A X.stack s H :=
 ⟨I.ok.frames,I.ok.mod,I.bs,fO I.ok.bsz I.sz,I.stack,I.stkFree,I.hok,I.bare⟩
theorem Inv.after {Q:VK} {u:aD} (I:Inv X pins σ H s) (h:CE X.stack X.prog X.w H s Q u s'):EP X pins σ Q u s':=by
 obtain⟨v,H',os,bare,un,hok,r,q⟩:=h
 obtain⟨hh,g,d,t,os'⟩:=s'
 obtain rfl:os'=s.os:=os
 exact⟨v,H',I.call (h':=hh) (g':=g) (d':=d) (t':=t) (ch:=[]) un hok bare (λb z=>absurd z (by simp)),r,q⟩
end
def Xh (sp:Sp) (dvs:List V) (E:XK) (t:TA):TE:=λσ H Q=>t σ H λvs H1=>sp (vs++dvs) H1 Q E
def Binds (K:aH) (fd:lY) (ps:List Str) (ds:List aD):Prop :=
 ∀(s:aG) (us:List aD),K.In s.heap->(us++ds).length=ps.length->BindsTo s fd ⟨us,[]⟩ (ps.zip (us++ds))
theorem Binds.all {K:aH} {fd:lY} {ps:List Str} (h:∀us:List aD,us.length=ps.length->bindArgs fd ⟨us,[]⟩=pure (ps.zip us)):Binds K fd ps []:=λs us _ hl=>by
 rw[eV] at hl ⊢
 exact .of_eq (h us hl)
def YT (CX:CXT) (X:Cx) (E:XK):Prop:=∀(pins:List (Addr × Obj)) (σ:St) (H:Hp) (s:aG) (e:aD) (s':aG),Inv X pins σ H s->CX X.stack H s E e s'->X.xe e s'
section
variable {X:Cx} {CX:CXT} {k:Nat} {f C:Addr} {fd:lY} {ps:List Str} {sp:Sp} {dvs:List V} {ds:List aD} {E:XK} {x m:Str} {p pos apos:Pos} {e o:Expr} {es:List Expr} {ta:TE} {t:TA}
theorem Uh {pins:List (Addr × Obj)} {σ:St} {H:Hp} {s:aG} {Q:VK} {us:List aD} {vs:List V} (F:FnOk X.prog X.w X.K X.mg X.base CX k f fd ps sp) (hr:Room k X.A) (hb:Binds X.K fd ps ds) (hd:Vals dvs ds) (hx:YT CX X E)
  (I:Inv X pins σ H s) (r:Vals vs us) (h:sp (vs++dvs) H Q E):wpAny (model X.prog X.w) X.A (call (.ref f) us) (EP X pins σ Q) X.xe s:=by
 have r2:Vals (vs++dvs) (us++ds):=r.append hd
 have hl:(us++ds).length=ps.length:=by rw[<-r2.length];exact F.len _ _ _ _ h
 refine wpAny_call (tO (F.run X.A X.stack s H ⟨us,[]⟩ (us++ds) (vs++dvs) Q E hr I.env0 (hb s us I.kIn hl) r2 h) λr s' hq=>?_)
 cases r with
 | error e=>exact hx pins σ H s e s' I hq
 | ok fl =>
  cases fl with
  | ret u=>exact I.after hq
  | next=>exact mM hq
  | brk=>exact mM hq
  | cont=>exact mM hq
theorem Do (F:FnOk X.prog X.w X.K X.mg X.base CX k f fd ps sp) (hr:Room k X.A) (hg:Gl X x) (hm:X.mg x=some (.ref f)) (hk:mG X.K (.ref f)=true) (hb:Binds X.K fd ps ds) (hd:Vals dvs ds) (hx:YT CX X E)
  (ha:PA X (e::es) t) (hdb:(x == ("__debug__":Str))=false:=by decide) (he:starEach (e::es) X.env=(false,eval e X.env)::starEach es X.env:=by rfl) (hpl:(backTo pos (starEach es X.env)).any (·.1)=false:=by rfl) :
  PE X (.Call (.Name x p) (e::es) [] pos) (Xh sp dvs E t):=by
 intro pins s σ H Q I h
 refine hU (Oe I hg hm ?_ hdb)
 refine PySem.W.callWith_K (h₀:=X.base) I.ok.mod.kin hk (thn (ha pos pins s σ H _ I h) λus s1 ⟨vs,H1,I1,r,q⟩=>⟨I1.kIn,?_⟩) he hpl
 exact Uh F hr hb hd hx I1 r q
end
section
variable {X:Cx} {CX:CXT} {k:Nat} {f C:Addr} {fd:lY} {ps ks:List Str} {sp:Sp} {E:XK} {x m:Str} {p pos apos kpos:Pos} {e o:Expr} {es:List Expr} {kws:List BC} {te ta:TE} {t tk:TA} {nm:Option Str}
variable {g:List aD->List aD->List aD} {gV:List V->List V->List V}
end
structure FnScope (N P:List Str) (sc:Scope):Prop where
 kind:sc.kind = .function
 co:sc.isCoroutine=false
 gen:sc.isGenerator=false
 nd:N.Nodup
 pre:N.take P.length=P
 par:∀x∈P,sc.names.lookup x=some .local\/sc.names.lookup x=some .cell
 nofree:∀y∈sc.names,y.2≠.free
theorem QR {kindOf:Str->Option NameKind} {x:Str}:∀{binds:List (Str × aD)} {m:Str->Option aD},(∀v,(x,v) ∉ binds)->bindL kindOf binds m x=m x
 | [],_,_=>rfl
 | (n,v)::r,m,h=>by
  unfold bindL
  rw[QR λw hw=>h w (aW _ hw)]
  split
  ·have:x≠n:=by rintro rfl;exact h v cF
   simp[this]
  ·rfl
theorem QP {kindOf:Str->Option NameKind} {x:Str}:∀{binds:List (Str × aD)} {m:Str->Option aD},(∀v,(x,v) ∉ binds)->bindC kindOf binds m x=m x
 | [],_,_=>rfl
 | (n,v)::r,m,h=>by
  unfold bindC
  rw[QP λw hw=>h w (aW _ hw)]
  split
  ·rfl
  ·have:x≠n:=by rintro rfl;exact h v cF
   simp[this]
theorem QQ {kindOf:Str->Option NameKind} {x:Str} {v:aD}:∀{P:List Str} {vs:List aD} {i:Nat} {m:Str->Option aD},P.Nodup->P[i]? = some x->vs[i]? = some v->kindOf x=some .local ->
  bindL kindOf (P.zip vs) m x=some v
 | [],_,_,_,_,h,_,_=>by simp at h
 | _::_,[],_,_,_,_,h,_=>by simp at h
 | p::P,w::vs,0,m,nd,h1,h2,hk=>by
  simp at h1 h2;subst h1;subst h2
  show bindL kindOf ((p,w)::P.zip vs) m p=_
  unfold bindL
  rw[QR λv hv=>(fM.mp nd).1 (sP hv).1,if_pos hk]
  simp
 | p::P,w::vs,i+1,m,nd,h1,h2,hk=>by
  show bindL kindOf ((p,w)::P.zip vs) m x=_
  unfold bindL
  exact QQ (i:=i) (fM.mp nd).2 (by simpa using h1) (by simpa using h2) hk
theorem QO {kindOf:Str->Option NameKind} {x:Str} {v:aD}:∀{P:List Str} {vs:List aD} {i:Nat} {m:Str->Option aD},P.Nodup->P[i]? = some x->vs[i]? = some v->kindOf x≠some .local ->
  bindC kindOf (P.zip vs) m x=some v
 | [],_,_,_,_,h,_,_=>by simp at h
 | _::_,[],_,_,_,_,h,_=>by simp at h
 | p::P,w::vs,0,m,nd,h1,h2,hk=>by
  simp at h1 h2;subst h1;subst h2
  show bindC kindOf ((p,w)::P.zip vs) m p=_
  unfold bindC
  rw[QP λv hv=>(fM.mp nd).1 (sP hv).1,if_neg hk]
  simp
 | p::P,w::vs,i+1,m,nd,h1,h2,hk=>by
  show bindC kindOf ((p,w)::P.zip vs) m x=_
  unfold bindC
  exact QO (i:=i) (fM.mp nd).2 (by simpa using h1) (by simpa using h2) hk
def start (N:List Str) (vs:List V):St:=vs.map some++eM (N.length-vs.length) none
def BU (CX:CXT) (P:bV) (w:dE) (K:aH) (mg:Str->Option aD) (base:Heap) (N:List Str) (qual:Str) (scope:Scope) (f:Addr) (cd:aD) (A:dF) (outer:List Env) (s:aG) (H:Hp) (E:XK):Cx where
 prog:=P
 w:=w
 K:=K
 mg:=mg
 base:=base
 A:=A.deeper (envOfC qual scope s.heap.objs.size f cd)
 N:=N
 s₀:=s
 H₀:=H
 env:=envOfC qual scope s.heap.objs.size f cd
 outer:=outer
 stack:=envOfC qual scope s.heap.objs.size f cd::outer
 ex:=[]
 calm:=true
 fn:=λ_=>true
 pn:=[]
 xe:=λe s'=>wpAny (model P w) (A.deeper (envOfC qual scope s.heap.objs.size f cd)) (leaving (envOfC qual scope s.heap.objs.size f cd) e) (λ_ s''=>CX outer H s E e s'') (λe' s''=>CX outer H s E e' s'') s'
theorem VE {sc:Scope} {n:Nat} {x:Str} (h:sc.names.lookup x=some .cell):∃c,(cellsFrom n sc.names []).lookup x=some c:=by
 have q:=xM sc.names n [] (.inl h)
 exact Option.isSome_iff_exists.mp q
theorem Ez {CX:CXT} {P:bV} {w:dE} {K:aH} {mg:Str->Option aD} {base:Heap} {N ps:List Str} {qual:Str} {scope:Scope} {f:Addr} {cd:aD} {A:dF} {outer:List Env} {s s1:aG} {H:Hp} {E:XK} {us:List aD} {vs:List V}
  (S:FnScope N ps scope) (hd:A.handled=none) (e0:Env0 P w K mg base A outer s H) (hl:vs.length=ps.length) (r:Vals vs us)
  (x:InCallC s s.heap.objs.size (bindL (envOfC qual scope s.heap.objs.size f cd).kindOf (ps.zip us) λ_=>none) (cellsFrom (s.heap.objs.size+1) scope.names []) (bindC (envOfC qual scope s.heap.objs.size f cd).kindOf (ps.zip us) λ_=>none) s1) :
  Inv (BU CX P w K mg base N qual scope f cd A outer s H E) [] (start N vs) H s1:=by
 have hpl:ps.length<=N.length:=by have:=congrArg fJ S.pre;rw[gE] at this;lia
 obtain⟨h1,tk,rfl,hk⟩:=x.done
 have noA:∀b:Addr,b ∉ (BU CX P w K mg base N qual scope f cd A outer s H E).ex:=λb z=>absurd (show b∈([]:List Addr) from z) (by simp)
 refine⟨⟨e0.mod,S.kind,rfl,rfl,bK _,λy z c h1 h2=>?_,λy hy=>?_,λy c _ h=>?_,λ_=>hd,Around.frames_deeper e0.frames,.inr ⟨rfl,rfl⟩,λb z=>absurd z (noA b),e0.bs,e0.bsz,λb _ _=>noA b,λb z=>absurd z (noA b),e0.funs,e0.frf⟩,
  rfl,e0.bare,Un.kept hk,⟨_,x.toInCall.ns,λi y v h1 h2 h3=>?_⟩,λy c h=>⟨_,x.cell y c h⟩,e0.hok.fresh (bK _),λy c h=>?_,λp hp=>absurd (show p∈([]:List (Addr × Obj)) from hp) (by simp),e0.hok.kept hk,?_⟩
 ·exact name_of_addr x.apart (kE h1) (kE h2)
 ·have hy:scope.names.lookup y=some .cell\/scope.names.lookup y=some .free:=hy
  rcases hy with hy | hy
  ·exact VE hy
  ·exact absurd rfl (S.nofree _ (kE hy))
 ·exact mT (x.above y c (kE h))
 ·have hi:i<vs.length:=by
   unfold start at h2
   by_cases hi:i<vs.length
   ·exact hi
   ·rw[cW (by simpa using hi)] at h2
    rw[iT] at h2
    split at h2 <;> cases h2
  have ha:vs[i]? = some v:=by
   unfold start at h2
   rw[cO (by simpa using hi),bJ] at h2
   cases e:vs[i]? with
   | none=>rw[e] at h2;cases h2
   | some a=>rw[e] at h2;cases h2;rfl
  obtain⟨u,hu,rv⟩:=r.get ha
  have hp:ps[i]? = some y:=by
   rw[<-S.pre,List.getElem?_take_of_lt (by lia)];exact h1
  have ndP:ps.Nodup:=by rw[<-S.pre];exact S.nd.sublist (FP _ _)
  refine⟨u,rv,?_⟩
  rcases S.par y (eY hp) with k | k
  ·exact .inl ⟨k,QQ ndP hp hu k⟩
  ·obtain⟨c,e⟩:=VE (n:=s.heap.objs.size+1) k
   refine .inr ⟨.inl k,c,e,?_⟩
   have q:=x.cell y c e
   rw[QO ndP hp hu (by show scope.names.lookup y≠_;rw[k];decide)] at q
   exact q
 ·exact e0.hok.fresh (mT (x.above y c (kE h)))
 ·unfold start
  show _=N.length
  rw[dI,cI,lB]
  lia
theorem Vl {CX:CXT} {P:bV} {w:dE} {K:aH} {mg:Str->Option aD} {base:Heap} {k:Nat} {f:Addr} {name qual:Str} {params:Arguments} {body:List Stmt} {scope:Scope} {dV kV doc pm cdv ct oc:aD} {an od:Option Addr}
  {osl:Array (Option aD)} {N ps:List Str} {sp:Sp} (lk:K.lookup f=some ⟨oc,od,.func (oS name qual params body scope dV kV doc pm an cdv ct),osl⟩) (hcd:uI K cdv qual=true) (S:FnScope N ps scope)
  (len:∀vs H Q E,sp vs H Q E->vs.length=ps.length)
  (hbody:∀(A:dF) (outer:List Env) (s:aG) (H:Hp) (vs:List V) (Q:VK) (E:XK),Room k (A.deeper (envOfC qual scope s.heap.objs.size f cdv))->sp vs H Q E ->
   ∃t,PSs (BU CX P w K mg base N qual scope f cdv A outer s H E) body t/\t { nx:=λ_ H'=>Q .non H',rt:=Q } (start N vs) H) :
  FnOk P w K mg base CX (k+1) f (oS name qual params body scope dV kV doc pm an cdv ct) ps sp:=by
 refine⟨len,λA outer s H args us vs Q E hr e0 hb r hsp=>?_⟩
 have hl:=len _ _ _ _ hsp
 have KX:K.In s.heap:=e0.mod.kin.keeps λb o e=>(e0.bs b o e).1
 have lim:s.heap.NoLimit:=e0.mod.nolimit.keeps λb o e=>(e0.bs b o e).1
 have hkind:∀y∈ps.zip us,scope.names.lookup y.1=some .local\/(scope.names.lookup y.1=some .cell/\((cellsFrom (s.heap.objs.size+1) scope.names []).lookup y.1).isSome=true):=λ⟨n,v⟩ hy=>by
  rcases S.par n (sP hy).1 with q | q
  ·exact .inl q
  ·exact .inr ⟨q,xM _ _ _ (.inl q)⟩
 refine codeAny_call_function hr.depth (KX _ _ lk) rfl S.co S.gen rfl (PySem.W.codeRec_of KX hcd) (hb _ _ _ _ ?_)
 refine wpAny_newFunctionEnv_cells S.kind hkind λenv he s1 x=>?_
 subst he
 refine⟨lim.keeps x.toInCall.keep,codeAny_func ?_⟩
 obtain⟨t,ht,hq⟩:=hbody A outer s H vs Q E (hr.deeper _) hsp
 have I:Inv (BU CX P w K mg base N qual scope f cdv A outer s H E) [] (start N vs) H s1:=Ez S hr.hd e0 hl r x
 refine jL (ht [] s1 (start N vs) H _ I hq) (λfl s' hs=>?_) λe s' hs=>hs
 have fin:∀{σ':St} {H':Hp} {v:V} {u:aD},Inv (BU CX P w K mg base N qual scope f cdv A outer s H E) [] σ' H' s'->RelV v u->Q v H'->CE outer P w H s Q u s' :=
  λ{σ' H' v u} J rv q=>⟨v,H',J.os,J.bare,J.base,J.hok,rv,q⟩
 cases fl with
 | ret u =>
  obtain⟨v,σ',H',J,rv,q⟩:=hs
  exact fin J rv q
 | next =>
  obtain⟨σ',H',J,q⟩:=hs
  exact fin (v:=V.non) (u:=gH) J rfl q
 | brk =>
  obtain⟨_,_,_,q⟩:=hs
  exact mM q
 | cont =>
  obtain⟨_,_,_,q⟩:=hs
  exact mM q
section
variable {X:Cx} {x:Str} {p pos:Pos} {e:Expr} {es:List Expr} {t:TA} {id T:String} {r:List V->Hp->VK->Prop}
def tCB (r:List V->Hp->VK->Prop) (t:TA):TE:=λσ H Q=>t σ H λvs H1=>r vs H1 Q
theorem wM (hc:yF X (.builtin id) r) (hg:Gl X x) (hm:X.mg x=none) (hv:bootBuiltins x=some (.builtin id)) (ha:PA X (e::es) t) (hn:x≠"__name__":=by decide) (hdb:(x == ("__debug__":Str))=false:=by decide)
  (he:starEach (e::es) X.env=(false,eval e X.env)::starEach es X.env:=by rfl) (hpl:(backTo pos (starEach es X.env)).any (·.1)=false:=by rfl):PE X (.Call (.Name x p) (e::es) [] pos) (tCB r t):=by
 intro pins s σ H Q I h
 refine hU (vQ I hg hm hv ?_ hn hdb)
 exact rQ (thn (ha pos pins s σ H _ I h) λus s1 ⟨vs,H1,I1,r1,q1⟩=>hc pins s1 σ H1 vs us Q I1 r1 q1) he hpl
theorem IR (hc:yF X (.type T) r) (hg:Gl X x) (hm:X.mg x=none) (hv:bootBuiltins x=some (.type T)) (ha:PA X (e::es) t) (hn:x≠"__name__":=by decide) (hdb:(x == ("__debug__":Str))=false:=by decide)
  (he:starEach (e::es) X.env=(false,eval e X.env)::starEach es X.env:=by rfl) (hpl:(backTo pos (starEach es X.env)).any (·.1)=false:=by rfl):PE X (.Call (.Name x p) (e::es) [] pos) (tCB r t):=by
 intro pins s σ H Q I h
 refine hU (vQ I hg hm hv ?_ hn hdb)
 exact fY (thn (ha pos pins s σ H _ I h) λus s1 ⟨vs,H1,I1,r1,q1⟩=>hc pins s1 σ H1 vs us Q I1 r1 q1) he hpl
end
end L2
namespace HT
open PySem PyProof.Rows
def lexLt:List Int->List Int->Bool
 | [],[]=>false
 | [],_::_=>true
 | _::_,[]=>false
 | x::xs,y::ys=>if x=y then lexLt xs ys else decide (x<y)
theorem lexLt_cons (x y:Int) (xs ys:List Int):lexLt (x::xs) (y::ys)=if x=y then lexLt xs ys else decide (x<y):=rfl
theorem PM:lexLt [] []=false:=rfl
theorem NF (y:Int) (ys:List Int):lexLt [] (y::ys)=true:=rfl
theorem NE (x:Int) (xs:List Int):lexLt (x::xs) []=false:=rfl
theorem Jr (A:dF) (s:aG) (a:Int) (t:Tok) (c:Int) (u:Tok):∃e,EB A s (.int a t) (.int c u) e/\(e=true↔a=c) :=
 ⟨(a == c),EC a t c u,by simp⟩
theorem Lv (A:dF) (s:aG) (a:Int) (t:Tok) (c:Int) (u:Tok) (prog:bV) (w:dE) (E:aD->aG->Prop) (Q:aD->aG->Prop) (h:Q (.bool (decide (a<c))) s) :
  wpAny (model prog w) A (richCompare .Lt (.int a t) (.int c u)) Q E s :=
 (PyProof.Rows.lt_int h:wpAny (model prog w) A (compareOp .Lt (.int a t) (.int c u)) Q E s)
section
open PySem.SeqAt
open PySem.AutoSeq1 (wpAny_loadPart')
open PySem.MeetsSeq PySem.MeetsSeq2 PySem.MeetsSeq3
theorem QF (l b:Addr) (items items2:Array aD) (n n2:Nat) (dd dd2:Option Addr) (sl sl2:Array (Option aD)) (ns ms:List Int) (hi:IntsAre items.toList ns) (hj:IntsAre items2.toList ms) :
  Meets (Builtin.«tuple.__lt__» ⟨[.ref l,.ref b],[]⟩)
   (λ_ R s=>s.heap.get? l=some { cls:=.type "tuple",dict:=dd,data:=.seq items n,slots:=sl }/\s.heap.get? b=some { cls:=.type "tuple",dict:=dd2,data:=.seq items2 n2,slots:=sl2 } /\
    R (.ok (.ret (.bool (lexLt ns ms)))) s) :=
 .of_wp λprog w A R s h=>by
  obtain⟨hp,g,d,tk,os⟩:=s;obtain⟨hl,hb,h⟩:=h
  have f2:=AutoSeq1.sub_tuple_tuple
  have z1:items.size=ns.length:=by rw[<-hi.length];simp
  have z2:items2.size=ms.length:=by rw[<-hj.length];simp
  wp_walk using KP hl,KP hb,sE _ (λrest b s'=>b.1=none/\s'=⟨hp,g,d,tk,os⟩/\∃(vs ws:List aD) (ns' ms':List Int),rest=vs.zip ws /\
   IntsAre vs ns'/\IntsAre ws ms'/\ns'.length+items2.size=ms'.length+items.size/\R (.ok (.ret (.bool (lexLt ns' ms')))) ⟨hp,g,d,tk,os⟩) _
  case turn =>
   rintro⟨y,x⟩ rest b s' ⟨hb',rfl,vs,ws,ns',ms',hz,hvi,hwi,hlen,hR⟩
   cases hvi with
   | nil=>rw[List.zip_nil_left] at hz;cases hz
   | cons a t hvi' =>
    cases hwi with
    | nil=>rw[List.zip_nil_right] at hz;cases hz
    | cons c u hwi' =>
     rw[mS] at hz
     injection hz with hyx hrest
     injection hyx with hy hx
     subst hy hx
     rw[lexLt_cons] at hR
     simp only[bZ] at hlen
     obtain⟨e,he,hiff⟩:=Jr A.in1 ⟨hp,g,d,tk,os⟩ a t c u
     refine aA (he prog w _ _ ?_)
     cases e with
     | true =>
      rw[if_pos (hiff.mp rfl)] at hR
      wp_walk
      exact⟨rfl,rfl,_,_,_,_,hrest,hvi',hwi',by lia,hR⟩
     | false =>
      rw[if_neg (λq=>absurd (hiff.mpr q) cJ)] at hR
      have hri:=Lv A.in1 ⟨hp,g,d,tk,os⟩ a t c u prog w
      wp_walk using hri
      exact⟨_,rfl,by simpa using hR⟩
  case fin =>
   rintro⟨b1,b2⟩ s' ⟨hb',rfl,vs,ws,ns',ms',hz,hvi,hwi,hlen,hR⟩
   simp only at hb'
   subst hb'
   have hv:lexLt ns' ms'=decide (items.size<items2.size):=by
    cases hvi with
    | nil =>
     cases hwi with
     | nil =>
      simp only[eW] at hlen
      rw[PM]
      exact (decide_eq_false (by lia)).symm
     | cons c u hw =>
      simp only[eW,bZ] at hlen
      rw[NF]
      exact (decide_eq_true (by lia)).symm
    | cons a t hv =>
     cases hwi with
     | nil =>
      simp only[eW,bZ] at hlen
      rw[NE]
      exact (decide_eq_false (by lia)).symm
     | cons c u hw =>
      rw[mS] at hz
      cases hz
   rw[hv] at hR
   wp_walk
   exact⟨_,rfl,by simpa [Builtin.Tuple.tupleCompareSizes] using hR⟩
  case h =>
   exact⟨rfl,rfl,items.toList,items2.toList,ns,ms,rfl,hi,hj,by lia,h⟩
end
section
variable {prog:bV} {w:dE} {A:dF} {E:aD->aG->Prop} {s:aG}
theorem lt_tupInts {l b:Addr} {items items2:Array aD} {ns ms:List Int} {Q:aD->aG->Prop} (hl:IsTup s.heap l items) (hb:IsTup s.heap b items2) (hi:IntsAre items.toList ns) (hj:IntsAre items2.toList ms)
  (hu:A.units<cLine) (h:Q (.bool (lexLt ns ms)) s):wpAny (model prog w) A (compareOp .Lt (.ref l) (.ref b)) Q E s:=by
 obtain⟨⟨cls,dd,data,sl⟩,ho,hc,n,hd⟩:=id hl
 obtain⟨⟨cls2,dd2,data2,sl2⟩,ho2,hc2,n2,hd2⟩:=id hb
 simp only at hc hd hc2 hd2
 subst hc hd hc2 hd2
 exact richCompare_meets_room (op:=.Lt) ⟨_,ho,rfl⟩ ⟨_,ho2,rfl⟩ PySem.F.slot_tuple_lt PySem.F.entry_tuple_lt (PySem.F.args_tuple_lt_2 _ _) (QF l b items items2 n n2 dd dd2 sl sl2 ns ms hi hj)
  ⟨ho,ho2,show EF (lexLt ns ms)≠Value.notImplemented/\Q (.bool (lexLt ns ms)) s from ⟨(λx=>nomatch x),h⟩⟩ hu
theorem cat_tup {t b:Addr} {vs ws:List aD} {Q:aD->aG->Prop} (ht:IsTup s.heap t vs.toArray) (hb:IsTup s.heap b ws.toArray) (hv:vs≠[])
  (h1:ws=[]->Q (.ref t) s) (h2:ws≠[]->Q (.ref s.heap.objs.size) { s with heap:=s.heap.push { cls:=.type "tuple",data:=.seq (vs++ws).toArray } })
  (hsz:vs.length+ws.length<=sizeLine):wpAny (model prog w) A (binaryOp .Add (.ref t) (.ref b)) Q E s:=by
 obtain⟨⟨cls,dd,data,sl⟩,ho,hc,n,hd⟩:=id ht
 obtain⟨⟨cls2,dd2,data2,sl2⟩,ho2,hc2,n2,hd2⟩:=id hb
 simp only at hc hd hc2 hd2
 subst hc hd hc2 hd2
 have e:vs.toArray++ws.toArray=(vs++ws).toArray:=by simp
 by_cases hw:ws=[]
 ·exact GC ⟨_,ho,rfl⟩ ⟨_,ho2,rfl⟩ IN QC xL wE (vO _ _)
   (tuple_addW1 t b vs.toArray ws.toArray n n2 dd dd2 sl sl2 (by simpa using hv) (by simp[hw])) ⟨ho,ho2,h1 hw⟩
 ·refine GC ⟨_,ho,rfl⟩ ⟨_,ho2,rfl⟩ IN QC xL wE (vO _ _)
   (tuple_addW2 t b vs.toArray ws.toArray n n2 dd dd2 sl sl2 (by simpa using hv) (by simpa using hw) (by rw[bD,bD];exact hsz)) ⟨ho,ho2,?_⟩
  rw[e]
  exact h2 hw
def sIx (n d:Nat):Option Int->Nat
 | none=>d
 | some v=>if v<0 then (v+(n:Int)).toNat else min v.toNat n
theorem sIx_none (n d:Nat):sIx n d none=d:=rfl
theorem sIx_nat (n d k:Nat):sIx n d (some (k:Int))=min k n:=by
 show (if (k:Int)<0 then ((k:Int)+(n:Int)).toNat else min (k:Int).toNat n)=min k n
 rw[if_neg (by lia),nR]
theorem Ui (n d:Nat) (hd:d<=n) (o:Option Int):sIx n d o<=n:=by
 cases o with
 | none=>exact hd
 | some v =>
  show (if v<0 then (v+(n:Int)).toNat else min v.toNat n)<=n
  by_cases hv:v<0
  ·rw[if_pos hv];lia
  ·rw[if_neg hv];exact Nat.min_le_right _ _
theorem Ck (v:Int) (n d:Nat):(if v<0 then max (v+(n:Int)) 0 else min v (n:Int))=((sIx n d (some v):Nat):Int):=by
 show (if v<0 then max (v+(n:Int)) 0 else min v (n:Int))=(((if v<0 then (v+(n:Int)).toNat else min v.toNat n):Nat):Int)
 by_cases hv:v<0
 ·simp only[if_pos hv];lia
 ·simp only[if_neg hv];lia
theorem YW (lo hi:Option Int) (n:Nat):oZ lo hi 1 (n:Int)=(((sIx n 0 lo:Nat):Int),((sIx n n hi:Nat):Int)):=by
 have h1:¬((1:Int)<0):=by lia
 unfold oZ
 simp only[h1,if_false]
 refine lJ ?_ ?_
 ·cases lo with
  | none=>rfl
  | some v=>exact Ck v n 0
 ·cases hi with
  | none=>rfl
  | some v=>exact Ck v n n
theorem Ao (i j:Nat):lE (i:Int) (j:Int) 1=j-i:=by
 unfold lE
 have h1:(1:Int) > 0:=by lia
 simp only[h1,if_true,Int.ediv_one]
 split <;> lia
theorem OH {v:aD} {o:Option Int} {Q:Option Int->aG->Prop} (p:IsPart v o) (h:Q o s):wpAny (model prog w) A (Builtin.Slice.slicePartIndex v) Q E s:=by
 cases p with
 | none=>exact OI h
 | int i t=>exact slicePart_int h
theorem IV {sl:Addr} {vl vu:aD} {lo hi:Option Int} {n:Nat} {Q:Int × Int × Nat->aG->Prop} (hs:s.heap.IsSliceOf sl vl vu .none) (pl:IsPart vl lo) (pu:IsPart vu hi)
  (h:Q (((sIx n 0 lo:Nat):Int),1,sIx n n hi-sIx n 0 lo) s):wpAny (model prog w) A (tZ (.ref sl) (pure (n:Int))) Q E s:=by
 obtain⟨os,hos,hcs,hds⟩:=id hs
 unfold tZ Builtin.Slice.sliceFields
 refine aA (aA (fQ hos hds (x:=vl) rfl (aA (fQ hos hds (x:=vu) rfl (aA (fQ hos hds (x:=.none) rfl (aI ?_)))))))
 refine aA (OI ?_)
 show wpAny _ _ (if ((1:Int) == 0)=true then _ else _) _ _ s
 rw[if_neg (by decide)]
 refine aA (OH pl (aA (OH pu (aA (aI ?_)))))
 show wpAny _ _ (match oZ lo hi 1 (n:Int) with | (lo,hi)=>pure (lo,(1:Int),lE lo hi 1)) _ _ s
 rw[YW lo hi n]
 show wpAny _ _ (pure (((sIx n 0 lo:Nat):Int),(1:Int),lE ((sIx n 0 lo:Nat):Int) ((sIx n n hi:Nat):Int) 1)) _ _ s
 rw[Ao]
 exact aI h
theorem Lg (xs:Array aD) (i k:Nat):((dM k).filterMap λ(m:Nat)=>xs[((i:Int)+(m:Int)*1).toNat]?).toArray=((xs.toList.drop i).take k).toArray:=by
 have e:(λ(m:Nat)=>xs[((i:Int)+(m:Int)*1).toNat]?)=λm=>xs[i+m]?:=by
  funext m
  have:((i:Int)+(m:Int)*1).toNat=i+m:=by lia
  rw[this]
 rw[e]
 have:=pick_run xs i k
 rw[List.filterMap_map] at this
 have e2:((λx=>xs[x]?) ∘ λx=>i+x)=λm=>xs[i+m]?:=rfl
 rw[e2] at this
 rw[this]
theorem getItem_tuple_cut {t sl:Addr} {items:Array aD} {vl vu:aD} {lo hi:Option Int} {Q:aD->aG->Prop} (ht:IsTup s.heap t items) (hs:s.heap.IsSliceOf sl vl vu .none) (pl:IsPart vl lo) (pu:IsPart vu hi)
  (hw:¬(sIx items.size 0 lo=0/\sIx items.size items.size hi=items.size))
  (h:Q (.ref s.heap.objs.size) { s with heap:=s.heap.push { cls:=.type "tuple",data:=.seq ((items.toList.drop (sIx items.size 0 lo)).take (sIx items.size items.size hi-sIx items.size 0 lo)).toArray } })
  (hsz:items.size<=sizeLine):wpAny (model prog w) A (getItem (.ref t) (.ref sl)) Q E s:=by
 have htake:sizeOk (.seq ((items.toList.drop (sIx items.size 0 lo)).take (sIx items.size items.size hi-sIx items.size 0 lo)).toArray):=by
  show ((items.toList.drop (sIx items.size 0 lo)).take (sIx items.size items.size hi-sIx items.size 0 lo)).toArray.size<=sizeLine
  rw[bD,gE,mC,cM]
  lia
 have hj:sIx items.size items.size hi<=items.size:=Ui _ _ (bK _) hi
 obtain⟨os,hos,hcs,hds⟩:=id hs
 have hTs:s.TypeIs (.ref sl) "slice":=⟨os,hos,hcs⟩
 unfold getItem
 try with_reducible refine fL ?_
 first | refine aA (aI ?_) | skip
 refine aA (wpAny_sequenceKey ht.typeIs (by decide) ?_)
 refine aA (gU (name:=lM "__getitem__") ht.typeIs rD
  (iE rD ht.typeIs entry_tuple_getitem ?_ (args_tuple_getitem _ _)))
 show wpAny _ _ (Builtin.Tuple.tupleItemsOf (.ref t) >>= _) _ _ s
 refine aA (tupleItemsOf_ ht ?_)
 refine aA (rA hTs ?_)
 rw[if_pos (by decide)]
 refine aA (IV hs pl pu ?_)
 have hno:¬((((sIx items.size 0 lo:Nat):Int) == 0 && (1:Int) == 1 && (sIx items.size items.size hi-sIx items.size 0 lo) == items.size)=true):=by
  intro q
  rw[fC,fC] at q
  have q1:((sIx items.size 0 lo:Nat):Int)=0:=eq_of_beq q.1.1
  have q2:sIx items.size items.size hi-sIx items.size 0 lo=items.size:=eq_of_beq q.2
  exact hw ⟨by lia,by lia⟩
 show wpAny _ _ (if (((sIx items.size 0 lo:Nat):Int) == 0 && (1:Int) == 1 && (sIx items.size items.size hi-sIx items.size 0 lo) == items.size)=true then _ else _) _ _ s
 rw[if_neg hno,Lg]
 first
  | exact aA (m:=lQ _) (fE (aI ⟨_,rfl,aI h⟩) htake)
  | exact aA (m:=lQ _) (fE (aA (aI (aI ⟨_,rfl,aI h⟩))) htake)
  | exact aA (aA (m:=lQ _) (fE (aI (aI ⟨_,rfl,aI h⟩)) htake))
  | exact aA (aA (m:=lQ _) (fE (aI ⟨_,rfl,aI h⟩) htake))
end
end HT
namespace L2
open PySem PySem.Spec PyProof.Rows
abbrev TO:=St->Hp->(Option Int->Hp->Prop)->Prop
def PO (X:Cx) (e:Option Expr) (t:TO):Prop :=
 ∀(pins:List (Addr × Obj)) (s:aG) (σ:St) (H:Hp) (Q:Option Int->Hp->Prop),Inv X pins σ H s->t σ H Q ->
  wpAny (model X.prog X.w) X.A (evalPart e X.env) (λu s'=>∃o H',Inv X pins σ H' s'/\IsPart u o/\Q o H') X.xe s
def Qi:TO:=λ_ H Q=>Q none H
def Xm (t:TE):TO:=λσ H Q=>t σ H λx H1=>∃i,x = .int i/\Q (some i) H1
theorem intsAre_of {ns:List Int}:∀{us:List aD},Vals (ns.map V.int) us->IntsAre us ns:=by
 induction ns with
 | nil=>intro us r;rw[bU] at r;cases r;exact .nil
 | cons n ns ih =>
  intro us r
  rw[aT] at r
  cases r with
  | cons r1 r2 =>
   obtain⟨t,e⟩:=r1
   subst e
   exact .cons n t (ih r2)
section
variable {X:Cx} {e:Expr} {te:TE} {lo hi:Option Expr} {tl th:TO} {pos p2:Pos}
theorem Pn:PO X none Qi:=by
 intro pins s σ H Q I h
 rw[PL]
 exact aI ⟨none,H,I,.none,h⟩
theorem Po (h:PE X e te):PO X (some e) (Xm te):=by
 intro pins s σ H Q I hw
 rw[evalPart_some]
 refine thn (h pins s σ H _ I hw) λu s1 ⟨x,H1,I1,r1,q1⟩=>?_
 obtain⟨i,rfl,q⟩:=q1
 obtain⟨t,rfl⟩:=r1
 exact⟨some i,H1,I1,.int i t,q⟩
def SlR (X:Cx) (r:V->Option Int->Option Int->Hp->VK->Prop):Prop :=
 ∀(pins:List (Addr × Obj)) (s:aG) (σ:St) (H:Hp) (x:V) (v vl vu:aD) (lo hi:Option Int) (sl:Addr) (Q:VK),Inv X pins σ H s->RelV x v->s.heap.IsSliceOf sl vl vu .none->IsPart vl lo->IsPart vu hi->r x lo hi H Q ->
  ∃T id,typeLookup (.type T) "__getitem__" = pure (some (.builtin id))/\s.TypeIs v T/\wpAny (model X.prog X.w) X.A (getItem v (.ref sl)) (EP X pins σ Q) X.xe s
theorem SlR.or {r r':V->Option Int->Option Int->Hp->VK->Prop} (h:SlR X r) (h':SlR X r'):SlR X (λx lo hi H Q=>r x lo hi H Q\/r' x lo hi H Q):=by
 intro pins s σ H x v vl vu lo hi sl Q I rx hs pl pu q
 rcases q with q | q
 ·exact h pins s σ H x v vl vu lo hi sl Q I rx hs pl pu q
 ·exact h' pins s σ H x v vl vu lo hi sl Q I rx hs pl pu q
def tSl (r:V->Option Int->Option Int->Hp->VK->Prop) (te:TE) (tl th:TO):TE:=λσ H Q=>te σ H λx H1=>tl σ H1 λl H2=>th σ H2 λu H3=>r x l u H3 Q
theorem XH {r:V->Option Int->Option Int->Hp->VK->Prop} (hr:SlR X r) (he:PE X e te) (hl:PO X lo tl) (hu:PO X hi th):PE X (.Subscript e (.Slice lo hi none p2) pos) (tSl r te tl th):=by
 intro pins s σ H Q I h
 refine Subscript_ (thn (he pins s σ H _ I h) λv s1 ⟨x,H1,I1,r1,q1⟩=>?_)
 refine wpAny_Slice (thn (hl pins s1 σ H1 _ I1 q1) λvl s2 ⟨l,H2,I2,pl,q2⟩=>thn (hu pins s2 σ H2 _ I2 q2) λvu s3 ⟨u,H3,I3,pu,q3⟩=>?_)
 rw[PL]
 refine aI ?_
 have I4:Inv X pins σ H3 { s3 with heap:=s3.heap.push { cls:=.type "slice",data:=.fields #[vl,vu,.none] } }:=I3.kept (t':=s3.toks) λb ob q=>aN _ q
 obtain⟨T,id,hT,ht,hg⟩:=hr pins { s3 with heap:=s3.heap.push { cls:=.type "slice",data:=.fields #[vl,vu,.none] } } σ H3 x v vl vu l u s3.heap.objs.size Q I4 r1 (Heap.IsSliceOf.new ..) pl pu q3
 show wpAny (model X.prog X.w) X.A (subscriptTail e (.Slice lo hi none p2) v (.ref s3.heap.objs.size)) (EP X pins σ Q) X.xe { s3 with heap:=s3.heap.push { cls:=.type "slice",data:=.fields #[vl,vu,.none] } }
 exact tail_any (ops:=[.ref s3.heap.objs.size,v]) ht hT hg (by with_unfolding_all rfl)
def PJ (xs:List V) (lo hi:Option Int):List V:=(xs.drop (HT.sIx xs.length 0 lo)).take (HT.sIx xs.length xs.length hi-HT.sIx xs.length 0 lo)
theorem JD (xs:List V) (lo hi:Option Int):(PJ xs lo hi).length<=xs.length:=by
 unfold PJ
 rw[gE,mC]
 lia
def Yq (K:aH):V->Option Int->Option Int->Hp->VK->Prop:=λx lo hi H Q=>∃a xs,x = .ref a/\SqT K H a xs /\
 ¬(HT.sIx xs.length 0 lo=0/\HT.sIx xs.length xs.length hi=xs.length)/\∀p,H p=none->Q (.ref p) (upd H p (.tup (PJ xs lo hi)))
theorem Uj:SlR X (Yq X.K):=by
 intro pins s σ H x v vl vu lo hi sl Q I rx hs pl pu h
 obtain⟨a,xs,rfl,hx,hw,q⟩:=h
 cases rx
 obtain⟨its,r,ht,hz⟩:=I.tuple hx
 have hlen:its.toArray.size=xs.length:=by rw[bD];exact r.length.symm
 refine⟨"tuple",_,PyProof.Rows.slot_tuple_getitem.lookup,ht.typeIs,?_⟩
 refine HT.getItem_tuple_cut ht hs pl pu (by rw[hlen];exact hw) ?_ (by rw[hlen];exact hz)
 rw[hlen]
 refine⟨.ref s.heap.objs.size,_,I.laid (t':=s.toks) (o:=.tup (PJ xs lo hi)) (λb ob q=>aN _ q) (bK _) ?_,rfl,q _ (I.hok.fresh (bK _))⟩
 exact⟨fO (JD xs lo hi) hz,_,(r.drop (HT.sIx xs.length 0 lo)).take (HT.sIx xs.length xs.length hi-HT.sIx xs.length 0 lo),HM _ _⟩
def Ym (K:aH):R2:=λx y H Q=>∃a b ns ms,x = .ref a/\y = .ref b/\SqT K H a (ns.map V.int)/\SqT K H b (ms.map V.int)/\Q (.bl (HT.lexLt ns ms)) H
theorem Tj (hu:X.A.units<cLine):OpR X (compareOp .Lt) (Ym X.K):=by
 intro pins s σ H x y v u Q I rx ry h
 obtain⟨a,b,ns,ms,rfl,rfl,ha,hb,q⟩:=h
 cases rx
 cases ry
 obtain⟨its,r1,p1,_⟩:=I.tuple ha
 obtain⟨its2,r2,p2,_⟩:=I.tuple hb
 have i1:IntsAre its.toArray.toList ns:=intsAre_of r1
 have i2:IntsAre its2.toArray.toList ms:=intsAre_of r2
 exact HT.lt_tupInts p1 p2 i1 i2 hu ⟨.bl (HT.lexLt ns ms),H,I,rfl,q⟩
def Wp (K:aH):R2:=λx y H Q=>∃a b xs ys,x = .ref a/\y = .ref b/\SqT K H a xs/\SqT K H b ys/\xs≠[]/\xs.length+ys.length<=sizeLine /\
 (ys=[]->Q (.ref a) H)/\(ys≠[]->∀p,H p=none->Q (.ref p) (upd H p (.tup (xs++ys))))
theorem Vals.nil_iff {xs:List V} {us:List aD} (r:Vals xs us):us=[]↔xs=[]:=by
 cases r with
 | nil=>simp
 | cons _ _=>simp
theorem Pd:OpR X (binaryOp .Add) (Wp X.K):=by
 intro pins s σ H x y v u Q I rx ry h
 obtain⟨a,b,xs,ys,rfl,rfl,ha,hb,hx,hz,q1,q2⟩:=h
 cases rx
 cases ry
 obtain⟨its,r1,p1,_⟩:=I.tuple ha
 obtain⟨its2,r2,p2,_⟩:=I.tuple hb
 refine HT.cat_tup p1 p2 (λz=>hx (r1.nil_iff.mp z)) (λz=>⟨.ref a,H,I,rfl,q1 (r2.nil_iff.mp z)⟩) (λz=>?_) (by rw[<-r1.length,<-r2.length];exact hz)
 refine⟨.ref s.heap.objs.size,_,I.laid (t':=s.toks) (o:=.tup (xs++ys)) (λb ob q=>aN _ q) (bK _) ?_,rfl,q2 (λw=>z (r2.nil_iff.mpr w)) _ (I.hok.fresh (bK _))⟩
 exact⟨by rw[dI];exact hz,_,r1.append r2,HM _ _⟩
end
def ixN (n:Nat) (i:Int):Option Nat:=if 0<=i then (if i<n then some i.toNat else none) else if -(n:Int)<=i then some (i+n).toNat else none
def atI {α:Type} (xs:List α) (i:Int):Option α:=(ixN xs.length i).bind λj=>xs[j]?
theorem Ob {n:Nat} {i:Int} {j:Nat} (h:ixN n i=some j):seqIndex? i n=some j/\j<n/\-(n:Int)<=i/\i<n:=by
 unfold ixN at h
 by_cases h0:0<=i
 ·rw[if_pos h0] at h
  by_cases h1:i<n
  ·rw[if_pos h1] at h
   have e:i.toNat=j:=dN h
   exact⟨by rw[seqIndex_of h0 h1,e],by lia,by lia,h1⟩
  ·rw[if_neg h1] at h;cases h
 ·rw[if_neg h0] at h
  by_cases h1:-(n:Int)<=i
  ·rw[if_pos h1] at h
   have e:(i+n).toNat=j:=dN h
   exact⟨by rw[seqIndex_neg (by lia) h1,e],by lia,h1,by lia⟩
  ·rw[if_neg h1] at h;cases h
theorem Cf {α:Type} {xs:List α} {i:Int} {v:α} (h:atI xs i=some v):∃j,seqIndex? i xs.length=some j/\xs[j]? = some v/\j<xs.length/\-(xs.length:Int)<=i/\i<xs.length:=by
 unfold atI at h
 cases e:ixN xs.length i with
 | none=>rw[e] at h;cases h
 | some j =>
  rw[e] at h
  obtain⟨h1,h2,h3,h4⟩:=Ob e
  exact⟨j,h1,h,h2,h3,h4⟩
theorem Cg {α:Type} {xs:List α} {j:Nat} {v:α} (h:xs[j]? = some v):atI xs (j:Int)=some v:=by
 have hj:j<xs.length:=(aX.mp h).1
 have e:ixN xs.length (j:Int)=some j:=by
  unfold ixN
  rw[if_pos (by lia),if_pos (by lia)];simp
 unfold atI;rw[e];exact h
theorem UZ {α:Type} (xs:List α) (v:α):atI (xs++[v]) (-1)=some v:=by
 have hl:(xs++[v]).length=xs.length+1:=by simp
 have e:ixN (xs++[v]).length (-1)=some xs.length:=by
  unfold ixN
  rw[hl,if_neg (by decide),if_pos (by lia)]
  congr 1
  lia
 unfold atI
 rw[e]
 show (xs++[v])[xs.length]? = some v
 simp
def Cc (b:Expr):Prop:=∀o i,subscripted b false o i=operate [o,i] (getItem o i)
def IxR (X:Cx) (r:R2):Prop :=
 ∀(value slice:Expr) (pins:List (Addr × Obj)) (s:aG) (σ:St) (H:Hp) (x y:V) (v u:aD) (Q:VK),Inv X pins σ H s->RelV x v->RelV y u->r x y H Q ->
  subscripted slice false v u=operate [v,u] (getItem v u)->wpAny (model X.prog X.w) X.A (subscriptTail value slice v u) (EP X pins σ Q) X.xe s
def MtR (X:Cx) (id:String) (r:V->List V->Hp->VK->Prop):Prop :=
 ∀(pins:List (Addr × Obj)) (s:aG) (σ:St) (H:Hp) (x:V) (xs:List V) (v:aD) (us:List aD) (Q:VK),Inv X pins σ H s->RelV x v->Vals xs us->r x xs H Q ->
  wpAny (model X.prog X.w) X.A (call (.builtin id) (v::us)) (EP X pins σ Q) X.xe s
section
variable {X:Cx} {a b:Expr} {ta tb:TE} {pos:Pos}
theorem IxR.or {r r':R2} (h:IxR X r) (h':IxR X r'):IxR X (λx y H Q=>r x y H Q\/r' x y H Q):=by
 intro value slice pins s σ H x y v u Q I rx ry q hs
 rcases q with q | q
 ·exact h value slice pins s σ H x y v u Q I rx ry q hs
 ·exact h' value slice pins s σ H x y v u Q I rx ry q hs
theorem Ld {r:R2} (hr:IxR X r) (ha:PE X a ta) (hb:PE X b tb) (hs:Cc b):PE X (.Subscript a b pos) (tOp r ta tb):=by
 intro pins s σ H Q I h
 exact Subscript_ (Ry ha hb I h λv u s2 x y H2 I2 rx ry q=>hr a b pins s2 σ H2 x y v u Q I2 rx ry q (hs _ _))
def Yh (K:aH):R2:=λx y H Q=>∃p xs i v,x = .ref p/\y = .int i/\SqL K H p xs/\atI xs i=some v/\Q v H
def Yi (K:aH):R2:=λx y H Q=>∃p xs i v,x = .ref p/\y = .int i/\SqT K H p xs/\atI xs i=some v/\Q v H
theorem Oc:IxR X (Yh X.K):=by
 intro value slice pins s σ H x y v u Q I rx ry h hs
 obtain⟨p,xs,i,z,rfl,rfl,hq,he,q⟩:=h
 cases rx
 obtain⟨t,rfl⟩:=ry
 obtain⟨its,r,pl,hz⟩:=I.list hq
 obtain⟨j,h1,h2,h3,h4,h5⟩:=Cf he
 obtain⟨w,ew,rw'⟩:=r.get h2
 have hl:=r.length
 have hn:=Ac
 have fin:EP X pins σ Q w s:=⟨z,H,I,rw',q⟩
 by_cases h0:0<=i
 ·have hj:i.toNat=j:=by
   rw[seqIndex_of h0 h5] at h1
   exact dN h1
  exact item_listR pl.isList h0 (by lia) (by rw[hj];simpa using ew) fin hs
 ·have hj:(i+(its.toArray.size:Int)).toNat=j:=by
   rw[seqIndex_neg (by lia) h4] at h1
   rw[bD,<-hl]
   exact dN h1
  exact yD (x:=w) pl.isList.typeIs slot_list_getitem.lookup
   (wpAny_getItem_list_neg (Q:=λr s'=>r=w/\EP X pins σ Q r s') pl.isList (by lia) (by rw[bD] <;> lia) (by lia) (by rw[hj];simpa using ew) ⟨rfl,fin⟩) hs
theorem ZN:IxR X (Yi X.K):=by
 intro value slice pins s σ H x y v u Q I rx ry h hs
 obtain⟨p,xs,i,z,rfl,rfl,hq,he,q⟩:=h
 cases rx
 obtain⟨t,rfl⟩:=ry
 obtain⟨its,r,pl,hz⟩:=I.tuple hq
 obtain⟨j,h1,h2,h3,h4,h5⟩:=Cf he
 obtain⟨w,ew,rw'⟩:=r.get h2
 have hl:=r.length
 have hn:=Ac
 have fin:EP X pins σ Q w s:=⟨z,H,I,rw',q⟩
 exact yD (x:=w) pl.typeIs slot_tuple_getitem.lookup
  (getItem_tuple (j:=j) (Q:=λr s'=>r=w/\EP X pins σ Q r s') pl (by lia) (by lia) (by rw[bD,<-hl];exact h1) (by simpa using ew) ⟨rfl,fin⟩) hs
theorem UR (lo hi:Option Int) (n:Nat):(sliceBounds lo hi none n).1=((HT.sIx n 0 lo:Nat):Int)/\(sliceBounds lo hi none n).2.1=((HT.sIx n n hi:Nat):Int)/\(sliceBounds lo hi none n).2.2=1:=by
 refine⟨?_,?_,rfl⟩
 ·cases lo with
  | none=>simp[sliceBounds,HT.sIx]
  | some i =>
   simp only[sliceBounds,HT.sIx,HY,show (1:Int) > 0 by decide,if_true]
   by_cases h:i<0
   ·simp only[h,if_true] <;> lia
   ·simp only[h,if_false] <;> lia
 ·cases hi with
  | none=>simp[sliceBounds,HT.sIx]
  | some i =>
   simp only[sliceBounds,HT.sIx,HY,show (1:Int) > 0 by decide,if_true]
   by_cases h:i<0
   ·simp only[h,if_true] <;> lia
   ·simp only[h,if_false] <;> lia
theorem QD (its:List aD) (lo hi:Option Int):slicePick its.toArray lo hi none=((its.drop (HT.sIx its.length 0 lo)).take (HT.sIx its.length its.length hi-HT.sIx its.length 0 lo)).toArray:=by
 obtain⟨h1,h2,h3⟩:=UR lo hi its.toArray.size
 unfold slicePick
 rw[h1,h2,h3]
 simp only[sliceRange_one,pick_run,bD] <;> rfl
def Yp (K:aH):V->Option Int->Option Int->Hp->VK->Prop:=λx lo hi H Q=>∃a xs,x = .ref a/\SqL K H a xs/\∀p,H p=none->Q (.ref p) (upd H p (.lst (PJ xs lo hi)))
theorem Ea:SlR X (Yp X.K):=by
 intro pins s σ H x v vl vu lo hi sl Q I rx hs pl pu h
 obtain⟨a,xs,rfl,hx,q⟩:=h
 cases rx
 obtain⟨its,r,ht,hz⟩:=I.list hx
 have hlen:=r.length
 refine⟨"list",_,slot_list_getitem.lookup,ht.isList.typeIs,?_⟩
 refine wpAny_getItem_list_slice ht.isList hs pl pu .none (by simp) ?_ (by rw[bD] <;> lia)
 rw[QD,<-hlen]
 refine⟨.ref s.heap.objs.size,_,I.laid (t':=s.toks) (o:=.lst (PJ xs lo hi)) (λb ob q=>aN _ q) (bK _) ?_,rfl,q _ (I.hok.fresh (bK _))⟩
 exact⟨fO (JD xs lo hi) hz,_,0,(r.drop (HT.sIx xs.length 0 lo)).take (HT.sIx xs.length xs.length hi-HT.sIx xs.length 0 lo),bI _ rfl⟩
theorem SW:yF X (.builtin "len") (λxs H Q=>∃p ys,xs=[.ref p]/\(SqL X.K H p ys\/SqT X.K H p ys)/\Q (.int ys.length) H):=by
 intro pins s σ H xs us Q I r h
 obtain⟨p,ys,rfl,hq,q⟩:=h
 obtain⟨u,rfl,rx⟩:=vals1 r
 cases rx
 have hn:=Ac
 rcases hq with hq | hq
 ·obtain⟨its,r',pl,hz⟩:=I.list hq
  have hlen:=r'.length
  exact Calls.call_len_list pl.isList (by simp only[bD] <;> lia) ⟨.int ys.length,H,I.tok _,⟨s.toks+1,by rw[bD,hlen]⟩,q⟩
 ·obtain⟨its,r',pl,hz⟩:=I.tuple hq
  have hlen:=r'.length
  exact len_tuple pl (by simp only[bD] <;> lia) ⟨.int ys.length,H,I.tok _,⟨s.toks+1,by rw[bD,hlen]⟩,q⟩
theorem SX:yF X (.type "list") (λxs H Q=>∃p ys,xs=[.ref p]/\(SqL X.K H p ys\/SqT X.K H p ys)/\∀l,H l=none->Q (.ref l) (upd H l (.lst ys))):=by
 intro pins s σ H xs us Q I r h
 obtain⟨p,ys,rfl,hq,q⟩:=h
 obtain⟨u,rfl,rx⟩:=vals1 r
 cases rx
 have fin:∀(its:List aD),Vals ys its->ys.length<=sizeLine->∀(h':Heap) (c':Nat),(∀b o',s.heap.get? b=some o'->h'.get? b=some o') ->
   h'.get? s.heap.objs.size=some { cls:=.type "list",dict:=none,data:=.seq its.toArray c',slots:=#[] }->EP X pins σ Q (.ref s.heap.objs.size) { s with heap:=h' }:=λits r' hz h' c' kp e =>
  ⟨.ref s.heap.objs.size,_,I.laid (t':=s.toks) kp (bK _) (show ObjOk X.prog X.w _ h' _ (.lst ys) from ⟨hz,its,c',r',e⟩),rfl,q _ (I.hok.fresh (bK _))⟩
 rcases hq with hq | hq
 ·obtain⟨its,r',pl,hz⟩:=I.list hq
  have hlen:=r'.length
  obtain⟨o,ho,hc,n,hd⟩:=pl.isList
  exact OZ p (.inl rfl) ho hc hd (λh' c' kp e=>fin its r' hz h' c' kp e) (by simp only[bD] <;> lia)
 ·obtain⟨its,r',pl,hz⟩:=I.tuple hq
  have hlen:=r'.length
  obtain⟨o,ho,hc,n,hd⟩:=pl
  exact OZ p (.inr rfl) ho hc hd (λh' c' kp e=>fin its r' hz h' c' kp e) (by simp only[bD] <;> lia)
theorem PF:yF X (.type "tuple") (λxs H Q=>∃p ys,xs=[.ref p]/\((SqL X.K H p ys/\∀l,H l=none->Q (.ref l) (upd H l (.tup ys)))\/(SqT X.K H p ys/\Q (.ref p) H))):=by
 intro pins s σ H xs us Q I r h
 obtain⟨p,ys,rfl,h⟩:=h
 obtain⟨u,rfl,rx⟩:=vals1 r
 cases rx
 rcases h with ⟨hq,q⟩ | ⟨hq,q⟩
 ·obtain⟨its,r',pl,hz⟩:=I.list hq
  have hlen:=r'.length
  refine call_tuple_list pl.isList (λh' kp=>?_) (by simp only[bD] <;> lia)
  have I1:Inv X pins σ H { s with heap:=h' }:=I.kept (t':=s.toks) kp
  have I2:Inv X pins σ (upd H h'.objs.size (.tup ys)) { s with heap:=h'.push { cls:=.type "tuple",data:=.seq its.toArray } } :=
   I1.laid (t':=s.toks) (λb o e=>aN _ e) (bK _) (show ObjOk X.prog X.w _ _ _ (.tup ys) from ⟨hz,its,r',HM _ _⟩)
  exact⟨.ref h'.objs.size,_,I2,rfl,q _ (I1.hok.fresh (bK _))⟩
 ·obtain⟨its,r',pl,hz⟩:=I.tuple hq
  exact call_tuple_same pl ⟨.ref p,H,I,rfl,q⟩
def tyV (K:aH) (T:String) (x:V) (H:Hp):Prop:=match x with
 | .str _=>T = "str"
 | .int _=>T = "int"
 | .ref p=>(T = "list"/\∃xs,SqL K H p xs)\/(T = "tuple"/\∃o,K.lookup p=some o/\o.cls = .type "tuple"/\o.dict=none) \/
   (T = "dict"/\((∃kvs,H p=some (.dK kvs))\/∃kvs,H p=some (.dT kvs)))\/(T = "set"/\∃S n,H p=some (.set S n))
 | _=>False
theorem Mm {pins:List (Addr × Obj)} {σ:St} {H:Hp} {s:aG} {T:String} {x:V} {v:aD} (I:Inv X pins σ H s) (r:RelV x v) (ty:tyV X.K T x H) :
  s.TypeIs v T/\∀a,v = .ref a->∃ob,s.heap.get? a=some ob/\ob.dict=none:=by
 cases x with
 | str z =>
  obtain⟨t,rfl⟩:=r
  cases (show T = "str" from ty)
  exact⟨typeIs_str s z t,λ_ e=>nomatch e⟩
 | int i =>
  obtain⟨t,rfl⟩:=r
  cases (show T = "int" from ty)
  exact⟨typeIs_int s i t,λ_ e=>nomatch e⟩
 | ref p =>
  cases r
  rcases ty with ⟨rfl,xs,hq⟩ | ⟨rfl,o,hk,hc,hd⟩ | ⟨rfl,hk⟩ | ⟨rfl,S,n,hk⟩
  ·obtain⟨its,_,pl,_⟩:=I.list hq
   refine⟨pl.isList.typeIs,λa e=>?_⟩
   cases e
   obtain⟨o,n,e,c,hd,_⟩:=pl
   exact⟨o,e,hd⟩
  ·refine⟨⟨o,I.kIn p o hk,hc⟩,λa e=>?_⟩
   cases e
   exact⟨o,I.kIn _ o hk,hd⟩
  ·have z:∃o,s.heap.get? p=some o/\o.ExactDict:=by
    rcases hk with ⟨kvs,hk⟩ | ⟨kvs,hk⟩
    ·obtain⟨_,_,_,_,o,_,_,e,ex,_⟩:=I.hok p _ hk
     exact⟨o,e,ex⟩
    ·obtain⟨_,_,_,_,o,_,_,e,ex,_⟩:=I.hok p _ hk
     exact⟨o,e,ex⟩
   obtain⟨o,e,ex⟩:=z
   refine⟨⟨o,e,ex.1⟩,λa e2=>?_⟩
   cases e2
   exact⟨o,e,ex.2.1⟩
  ·obtain⟨o,_,_,_,e,ex,_⟩:=I.hok p _ hk
   refine⟨⟨o,e,ex.1⟩,λa e2=>?_⟩
   cases e2
   exact⟨o,e,ex.2.1⟩
 | _=>exact mM ty
def Zc (K:aH) (T:String) (r:V->List V->Hp->VK->Prop) (to:TE):TE:=λσ H Q=>to σ H λx H1=>tyV K T x H1/\r x [] H1 Q
def tBM (K:aH) (T:String) (r:V->List V->Hp->VK->Prop) (to:TE) (t:TA):TE:=λσ H Q=>to σ H λx H1=>tyV K T x H1/\t σ H1 λxs H2=>r x xs H2 Q
variable {o e:Expr} {es:List Expr} {to:TE} {t:TA} {name:Str} {apos cpos:Pos} {T id:String} {r:V->List V->Hp->VK->Prop}
theorem Lc (pa:PlainAttrs T) (slot:Slot T name id) (hty:typeOf (.builtin id)=pure (.type "method_descriptor")) (hm:MtR X id r) (ho:PE X o to)
  (hbase:attributeBase o name X.env (eval o X.env)=eval o X.env:=by rfl) (hline:(apos.endLine == cpos.line)=true:=by rfl):PE X (.Call (.Attribute o name apos) [] [] cpos) (Zc X.K T r to):=by
 intro pins s σ H Q I h
 refine wpAny_Call_method0_late hbase hline (thn (ho pins s σ H _ I h) λv s1 ⟨x,H1,I1,r1,ty,q1⟩=>?_)
 obtain⟨h1,h2⟩:=Mm I1 r1 ty
 exact⟨T,id,pa,slot,hty,h1,h2,wZ rfl (PySem.evalArgs_none (hm pins s1 σ H1 x [] v [] Q I1 r1 .nil q1))⟩
theorem Rt (pa:PlainAttrs T) (slot:Slot T name id) (hty:typeOf (.builtin id)=pure (.type "method_descriptor")) (hm:MtR X id r) (ho:PE X o to) (ha:PA X (e::es) t)
  (hbase:attributeBase o name X.env (eval o X.env)=eval o X.env:=by rfl)
  (hfew:((backTo cpos (starEach (e::es) X.env)).all (λx=>!x.1) && (backToKw cpos (keywordEach [] X.env)).all (λx=>x.1.isSome)
   && decide ((e::es).length+([]:List BC).length+(if ([]:List BC).isEmpty then 0 else 1)<30))=true:=by rfl)
  (hline:(apos.endLine == cpos.line)=true:=by rfl) (hs:starEach (e::es) X.env=(false,eval e X.env)::starEach es X.env:=by rfl) (hplain:(backTo cpos (starEach es X.env)).any (·.1)=false:=by rfl) :
  PE X (.Call (.Attribute o name apos) (e::es) [] cpos) (tBM X.K T r to t):=by
 intro pins s σ H Q I h
 refine wpAny_Call_method_late hbase hfew hline rfl (thn (ho pins s σ H _ I h) λv s1 ⟨x,H1,I1,r1,ty,q1⟩=>?_)
 obtain⟨h1,h2⟩:=Mm I1 r1 ty
 refine⟨T,id,pa,slot,hty,h1,h2,?_⟩
 have hA:=ha cpos pins s1 σ H1 _ I1 q1
 rw[hs] at hA ⊢
 refine wZ (by show (false || (backTo cpos (starEach es X.env)).any (·.1))=false;rw[hplain] <;> rfl) (Calls.evalArgs_plain ?_)
 exact thn hA λus s2 ⟨vs,H2,I2,r2,q2⟩=>hm pins s2 σ H2 x vs v us Q I2 r1 r2 q2
end
def MtM (X:Cx) (id:String) (r:V->List V->Hp->VK->Prop):Prop :=
 ∀(pins:List (Addr × Obj)) (s:aG) (σ:St) (H:Hp) (x:V) (xs:List V) (v:aD) (us:List aD) (Q:VK),Inv X pins σ H s->RelV x v->Vals xs us->r x xs H Q ->
  wpAny (model X.prog X.w) X.A (call (.builtin id) (v::us)) (EP X pins σ Q) X.xe s
theorem Vals.one:∀{x:V} {us:List aD},Vals [x] us->∃u,us=[u]/\RelV x u
 | _,_,.cons r .nil=>⟨_,rfl,r⟩
theorem Vals.zero:∀{us:List aD},Vals [] us->us=[]
 | _,.nil=>rfl
theorem Vals.dropLast {xs:List V} {us:List aD} (h:Vals xs us):Vals xs.dropLast us.dropLast:=by
 induction h with
 | nil=>exact .nil
 | cons r t ih =>
  cases t with
  | nil=>exact .nil
  | cons q t'=>exact .cons r ih
theorem ZJ {α:Type} (l:List α):l.eraseIdx (l.length-1)=l.dropLast:=by
 induction l with
 | nil=>rfl
 | cons a r ih =>
  cases r with
  | nil=>rfl
  | cons b r =>
   have e:(a::b::r).length-1=((b::r).length-1)+1:=by
    have h1:(a::b::r).length=r.length+2:=rfl
    have h2:(b::r).length=r.length+1:=rfl
    lia
   rw[e,List.eraseIdx_cons_succ,ih]
   all_goals rfl
section
variable {X:Cx} {pins:List (Addr × Obj)} {σ:St} {H:Hp} {s:aG} {l b:Addr} {xs ys zs:List V}
theorem Inv.lset {its its':List aD} {n:Nat} {f:Array aD->Array aD} {t':Nat} (I:Inv X pins σ H s) (hH:H l=some (.lst xs))
  (e:s.heap.get? l=some { cls:=.type "list",data:=.seq its.toArray n }) (hf:f its.toArray=its'.toArray) (hv:Vals ys its') (hz:ys.length<=sizeLine) :
  Inv X pins σ (upd H l (.lst ys)) { s with heap:=s.heap.update l (dH f),toks:=t' }:=by
 have q:=HZ e f
 rw[hf] at q
 refine I.write (x:=l) (e:=l) (by rw[hH];exact trivial) (.inl rfl) (λb' u hb hu=>(cE s.heap (dH f) (Ne.symm hb)).trans hu) ⟨_,q⟩ ?_
 exact⟨hz,its',_,hv,q⟩
theorem Inv.lnew {its:List aD} {t':Nat} (I:Inv X pins σ H s) (hv:Vals ys its) (hz:ys.length<=sizeLine) :
  Inv X pins σ (upd H s.heap.objs.size (.lst ys)) { s with heap:=s.heap.push { cls:=.type "list",data:=.seq its.toArray },toks:=t' } :=
 I.laid (λ_ _ q=>aN _ q) (bK _) ⟨hz,its,0,hv,bI _ rfl⟩
theorem Inv.fresh (I:Inv X pins σ H s):H s.heap.objs.size=none:=I.hok.fresh (bK _)
theorem Inv.lstM (I:Inv X pins σ H s) (hH:H l=some (.lst xs)):xs.length<=sizeLine/\∃(its:List aD) (n:Nat),Vals xs its/\xs.length=its.length/\s.heap.get? l=some { cls:=.type "list",data:=.seq its.toArray n }:=by
 obtain⟨z,its,n,r,e⟩:=I.hok l _ hH
 exact⟨z,its,n,r,r.length,e⟩
end
section
variable {X:Cx}
def Pu:V->List V->Hp->VK->Prop:=λx vs H Q=>∃l xs y,x = .ref l/\vs=[y]/\H l=some (.lst xs)/\xs.length<sizeLine/\Q .non (upd H l (.lst (xs++[y])))
theorem Ga:MtM X "list.append" Pu:=by
 intro pins s σ H x vs v us Q I rx rv h
 obtain⟨l,xs,y,rfl,rfl,hH,hz,q⟩:=h
 cases rx
 obtain⟨u,rfl,ru⟩:=rv.one
 obtain⟨z,its,n,r,hl,e⟩:=I.lstM hH
 refine xN F.slot_list_append ⟨_,e,rfl⟩ F.entry_list_append (F.args_list_append_2 _ _) (FV l its.toArray n u (by rw[bD];lia)) ⟨e,?_⟩
 refine⟨.non,_,I.lset (its':=its++[u]) hH e (by simp) (r.append (.cons ru .nil)) ?_,rfl,q⟩
 rw[dI,rE]
 lia
def Yn:V->List V->Hp->VK->Prop:=λx vs H Q=>∃l xs y,x = .ref l/\vs=[]/\H l=some (.lst xs)/\xs[xs.length-1]? = some y/\Q y (upd H l (.lst xs.dropLast))
theorem Tc:MtM X "list.pop" Yn:=by
 intro pins s σ H x vs v us Q I rx rv h
 obtain⟨l,xs,y,rfl,rfl,hH,hy,q⟩:=h
 cases rx
 have hus:=rv.zero
 subst hus
 obtain⟨z,its,n,r,hl,e⟩:=I.lstM hH
 obtain⟨u,hu,ru⟩:=r.get hy
 have hy':its.toArray[its.toArray.size-1]? = some u:=by
  show its.toArray[its.length-1]? = some u
  rw[<-jF,<-hl]
  exact hu
 refine xN F.slot_list_pop ⟨_,e,rfl⟩ F.entry_list_pop (F.args_list_pop_1 _) (MeetsSeq.list_pop_last l its.toArray n u hy' (by rw[bD];lia)) ⟨e,?_⟩
 refine⟨y,_,I.lset (its':=its.dropLast) hH e ?_ r.dropLast ?_,ru,q⟩
 ·show its.toArray.eraseIdxIfInBounds (its.toArray.size-1)=its.dropLast.toArray
  rw[bD,List.eraseIdxIfInBounds_toArray,ZJ]
 ·rw[zK]
  lia
def Ua:V->List V->Hp->VK->Prop:=λx vs H Q=>∃l xs,x = .ref l/\vs=[]/\H l=some (.lst xs)/\Q .non (upd H l (.lst []))
theorem Ko:MtM X "list.clear" Ua:=by
 intro pins s σ H x vs v us Q I rx rv h
 obtain⟨l,xs,rfl,rfl,hH,q⟩:=h
 cases rx
 have hus:=rv.zero
 subst hus
 obtain⟨z,its,n,r,hl,e⟩:=I.lstM hH
 refine xN F.slot_list_clear ⟨_,e,rfl⟩ F.entry_list_clear (F.args_list_clear_1 _) (AutoSeq1.list_clear_list_0 l its.toArray n (by rw[bD];lia)) ⟨e,?_⟩
 exact⟨.non,_,I.lset (its':=[]) (ys:=[]) hH e rfl .nil (gL _),rfl,q⟩
end
section
variable {prog:bV} {w:dE} {A:dF} {E:aD->aG->Prop} {s:aG}
end
section
variable {X:Cx}
end
end L2
namespace Att
open PySem PySem.W PySem.Calls PyProof.Rows
theorem KE {P:Params} {h:Heap}:∀(ns:List Int) (vs:List aD),WellAll P h vs (ns.map WData.int)->IntsAre vs ns:=by
 intro ns
 induction ns with
 | nil =>
  intro vs w
  rw[bU] at w
  cases w
  exact .nil
 | cons n ns ih =>
  intro vs w
  rw[aT] at w
  cases w with
  | cons a b =>
   cases a
   exact .cons _ _ (ih _ b)
theorem Hc {l:OpenLaw} {n:Nat} (hn:l.most=some n) {P:Params} {h:Heap} {args:List WData} {vals:List aD}
  (hpre:l.row.toRowW.claim.pre args=true) (hwl:WellAll P h vals args) :
  ∃a vs ns,vals=[fP a]/\args=[WData.list (ns.map WData.int)]/\h.get? a=some { cls:=.type "list",data:=.seq vs.toArray }/\IntsAre vs ns/\ns.length<=n:=by
 have hsh:WShape.hasAll [] args [.list .int]=true:=(pre_splitW hpre).1
 have hc:l.pre.holds [] { args:=args } = true:=(pre_splitW hpre).2
 obtain⟨d,r,rfl,h1,h2⟩:=hasAllW_cons hsh
 obtain rfl:=hasAllW_nil h2
 obtain⟨xs,rfl,h3⟩:=hasW_list h1
 obtain⟨ns,rfl⟩:=items_int h3
 have hlen:ns.length<=n:=by
  unfold OpenLaw.pre at hc
  have h4:(WTm.not (.lt (.lit (.int (n:Int))) (.len (.arg 0)))).holds [] { args:=[.list (ns.map .int)] } = true:=by
   have h4:=(holds_andW hc).1
   rw[hn] at h4
   exact h4
  have h5:=condW_of h4 (w_not (w_lt w_lit (w_len_list (w_arg rfl))))
  rw[cI] at h5
  refine Nat.le_of_not_lt λq=>?_
  have q':(n:Int)<((ns.length:Nat):Int):=by lia
  first
   | (rw[decide_eq_true q'] at h5;exact absurd h5 (by decide))
   | (simp at h5;lia)
 cases hwl with
 | cons w1 w2 =>
  cases w2
  cases w1 with
  | list ho hall=>exact⟨_,_,ns,rfl,rfl,ho,KE ns _ hall,hlen⟩
theorem Gq (l:OpenLaw) (args:List WData):l.row.toRowW.claim.post args (.bool true) args=true :=
 postW_of (r:=l.row.toRowW) (X:=(true == true))
  (show WShape.has [] (.bool true) .bool=true by first | rfl | decide | simp[WShape.has,WShape.arms,WShape.armsAll])
  (show (WTm.eq .res (.lit (.bool true))).value [] { args:=args,res:=some (.bool true),after:=args } = some (.bool (true == true)) from w_eq_bool (w_res rfl) w_lit) rfl
theorem attach_call {l:OpenLaw} {n:Nat} {q:bV} {loose:List Str} {XP:(Str->Option aD)->Heap->Prop} {YP:dE->Heap->Prop} {d:DefRec}
  (hn:l.most=some n) (hdf:d.params.defaults=[])
  (call:∀(w:dE) (s₀ s₁:aG) (mg mb:Str->Option aD) (fa:Addr) (o:Obj) (pm cd doc:aD) (a:Addr) (vs:List aD) (ns:List Int),
   Ground q loose [] XP w s₀ mg mb s₁.heap->YP w s₁.heap ->
   s₁.heap.get? fa=some o->o.data = .func (docDef d.name d.params d.body d.scope pm cd doc)->s₁.heap.CodeRec cd d.name->mg d.name=some (.ref fa) ->
   s₁.heap.get? a=some { cls:=.type "list",data:=.seq vs.toArray }->IntsAre vs ns->ns.length<=n->s₁.gens = #[] ->
   codeAny (model l.prog w) callerA (.call (.ref fa) ⟨[.ref a],[]⟩) (λr s'=>r = .ok (.ret (.bool true))/\OldK s₁.heap s'.heap/\s'.os=s₁.os/\AllBare s'.gens) s₁) :
  WalkO q loose XP YP l.row.toRowW d [] (λf vs=>MA f vs):=by
 intro w s₀ s₁ mg mb G Y fa o pm cd doc dV kV ho hd hcd hD hmg hg args vals as hpre hlay hrd hwl hlo
 obtain rfl:dV = .none:=Dflts.none hD hdf
 obtain rfl:kV = .none:=Dflts.noKw hD
 obtain⟨a,vs,ns,rfl,rfl,hobj,hints,hlen⟩:=Hc hn hpre hwl
 refine enter_call (tO (call w s₀ s₁ mg mb fa o pm cd doc a vs ns G Y ho (fd_plain hd) hcd hmg hobj hints hlen hg) λr s' hq=>?_)
 obtain⟨rfl,h2,h3,h4⟩:=hq
 exact⟨.inl ⟨.bool true,.bool true,[],rfl,λ_=>rfl,.bool true,Gq l _,λ_=>⟨nT,λ_ hm=>(nomatch hm)⟩⟩,h2,h3,h4⟩
section
variable {prog:bV} {w:dE} {A:dF} {E:aD->aG->Prop} {s:aG} {K:Frag}
end
end Att
namespace L2
open PySem PySem.Spec PyProof.Rows
theorem BN:∀{vs:List aD} {ns:List Int},IntsAre vs ns->Vals (ns.map V.int) vs
 | _,_,.nil=>.nil
 | _,_,.cons n t h=>.cons ⟨t,rfl⟩ (BN h)
def Mu (H:Hp):Prop:=∀b,H b=none\/∃o xs,H b=some (.frz o (.lst xs))
theorem Kb {P:bV} {w:dE} {K:aH} {mg mb:Str->Option aD} {CX:CXT} {k:Nat} {fa a:Addr} {fd:lY} {x:Str} {sp:Sp} {s₁:aG} {vs:List aD} {ns:List Int}
  (KX:K.In s₁.heap) (hns:s₁.heap.Ns mainGlobals mg) (hb:s₁.heap.Ns builtinsNs mb) (hbb:∀x:Str,x≠"__name__"->mb x=bootBuiltins x) (hlim:s₁.heap.NoLimit) (hg:s₁.gens = #[])
  (ha:s₁.heap.get? a=some { cls:=.type "list",data:=.seq vs.toArray }) (hi:IntsAre vs ns) (hl:ns.length<=sizeLine) (hr:Room k callerA)
  (F:∀base:Heap,K.In base->base.Ns mainGlobals mg->FnOk P w K mg base CX k fa fd [x] sp) (hbind:∀(s:aG) (u:aD),BindsTo s fd ⟨[u],[]⟩ [(x,u)])
  (hsp:∀H:Hp,Mu H->SqL K H a (ns.map V.int)->sp [.ref a] H (λv _=>v = .bl true) λ_ _ _=>False)
  (hCX:∀H e s',CX [] H s₁ (λ_ _ _=>False) e s'->False) :
  codeAny (model P w) callerA (.call (.ref fa) ⟨[.ref a],[]⟩) (λr s'=>r = .ok (.ret (.bool true))/\OldK s₁.heap s'.heap/\s'.os=s₁.os/\AllBare s'.gens) s₁:=by
 have rv:=BN hi
 have lenV:=hi.length
 have core:∀H:Hp,Mu H->SqL K H a (ns.map V.int)->HOk P w H s₁.heap->(∀b,H b≠none->b=a)->(H a≠none->K.lookup a=none) ->
   codeAny (model P w) callerA (.call (.ref fa) ⟨[.ref a],[]⟩) (λr s'=>r = .ok (.ret (.bool true))/\OldK s₁.heap s'.heap/\s'.os=s₁.os/\AllBare s'.gens) s₁:=by
  intro H hO hS hok hA hK
  have base_of:∀{b:Addr} {o:Obj},s₁.heap.get? b=some o->H b=none->(TQ s₁.heap H).get? b=some o:=λe n=>Jx e n
  have noA:∀{b:Addr} {o:Obj} {es:Array DictEntry} {ep:Nat},s₁.heap.get? b=some o->o.data = .dict es ep->H b=none:=λ{b o es ep} e d=>by
   cases q:H b with
   | none=>rfl
   | some u =>
    have e':b=a:=hA b (by rw[q];simp)
    subst e'
    rw[ha] at e;cases e
    have d':Data.seq vs.toArray _=Data.dict es ep:=d
    cases d'
  have nsK:∀{b:Addr} {m:Str->Option aD},s₁.heap.Ns b m->(TQ s₁.heap H).Ns b m:=λ{b m} ⟨o,es,ep,e,d,r⟩=>⟨o,es,ep,base_of e (noA e d),d,r⟩
  have hKb:K.In (TQ s₁.heap H):=λb o e=>base_of (KX b o e) (by
   cases q:H b with
   | none=>rfl
   | some u =>
    have e':b=a:=hA b (by rw[q];simp)
    subst e'
    rw[hK (by rw[q];simp)] at e;cases e)
  have hM:Mod K mg (TQ s₁.heap H):=⟨hKb,nsK hns,⟨mb,nsK hb,hbb⟩,let ⟨mc,h1,h2⟩:=hlim;⟨mc,nsK h1,h2⟩⟩
  have e0:Env0 P w K mg (TQ s₁.heap H) callerA [] s₁ H:=⟨rfl,hM,λb o e=>Oy e,xH (Ex _ _),trivial,λb hb=>absurd (show b∈([]:List Addr) from hb) (by simp),hok,.of_eq hg⟩
  refine tO ((F _ hKb (nsK hns)).run callerA [] s₁ H ⟨[.ref a],[]⟩ [.ref a] [.ref a] _ _ hr e0 (hbind s₁ (.ref a)) (.cons rfl .nil) (hsp H hO hS)) λr s' h=>?_
  cases r with
  | error e=>exact (hCX H e s' h).elim
  | ok fl =>
   cases fl with
   | next=>exact mM h
   | brk=>exact mM h
   | cont=>exact mM h
   | ret u =>
    obtain⟨v,H',os,bare,un,hok',r',q⟩:=h
    have q':v = .bl true:=q
    subst q'
    obtain rfl:u=EF true:=r'
    refine⟨rfl,OldK.of_keep λb o e=>?_,os,bare⟩
    cases q:H b with
    | none=>exact un.keep b o e q (by intro z;exact absurd (show b∈([]:List Addr) from z) (by simp)) (by simp)
    | some u =>
     rcases hO b with z | ⟨ob,xs,z⟩
     ·rw[q] at z;cases z
     ·have z2:=un.frzs b ob _ z
      obtain⟨e1,_⟩:=hok b _ z
      obtain⟨e2,_⟩:=hok' b _ z2
      rw[e] at e1;cases e1
      exact e2
 cases hk:K.lookup a with
 | some o =>
  have e:=KX a o hk
  rw[ha] at e
  cases e
  refine core (λ_=>none) (λ_=>.inl rfl) (.inr ⟨_,vs.toArray,_,hk,rfl,rfl,rfl,by rw[bD,lenV];exact hl,by simpa using rv⟩) (λb u z=>by have z':(none:Option HO)=some u:=z;cases z') (λb z=>absurd rfl z) λz=>absurd rfl z
 | none =>
  refine core (λb=>if b=a then some (.frz { cls:=.type "list",data:=.seq vs.toArray } (.lst (ns.map V.int))) else none) (λb=>?_) (.inl (.inr ⟨{ cls:=.type "list",data:=.seq vs.toArray },if_pos rfl⟩)) (λb u z=>?_) (λb z=>?_) λ_=>hk
  ·by_cases hb:b=a
   ·exact .inr ⟨_,_,if_pos hb⟩
   ·exact .inl (if_neg hb)
  ·by_cases hb:b=a
   ·have z':=(if_pos hb).symm.trans z
    cases z'
    subst hb
    exact⟨ha,by rw[cI];exact hl,vs,_,rv,ha⟩
   ·have z':=(if_neg hb).symm.trans z
    cases z'
  ·by_cases hb:b=a
   ·exact hb
   ·exact absurd (if_neg hb) z
abbrev KOf {K:aH} {h:Heap} (_:K.In h):aH:=K
theorem walk_of {l:JX} {n k:Nat} {q:bV} {loose:List Str} {XP:(Str->Option aD)->Heap->Prop} {YP:dE->Heap->Prop} {d:DefRec} {K:Params->aH} {CX:dE->CXT} {sp:dE->Sp} {x:Str}
  (hn:l.most=some n) (hn2:n<=sizeLine) (hdf:d.params.defaults=[]) (hr:Room k callerA)
  (hY:∀(w:dE) (h:Heap),YP w h->(K w.params).In h)
  (F:∀(w:dE) (mg:Str->Option aD) (fa:Addr) (h:Heap),(K w.params).In h->h.Ns mainGlobals mg->mg d.name=some (.ref fa) ->
   ∃fd:lY,(∀(s:aG) (u:aD),BindsTo s fd ⟨[u],[]⟩ [(x,u)]) /\
    ∀base:Heap,(K w.params).In base->base.Ns mainGlobals mg->FnOk l.prog w (K w.params) mg base (CX w) k fa fd [x] (sp w))
  (hsp:∀(w:dE) (H:Hp) (a:Addr) (ns:List Int),ns.length<=n->Mu H->SqL (K w.params) H a (ns.map V.int)->sp w [.ref a] H (λv _=>v = .bl true) λ_ _ _=>False)
  (hCX:∀(w:dE) (H:Hp) (s:aG) (e:aD) (s':aG),CX w [] H s (λ_ _ _=>False) e s'->False) :
  OW q loose XP YP l.row.toRowW d [] (λf vs=>MA f vs):=by
 refine Att.attach_call hn hdf λw s₀ s₁ mg mb fa o pm cd doc a vs ns G Y ho hd hcd hmg hobj hints hlen hg=>?_
 have KX:=hY w _ Y
 obtain⟨fd,hb,hF⟩:=F w mg fa _ KX G.T.g hmg
 exact Kb KX G.T.g G.T.b G.T.builtins G.T.nolimit hg hobj hints (fO hlen hn2) hr hF hb (λH hO hS=>hsp w H a ns hlen hO hS) λH e s'=>hCX w H s₁ e s'
def GG (s:Stmt):Arguments:=match s with
 | .FunctionDef _ a _ _ _ _ _ _ _ _=>a
 | _=>{ posonlyargs:=[],args:=[],vararg:=none,kwonlyargs:=[],kw_defaults:=[],kwarg:=none,defaults:=[] }
def qS (s:Stmt):List Stmt:=match s with
 | .FunctionDef _ _ b _ _ _ _ _ _ _=>b
 | _=>[]
def fZ (s:Stmt):Scope:=match s with
 | .FunctionDef _ _ _ _ _ _ sc _ _ _=>sc
 | _=>{ kind:=.function,names:=[],isGenerator:=false,isCoroutine:=false }
abbrev CX0:CXT:=λ_ _ _ _ _ _=>False
abbrev E0:XK:=λ_ _ _=>False
theorem Rs {X:Cx}:YT CX0 X E0:=λ_ _ _ _ _ _ _ h=>h.elim
structure Fun (K:aH) (x qual:Str) (st:Stmt) (f:Addr) (fd:lY):Prop where
 ex:∃(oc:aD) (od:Option Addr) (kV doc pm:aD) (an:Option Addr) (cdv ct:aD) (osl:Array (Option aD)),
  fd=oS x qual (GG st) (qS st) (fZ st) .none kV doc pm an cdv ct/\K.lookup f=some ⟨oc,od,.func fd,osl⟩/\uI K cdv qual=true
 kp:mG K (.ref f)=true
section
variable {P:bV} {w:dE} {K:aH} {mg:Str->Option aD} {base:Heap}
theorem Fun.ok {x qual:Str} {st:Stmt} {f:Addr} {fd:lY} {N ps:List Str} {k:Nat} {sp:Sp} (F:Fun K x qual st f fd) (S:FnScope N ps (fZ st)) (len:∀vs H Q E,sp vs H Q E->vs.length=ps.length)
  (hbody:∀(cdv:aD) (A:dF) (outer:List Env) (s:aG) (H:Hp) (vs:List V) (Q:VK) (E:XK),Room k (A.deeper (envOfC qual (fZ st) s.heap.objs.size f cdv))->sp vs H Q E ->
   ∃t,PSs (BU CX0 P w K mg base N qual (fZ st) f cdv A outer s H E).nox (qS st) t/\t { nx:=λ_ H'=>Q .non H',rt:=Q } (start N vs) H):FnOk P w K mg base CX0 (k+1) f fd ps sp:=by
 obtain⟨oc,od,kV,doc,pm,an,cdv,ct,osl,rfl,lk,hcd⟩:=F.ex
 refine Vl lk hcd S len λA outer s H vs Q E hr hsp=>?_
 obtain⟨t,h,q⟩:=hbody cdv A outer s H vs Q E hr hsp
 exact⟨t,h.nox,q⟩
theorem Si {x qual:Str} {st:Stmt} {f:Addr} {oc:aD} {od an:Option Addr} {osl:Array (Option aD)} {kV doc pm cdv ct:aD} (l:K.lookup f=some ⟨oc,od,.func (oS x qual (GG st) (qS st) (fZ st) .none kV doc pm an cdv ct),osl⟩)
  (c:uI K cdv qual=true) (k:mG K (.ref f)=true):Fun K x qual st f (oS x qual (GG st) (qS st) (fZ st) .none kV doc pm an cdv ct):=⟨⟨oc,od,kV,doc,pm,an,cdv,ct,osl,rfl,l,c⟩,k⟩
end
section
variable {X:Cx}
theorem pv (i:Nat) {x:Str} {pos:Pos} (hN:X.N[i]? = some x:=by rfl) (hv:Vis X.env.scope x:=by walk_at "vis") (hd:(x == ("__debug__":Str))=false:=by decide)
  (hcd:(x == ("__classdict__":Str))=false:=by decide):PE X (.Name x pos) (Xo i):=Tp hN hv hd hcd
end
def Same (H H':Hp):Prop:=∀b o,H b=some o->H' b=some o
theorem Same.refl (H:Hp):Same H H:=λ_ _ h=>h
theorem Same.trans {H H1 H2:Hp} (a:Same H H1) (b:Same H1 H2):Same H H2:=λc o h=>b c o (a c o h)
theorem Same.free {H H':Hp} (e:Same H H') {l:Addr} (h:H' l=zQ):H l=zQ:=by
 cases q:H l with
 | none=>rfl
 | some o =>
  rw[e l o q] at h
  cases h
end L2
namespace L2.R2
abbrev Pt:=Int × Int
def cQ (a b c:Pt):Int:=(b.1-a.1)*(c.2-a.2)-(b.2-a.2)*(c.1-a.1)
def ltP (a b:Pt):Prop:=a.1<b.1\/(a.1=b.1/\a.2<b.2)
instance (a b:Pt):Decidable (ltP a b):=by unfold ltP;infer_instance
theorem tQ {a:Pt}:¬ltP a a:=λh=>h.elim (lS _) λh=>lS _ h.2
theorem rZ {a b c:Pt} (h:ltP a b) (k:ltP b c):ltP a c:=by
 rcases h with h | ⟨h,h'⟩
 ·exact cZ (k.elim (Int.lt_trans h) λk=>k.1 ▸ h)
 ·exact k.elim (λk=>cZ (h ▸ k)) λk=>cX ⟨h.trans k.1,Int.lt_trans h' k.2⟩
theorem qU (a b:Pt):ltP a b\/a=b\/ltP b a:=by
 rcases gS a.1 b.1 with h | h | h
 ·exact cZ (cZ h)
 ·rcases gS a.2 b.2 with k | k | k
  ·exact cZ (cX ⟨h,k⟩)
  ·exact cX (cZ (lJ h k))
  ·exact cX (cX (cX ⟨h.symm,k⟩))
 ·exact cX (cX (cZ h))
theorem tW {a b:Pt} (h:ltP a b):¬ltP b a:=λk=>tQ (rZ h k)
def LP (x y:Int):Prop:=0<x\/(x=0/\0<y)
theorem qJ {a b:Pt} (h:ltP a b):LP (b.1-a.1) (b.2-a.2):=h.elim (λh=>cZ (FJ h)) λh=>cX ⟨by rw[h.1,Int.sub_self],FJ h.2⟩
theorem LX {x y x' y':Int} (h:LP x y) (k:LP x' y'):LP (x+x') (y+y'):=by
 rcases h with h | ⟨rfl,h'⟩ <;> rcases k with k | ⟨rfl,k'⟩
 ·exact cZ (Int.add_pos h k)
 ·exact cZ (by rw[tJ];exact h)
 ·exact cZ (by rw[Int.zero_add];exact k)
 ·exact cX ⟨rfl,Int.add_pos h' k'⟩
theorem tK {k x y:Int} (hk:0<k) (h:LP x y):LP (k*x) (k*y):=by
 unfold LP at *
 rcases h with h | ⟨h,h'⟩
 ·exact cZ (aY hk h)
 ·exact cX ⟨by rw[h,Int.mul_zero],aY hk h'⟩
theorem Bz {k x y z w:Int} (hk:0<=k) (h:LP x y) (h0:LP z w):LP (z+k*x) (w+k*y):=by
 rcases kQ hk with h' | rfl
 ·exact LX h0 (tK h' h)
 ·rw[qI,qI,tJ,tJ];exact h0
theorem Qz (h:LP 0 0):False:=h.elim (lS _) λh=>lS _ h.2
theorem YS {k x y:Int} (h:LP x y) (hk:LP (k*x) (k*y)):0<k:=by
 unfold LP at *
 rcases h with h | ⟨h,h'⟩
 ·rcases hk with hk | ⟨hk,_⟩
  ·exact iS hk h |> λh=>h
  ·rcases sO.mp hk with e | e
   ·subst e;simp at *;
   ·lia
 ·subst h
  rcases hk with hk | ⟨_,hk⟩
  ·simp at hk
  ·exact iS hk h'
theorem SO {ux uy vx vy wx wy:Int} (hu:LP ux uy) (hv:LP vx vy) (hw:LP wx wy) (h:0<ux*vy-uy*vx) (k:0<vx*wy-vy*wx) :
  0<ux*(vy+wy)-uy*(vx+wx)/\0<(ux+vx)*wy-(uy+vy)*wx:=by
 constructor
 ·refine YS hv (?_:LP _ _)
  have:=LX (tK h (LX hv hw)) (tK k hu)
  have e1:(ux*(vy+wy)-uy*(vx+wx))*vx=(ux*vy-uy*vx)*(vx+wx)+(vx*wy-vy*wx)*ux:=by grind
  have e2:(ux*(vy+wy)-uy*(vx+wx))*vy=(ux*vy-uy*vx)*(vy+wy)+(vx*wy-vy*wx)*uy:=by grind
  rw[e1,e2];exact this
 ·refine YS hv (?_:LP _ _)
  have:=LX (tK h hw) (tK k (LX hu hv))
  have e1:((ux+vx)*wy-(uy+vy)*wx)*vx=(ux*vy-uy*vx)*wx+(vx*wy-vy*wx)*(ux+vx):=by grind
  have e2:((ux+vx)*wy-(uy+vy)*wx)*vy=(ux*vy-uy*vx)*wy+(vx*wy-vy*wx)*(uy+vy):=by grind
  rw[e1,e2];exact this
theorem YJ {a b c d:Pt} (ab:ltP a b) (bc:ltP b c) (cd:ltP c d) (h:0<cQ a b c) (k:0<cQ b c d):0<cQ a b d/\0<cQ a c d:=by
 have:=SO (qJ ab) (qJ bc) (qJ cd) (by unfold cQ at h;grind) (by unfold cQ at k;grind)
 unfold cQ
 constructor
 ·have:=this.1;grind
 ·have:=this.2;grind
theorem Qo {ux uy vx vy ax ay px py:Int} (A:LP ax ay) (P:LP px py) (V:LP vx vy) (hc:0<ux*vy-uy*vx) (m0:0<=-(ux*ay-uy*ax)) (x0:0<=ax*vy-ay*vx) (y0:0<=ux*py-uy*px) (n0:0<=vx*py-vy*px):0<ax*py-ay*px:=by
 have CA:=tK hc A
 have S:=Bz m0 V CA
 rw[show (ux*vy-uy*vx)*ax + -(ux*ay-uy*ax)*vx=(ax*vy-ay*vx)*ux by grind,show (ux*vy-uy*vx)*ay + -(ux*ay-uy*ax)*vy=(ax*vy-ay*vx)*uy by grind] at S
 have hx:0<ax*vy-ay*vx:=by
  rcases kQ x0 with h | h
  ·exact h
  ·rw[<-h,qI,qI] at S;exact (Qz S).elim
 have T:=Bz n0 CA (tK hx (tK hc P))
 rw[show (ax*vy-ay*vx)*((ux*vy-uy*vx)*px)+(vx*py-vy*px)*((ux*vy-uy*vx)*ax)=((ax*py-ay*px)*(ux*vy-uy*vx))*vx by grind,show (ax*vy-ay*vx)*((ux*vy-uy*vx)*py)+(vx*py-vy*px)*((ux*vy-uy*vx)*ay)=((ax*py-ay*px)*(ux*vy-uy*vx))*vy by grind] at T
 exact iS (YS V T) hc
theorem YM {a0 b c0 a p:Pt} (h0:ltP b c0) (ha:ltP a b) (hp:ltP b p) (hc:0<cQ a0 b c0) (h1:0<=cQ a0 b a) (h2:0<=cQ b c0 a) (h3:0<=cQ a0 b p) (h4:0<=cQ b c0 p):0<cQ a b p:=by
 have A:=qJ ha;have P:=qJ hp;have U2:=qJ h0
 have hc':0<(b.1-a0.1)*(c0.2-b.2)-(b.2-a0.2)*(c0.1-b.1):=by
  have e:cQ a0 b c0=(b.1-a0.1)*(c0.2-b.2)-(b.2-a0.2)*(c0.1-b.1):=by { unfold cQ;grind }
  rw[<-e];exact hc
 have m0:0<=-((b.1-a0.1)*(b.2-a.2)-(b.2-a0.2)*(b.1-a.1)):=by
  have e:cQ a0 b a = -((b.1-a0.1)*(b.2-a.2)-(b.2-a0.2)*(b.1-a.1)):=by unfold cQ;grind
  rw[<-e];exact h1
 have x0:0<=(b.1-a.1)*(c0.2-b.2)-(b.2-a.2)*(c0.1-b.1):=by
  have e:cQ b c0 a=(b.1-a.1)*(c0.2-b.2)-(b.2-a.2)*(c0.1-b.1):=by unfold cQ;grind
  rw[<-e];exact h2
 have y0:0<=(b.1-a0.1)*(p.2-b.2)-(b.2-a0.2)*(p.1-b.1):=by
  have e:cQ a0 b p=(b.1-a0.1)*(p.2-b.2)-(b.2-a0.2)*(p.1-b.1):=by unfold cQ;grind
  rw[<-e];exact h3
 have n0:0<=(c0.1-b.1)*(p.2-b.2)-(c0.2-b.2)*(p.1-b.1):=by
  have e:cQ b c0 p=(c0.1-b.1)*(p.2-b.2)-(c0.2-b.2)*(p.1-b.1):=by unfold cQ;grind
  rw[<-e];exact h4
 have goal:cQ a b p=(b.1-a.1)*(p.2-b.2)-(b.2-a.2)*(p.1-b.1):=by unfold cQ;grind
 rw[goal]
 exact Qo A P U2 hc' m0 x0 y0 n0
def jV (p:Pt):List Pt->List Pt
 | b::a::r=>if cQ a b p<=0 then jV p (a::r) else b::a::r
 | s=>s
def kF (L:List Pt):List Pt:=L.foldl (λs p=>p::jV p s) []
def Dec (s:List Pt):Prop:=s.Pairwise λx y=>ltP y x
def Inc (s:List Pt):Prop:=s.Pairwise ltP
def Tri (s:List Pt):Prop:=∀c b a,[c,b,a].Sublist s->0<cQ a b c
def Seen (p:Pt) (s:List Pt):Prop:=∀b a,[b,a].Sublist s->0<cQ a b p
theorem JK (p:Pt):∀s,∃l,s=l++jV p s
 | []=>⟨[],rfl⟩
 | [_]=>⟨[],rfl⟩
 | b::a::r=>by
  unfold jV
  split
  ·obtain⟨l,e⟩:=JK p (a::r)
   exact⟨b::l,by rw[bG,<-e]⟩
  ·exact⟨[],rfl⟩
theorem wN (p:Pt) (s:List Pt):(jV p s).Sublist s:=by
 obtain⟨l,e⟩:=JK p s
 conv=>rhs;rw[e]
 exact List.sublist_append_right _ _
theorem Dr (p:Pt):∀s,s≠[]->jV p s≠[]
 | [],h=>h
 | [_],_=>by simp[jV]
 | b::a::r,_=>by
  unfold jV
  split
  ·exact Dr p (a::r) (by simp)
  ·simp
theorem XM (p:Pt):∀s b a r,jV p s=b::a::r->0<cQ a b p
 | [],_,_,_,h=>by simp[jV] at h
 | [_],_,_,_,h=>by simp[jV] at h
 | b'::a'::r',b,a,r,h=>by
  unfold jV at h
  split at h
  ·exact XM p (a'::r') b a r h
  ·rename_i hn
   cases h
   lia
theorem Dec.mem {s:List Pt} {b:Pt} {r:List Pt} (h:Dec (b::r)) {a:Pt} (ha:a∈r):ltP a b:=(cK.mp h).1 a ha
theorem Za {α:Type} {b a b0:α} {r:List α} (h:[b,a].Sublist (b0::r)):(b=b0/\a∈r)\/[b,a].Sublist r:=by
 cases h with
 | cons _ h=>exact cX h
 | cons_cons _ h=>exact cZ ⟨rfl,by simpa using h⟩
theorem YD {p b0 a0:Pt} {r:List Pt} (d:Dec (b0::a0::r)) (t:Tri (b0::a0::r)) (hp:ltP b0 p) (h:0<cQ a0 b0 p):Seen p (b0::a0::r):=by
 have top:∀a,a∈a0::r->0<cQ a b0 p:=by
  intro a ha
  rcases aK.mp ha with rfl | ha
  ·exact h
  ·have t1:0<cQ a a0 b0:=t b0 a0 a (by simpa using ha)
   exact (YJ (Dec.mem (s:=[]) (cK.mp d).2 ha) (Dec.mem (s:=[]) d (by simp)) hp t1 h).2
 intro b a hs
 rcases Za hs with ⟨rfl,ha⟩ | hs
 ·exact top a ha
 ·have hb:b∈a0::r:=hs.subset (by simp)
  have t1:0<cQ a b b0:=t b0 b a (hs.cons_cons b0)
  have hab:ltP a b:=by
   have d':Dec [b,a]:=kZ hs (cK.mp d).2
   exact (cK.mp d').1 a (by simp)
  exact (YJ hab (Dec.mem (s:=[]) d hb) hp t1 (top b hb)).1
theorem Qg {p:Pt} {s:List Pt} (d:Dec s) (t:Tri s) (hp:∀q∈s,ltP q p):Dec (p::jV p s)/\Tri (p::jV p s):=by
 have hs:=wN p s
 have d':Dec (jV p s):=kZ hs d
 have t':Tri (jV p s):=λc b a h=>t c b a (h.trans hs)
 have hp':∀q∈jV p s,ltP q p:=λq hq=>hp q (hs.subset hq)
 have sn:Seen p (jV p s):=by
  generalize e:jV p s=u at *
  match u,e with
  | [],_=>intro b a h;cases h
  | [x],_=>intro b a h;have:=h.length_le;simp at this
  | b::a::r,e=>exact YD d' t' (hp' b (by simp)) (XM p s b a r e)
 refine⟨cK.mpr ⟨hp',d'⟩,?_⟩
 intro c b a h
 cases h with
 | cons _ h=>exact t' c b a h
 | cons_cons _ h=>exact sn b a h
structure LowChain (L C:List Pt):Prop where
 inc:Inc C
 mem:∀q∈C,q∈L
 first:∀q∈L,∀c r,C=c::r->¬ltP q c
 last:∀q∈L,∀c l,C=l++[c]->¬ltP c q
 side:∀l a b r,C=l++a::b::r->∀q∈L,0<=cQ a b q
 bend:∀l a b c r,C=l++a::b::c::r->0<cQ a b c
theorem LowChain.vertex {L C:List Pt} (H:LowChain L C) {a b p:Pt} (hb:b∈C) (ha:a∈L) (hp:p∈L) (ab:ltP a b) (bp:ltP b p):0<cQ a b p:=by
 obtain⟨l,r,e⟩:=mO hb
 rcases eU l with rfl | ⟨l',a0,rfl⟩
 ·exact absurd ab (H.first a ha b r e)
 ·match r with
  | []=>exact absurd bp (H.last p hp b _ e)
  | c0::r' =>
   have e1:C=l'++a0::b::c0::r':=by simpa using e
   have e2:C=(l'++[a0])++b::c0::r':=by simpa using e
   have i:=H.inc
   rw[e2] at i
   have bc:ltP b c0:=(cK.mp (jT.mp i).2.1).1 c0 (by simp)
   exact YM bc ab bp (H.bend _ _ _ _ _ e1) (H.side _ _ _ _ e1 a ha) (H.side _ _ _ _ e2 a ha) (H.side _ _ _ _ e1 p hp) (H.side _ _ _ _ e2 p hp)
theorem RQ {L C:List Pt} (H:LowChain L C) {p:Pt} (hp:p∈L):∀s,Dec s->(∀q∈s,q∈L)->(∀q∈s,ltP q p)->∀c∈C,c∈s->c∈jV p s
 | [],_,_,_,_,_,h=>h
 | [_],_,_,_,_,_,h=>h
 | b::a::r,d,m,lt,c,hc,h=>by
  unfold jV
  split
  ·rename_i ht
   rcases aK.mp h with rfl | h
   ·exact absurd (H.vertex hc (m a (by simp)) hp (Dec.mem (s:=[]) d (by simp)) (lt _ (by simp))) (by lia)
   ·exact RQ H hp (a::r) (cK.mp d).2 (λq hq=>m q (aW _ hq)) (λq hq=>lt q (aW _ hq)) c hc h
  ·exact h
theorem Ef {L C:List Pt} (H:LowChain L C):∀(R:List Pt) (s:List Pt),(∀q∈R,q∈L)->Inc R->Dec s->Tri s->(∀q∈s,q∈L)->(∀q∈s,∀p∈R,ltP q p)->(∀c∈C,c∈s\/c∈R) ->
  let S:=R.foldl (λs p=>p::jV p s) s
  Dec S/\Tri S/\(∀q∈S,q∈L)/\(∀c∈C,c∈S)
 | [],s,_,_,d,t,m,_,hc=>⟨d,t,m,λc h=>by simpa using hc c h⟩
 | p::R,s,hR,i,d,t,m,lt,hc=>by
  have ok:=Qg d t (p:=p) (λq hq=>lt q hq p (by simp))
  refine Ef H R (p::jV p s) (λq hq=>hR q (aW _ hq)) (cK.mp i).2 ok.1 ok.2 ?_ ?_ ?_
  ·intro q hq
   rcases aK.mp hq with rfl | hq
   ·exact hR _ (by simp)
   ·exact m q ((wN p s).subset hq)
  ·intro q hq r hr
   rcases aK.mp hq with rfl | hq
   ·exact (cK.mp i).1 r hr
   ·exact lt q ((wN p s).subset hq) r (aW _ hr)
  ·intro c hcc
   rcases hc c hcc with h | h
   ·exact cZ (aW _ (RQ H (hR p (by simp)) s d m (λq hq=>lt q hq p (by simp)) c hcc h))
   ·rcases aK.mp h with rfl | h
    ·exact cZ (by simp)
    ·exact cX h
theorem Ch:∀(C:List Pt) (t:Pt),t ∉ C->(∃c∈C,ltP c t)->(∃d∈C,ltP t d)->Inc C->∃l c d r,C=l++c::d::r/\ltP c t/\ltP t d
 | [],_,_,⟨_,h,_⟩,_,_=>by cases h
 | [x],t,_,⟨c,hc,h⟩,⟨d,hd,k⟩,_=>by
  simp at hc hd;subst hc;subst hd;exact absurd k (tW h)
 | x::y::r,t,ht,⟨c,hc,h⟩,⟨d,hd,k⟩,i=>by
  have hxt:ltP x t:=by
   rcases aK.mp hc with rfl | hc
   ·exact h
   ·exact rZ ((cK.mp i).1 c hc) h
  rcases qU y t with hy | rfl | hy
  ·have hd':d∈y::r:=by
    rcases aK.mp hd with rfl | hd
    ·exact absurd k (tW hxt)
    ·exact hd
   obtain⟨l,c',d',r',e,h1,h2⟩:=Ch (y::r) t (λh=>ht (aW _ h)) ⟨y,by simp,hy⟩ ⟨d,hd',k⟩ (cK.mp i).2
   exact⟨x::l,c',d',r',by rw[e];rfl,h1,h2⟩
  ·simp at ht
  ·exact⟨[],x,y,r,rfl,hxt,hy⟩
theorem TU:∀(A B:List Pt),Inc A->Inc B->(∀q,q∈A↔q∈B)->A=B
 | [],[],_,_,_=>rfl
 | [],b::B,_,_,h=>absurd ((h b).mpr (by simp)) (by simp)
 | a::A,[],_,_,h=>absurd ((h a).mp (by simp)) (by simp)
 | a::A,b::B,ia,ib,h=>by
  have ia':=cK.mp ia;have ib':=cK.mp ib
  have e:a=b:=by
   rcases aK.mp ((h a).mp (by simp)) with e | ha
   ·exact e
   ·rcases aK.mp ((h b).mpr (by simp)) with e | hb
    ·exact e.symm
    ·exact absurd (ib'.1 a ha) (tW (ia'.1 b hb))
  subst e
  congr 1
  refine TU A B ia'.2 ib'.2 λq=>⟨λhq=>?_,λhq=>?_⟩
  ·rcases aK.mp ((h q).mp (aW _ hq)) with rfl | h'
   ·exact absurd (ia'.1 q hq) tQ
   ·exact h'
  ·rcases aK.mp ((h q).mpr (aW _ hq)) with rfl | h'
   ·exact absurd (ib'.1 q hq) tQ
   ·exact h'
theorem Nz (A B:List Pt) (ia:Inc A) (ib:Inc B) (h:∀x∈A,x∈B):A.Sublist B:=by
 induction B generalizing A with
 | nil =>
  cases A with
  | nil=>exact FK _
  | cons a A=>cases h a (.head _)
 | cons b B ih =>
  cases A with
  | nil=>exact List.nil_sublist _
  | cons a A =>
   have ia':=cK.mp ia
   have ib':=cK.mp ib
   rcases aK.mp (h a (.head _)) with rfl | ha
   ·exact (ih A ia'.2 ib'.2 λx hx=>(aK.mp (h x (.tail _ hx))).resolve_left λe=>tQ (e ▸ ia'.1 x hx)).cons_cons a
   ·refine (ih (a::A) ia ib'.2 λx hx=>(aK.mp (h x hx)).resolve_left λe=>?_).cons b
    rcases aK.mp hx with k | hx
    ·exact tQ (k ▸ e ▸ ib'.1 a ha)
    ·exact tW (ia'.1 x hx) (e ▸ ib'.1 a ha)
theorem WI {L C:List Pt} (iL:Inc L) (H:LowChain L C) (hne:C≠[]):(kF L).reverse=C:=by
 obtain⟨d,t,m,k⟩:=Ef H L [] (λ_ h=>h) iL nT (λ_ _ _ h=>by cases h) (λ_ h=>by cases h) (λ_ h=>by cases h) (λc hc=>cX (H.mem c hc))
 have inc:Inc (kF L).reverse:=nM.mpr d
 refine TU _ _ inc H.inc λq=>⟨λhq=>?_,λhq=>oQ.mpr (k q hq)⟩
 apply Decidable.byContradiction
 intro hn
 have hq':q∈kF L:=oQ.mp hq
 have hL:=m q hq'
 have h1:∃c∈C,ltP c q:=by
  match C,hne with
  | c::r,_ =>
   refine⟨c,by simp,?_⟩
   rcases qU c q with h | rfl | h
   ·exact h
   ·simp at hn
   ·exact absurd h (H.first q hL c r rfl)
 have h2:∃d∈C,ltP q d:=by
  rcases eU C with e | ⟨l,c,e⟩
  ·exact absurd e hne
  ·refine⟨c,by simp[e],?_⟩
   rcases qU q c with h | rfl | h
   ·exact h
   ·simp[e] at hn
   ·exact absurd h (H.last q hL c l (by simpa using e))
 obtain⟨l,c,e,r,eC,hc,he⟩:=Ch C q hn h1 h2 H.inc
 have hs:[e,q,c].Sublist (kF L):=by
  have i3:Inc [c,q,e]:=by
   exact .cons (λx hx=>(aK.mp hx).elim (λe=>e ▸ hc) λh=>dU.mp h ▸ rZ hc he) (.cons (λx hx=>dU.mp hx ▸ he) (.cons (λx hx=>by cases hx) .nil))
  have:[c,q,e].Sublist (kF L).reverse:=by
   refine Nz _ _ i3 inc λx hx=>?_
   rw[oQ]
   rcases aK.mp hx with rfl | hx
   ·exact k _ (eC ▸ bT _ (.head _))
   ·rcases aK.mp hx with rfl | hx
    ·exact hq'
    ·exact k _ (dU.mp hx ▸ eC ▸ bT _ (.tail _ (.head _)))
  simpa using this.reverse
 have t1:=t e q c hs
 have t2:=H.side l c e r eC q hL
 have:cQ c e q = - cQ c q e:=by unfold cQ;grind
 lia
namespace K33
end K33
abbrev Ux:=Pt × Pt
def wid (s:Ux):Int:=s.2.1-s.1.1
def hB (B:Int) (s:Ux) (t:Int):Int:=(s.1.2*wid s+(s.2.2-s.1.2)*(t-s.1.1))*B.fdiv (wid s)
def jO (p:Pt):Pt:=(-p.1,-p.2)
theorem AH (p:Pt):jO (jO p)=p:=by unfold jO;simp
theorem tX (a b c:Pt):cQ (jO a) (jO b) (jO c)=cQ a b c:=by unfold cQ jO;grind
theorem xX {a b:Pt}:ltP (jO a) (jO b)↔ltP b a:=or_congr DR (and_congr (Int.neg_inj.trans eq_comm) DR)
theorem XL (p:Pt):∀s,jV (jO p) (s.map jO)=(jV p s).map jO
 | []=>rfl
 | [_]=>rfl
 | b::a::r=>by
  have ih:=XL p (a::r)
  simp only[aT] at ih ⊢
  rw[jV,jV,tX]
  split
  ·exact ih
  ·rfl
theorem YO:∀(L s:List Pt),(L.map jO).foldl (λs p=>p::jV p s) (s.map jO)=(L.foldl (λs p=>p::jV p s) s).map jO
 | [],_=>rfl
 | p::L,s=>by
  simp only[aT,pP]
  rw[XL,<-aT]
  exact YO L (p::jV p s)
theorem MW (L:List Pt):kF (L.map jO)=(kF L).map jO:=YO L []
theorem EL {L:List Pt} (h:Dec L):Inc (L.map jO):=by
 unfold Inc;rw[nU]
 exact h.imp λk=>xX.mpr k
theorem Ny {L C:List Pt} (iL:Inc L) (H:LowChain (L.map jO) (C.map jO)) (hne:C≠[]):(kF L.reverse).reverse=C:=by
 have i1:Inc (L.reverse.map jO):=EL (nM.mpr iL)
 have H':LowChain (L.reverse.map jO) (C.map jO):=by
  have m:∀q,q∈L.reverse.map jO↔q∈L.map jO:=by intro q;simp
  exact⟨H.inc,λq h=>(m q).mpr (H.mem q h),λq h=>H.first q ((m q).mp h),λq h=>H.last q ((m q).mp h),λl a b r e q h=>H.side l a b r e q ((m q).mp h),H.bend⟩
 have:=WI i1 H' (by simpa using hne)
 rw[MW,<-HQ] at this
 have k:=congrArg (uF jO) this
 rw[dD,dD] at k
 have e:jO ∘ jO=id:=by funext p;exact AH p
 rwa [e,nZ,nZ] at k
theorem Op {ax ay vx vy ux uy:Int} (A:LP ax ay) (V:LP vx vy) (U:LP ux uy) (hc:0<ux*vy-uy*vx) (k1:0<=vx*ay-vy*ax) (k2:0<=-(ux*ay-uy*ax)):False:=by
 have S:=Bz k2 V (Bz k1 U (tK hc A))
 rw[show (ux*vy-uy*vx)*ax+(vx*ay-vy*ax)*ux + -(ux*ay-uy*ax)*vx=0 by grind,show (ux*vy-uy*vx)*ay+(vx*ay-vy*ax)*uy + -(ux*ay-uy*ax)*vy=0 by grind] at S
 exact Qz S
theorem IK {a b c q:Pt} (ba:ltP b a) (bc:ltP b c) (h:0<cQ a b c) (h1:0<=cQ a b q) (h2:0<=cQ b c q):¬ltP q b:=by
 intro hq
 have A:=qJ hq;have V:=qJ ba;have U:=qJ bc
 have hc:0<(c.1-b.1)*(a.2-b.2)-(c.2-b.2)*(a.1-b.1):=by
  have e:cQ a b c=(c.1-b.1)*(a.2-b.2)-(c.2-b.2)*(a.1-b.1):=by unfold cQ;grind
  rw[<-e];exact h
 have k1:0<=(a.1-b.1)*(b.2-q.2)-(a.2-b.2)*(b.1-q.1):=by
  have e:cQ a b q=(a.1-b.1)*(b.2-q.2)-(a.2-b.2)*(b.1-q.1):=by unfold cQ;grind
  rw[<-e];exact h1
 have k2:0<=-((c.1-b.1)*(b.2-q.2)-(c.2-b.2)*(b.1-q.1)):=by
  have e:cQ b c q = -((c.1-b.1)*(b.2-q.2)-(c.2-b.2)*(b.1-q.1)):=by unfold cQ;grind
  rw[<-e];exact h2
 exact Op A V U hc k1 k2
theorem Fx {a b c q:Pt} (ab:ltP a b) (cb:ltP c b) (h:0<cQ a b c) (h1:0<=cQ a b q) (h2:0<=cQ b c q):¬ltP b q:=λhq =>
 IK (xX.mpr ab) (xX.mpr cb) (by rw[tX];exact h) (by rw[tX];exact h1) (by rw[tX];exact h2) (xX.mpr hq)
def Ht (R:List Pt):Prop:=∀l a b c s,R=l++a::b::c::s->¬(ltP b a/\ltP b c)
def Hu (R:List Pt):Prop:=∀l a b s,R=l++a::b::s->a≠b
theorem VW:∀(s:List Pt) (a b:Pt),ltP b a->Ht (a::b::s)->Hu (a::b::s)->Dec (a::b::s)
 | [],a,b,h,_,_=>by simp only[Dec,cK,aK,fS,or_false];exact⟨λx e=>e ▸ h,by simp⟩
 | c::s,a,b,h,nd,nr=>by
  have hc:ltP c b:=by
   rcases qU c b with h' | h' | h'
   ·exact h'
   ·exact absurd h'.symm (nr [a] b c s rfl)
   ·exact absurd ⟨h,h'⟩ (nd [] a b c s rfl)
  have ih:=VW s b c hc (λl x y z w e=>nd (a::l) x y z w (by rw[e];rfl)) (λl x y w e=>nr (a::l) x y w (by rw[e];rfl))
  refine cK.mpr ⟨λq hq=>?_,ih⟩
  rcases aK.mp hq with rfl | hq
  ·exact h
  ·exact rZ ((cK.mp ih).1 q hq) h
theorem WX:∀(R:List Pt),R≠[]->Ht R->Hu R->∃A m B,R=A++m::B/\Inc (A++[m])/\Dec (m::B)
 | [],h,_,_=>absurd rfl h
 | [x],_,_,_=>⟨[],x,[],rfl,by simp[Inc],by simp[Dec]⟩
 | a::b::s,_,nd,nr=>by
  rcases qU a b with h | h | h
  ·obtain⟨A,m,B,e,i,d⟩:=WX (b::s) (by simp) (λl x y z w e=>nd (a::l) x y z w (by rw[e];rfl)) (λl x y w e=>nr (a::l) x y w (by rw[e];rfl))
   refine⟨a::A,m,B,by rw[e];rfl,?_,d⟩
   refine cK.mpr ⟨λq hq=>?_,i⟩
   have hb:q=b\/ltP b q:=by
    match A,e,i,hq with
    | [],e,i,hq=>simp at hq;simp at e;exact cZ (hq.trans e.1.symm)
    | x::A,e,i,hq =>
     simp at e
     obtain⟨rfl,e⟩:=e
     rcases aK.mp hq with rfl | hq
     ·exact cZ rfl
     ·exact cX ((cK.mp i).1 q hq)
   rcases hb with rfl | hb
   ·exact h
   ·exact rZ h hb
  ·exact absurd h (nr [] a b s rfl)
  ·exact⟨[],a,b::s,rfl,by simp[Inc],VW s a b h nd nr⟩
structure RingAbout (L:List Pt) (z y:Pt) (t:List Pt):Prop where
 mem:∀q∈z::y::t,q∈L
 least:∀q∈y::t,ltP z q
 side:∀l a b r,(z::y::t)++[z]=l++a::b::r->∀q∈L,0<=cQ a b q
 bend:∀l a b c r,(z::y::t)++[z,y]=l++a::b::c::r->0<cQ a b c
theorem Ed {a b c:Pt} (h:0<cQ a b c):a≠b/\b≠c:=by
 constructor <;> rintro rfl <;> unfold cQ at h <;> grind
def sY (L:List Pt):List Pt:=(kF L).reverse.dropLast
theorem Ey {z b a c:Pt} {T l s:List Pt} (e:(z::T)++[z]=l++a::b::c::s):b∈T:=by
 have h:((z::T)++[z]).dropLast=(l++a::b::c::s).dropLast:=congrArg OV e
 have h2:(l++a::b::c::s).dropLast=(l++[a])++(b::(c::s).dropLast):=by
  have:l++a::b::c::s=(l++[a,b])++(c::s):=by simp
  rw[this,List.dropLast_append_of_ne_nil (by simp)];simp
 rw[jQ,h2] at h
 cases l with
 | nil=>simp at h;rw[h.2];simp
 | cons l0 l=>simp at h;rw[h.2];simp
theorem Hb {L:List Pt} {z y:Pt} {t:List Pt} (iL:Inc L) (H:RingAbout L z y t):sY L++sY L.reverse=z::y::t:=by
 have zlty:ltP z y:=H.least y (by simp)
 have bendR:∀l a b c s,(z::y::t)++[z]=l++a::b::c::s->0<cQ a b c:=by
  intro l a b c s e
  refine H.bend l a b c (s++[y]) ?_
  have:(z::y::t)++[z,y]=((z::y::t)++[z])++[y]:=by simp
  rw[this,e];simp
 have rep:Hu ((z::y::t)++[z]):=by
  intro l a b s e
  match s with
  | c::s=>exact (Ed (bendR l a b c s e)).1
  | [] =>
   have:(z::y::t)++[z,y]=l++a::b::[y]:=by
    have:(z::y::t)++[z,y]=((z::y::t)++[z])++[y]:=by simp
    rw[this,e];simp
   exact (Ed (H.bend l a b y [] this)).1
 have memR:∀q∈(z::y::t)++[z],q∈L:=by
  intro q hq
  rcases cY.mp hq with h | h
  ·exact H.mem q h
  ·simp at h;subst h;exact H.mem _ (by simp)
 have hz:z∈L:=H.mem z (by simp)
 have dip:Ht ((z::y::t)++[z]):=by
  intro l a b c s e ⟨h1,h2⟩
  have nb:=IK h1 h2 (bendR l a b c s e) (H.side l a b (c::s) e z hz) (H.side (l++[a]) b c s (by rw[e];simp) z hz)
  exact nb (H.least b (Ey e))
 obtain⟨A,m,B,e,iA,dB⟩:=WX _ (by simp) dip rep
 have hA:∃A',A=z::A':=by
  match A,e with
  | [],e =>
   exfalso
   simp at e
   obtain⟨rfl,e5⟩:=e
   have hy:y∈B:=by rw[<-e5];simp
   exact tW zlty ((cK.mp dB).1 y hy)
  | x::A',e=>simp at e;exact⟨A',by rw[e.1]⟩
 obtain⟨A',rfl⟩:=hA
 have hB:∃B',B=B'++[z]:=by
  rcases eU B with rfl | ⟨B',x,rfl⟩
  ·exfalso
   have e':(z::y::t)++[z]=(z::A')++[m]:=e
   have:=gN e' rfl
   simp at this
   subst this
   exact tQ ((cK.mp iA).1 z (by simp))
  ·have e':(z::y::t)++[z]=(z::A'++m::B')++[x]:=by rw[e];simp
   have:=gN e' rfl
   simp at this
   exact⟨B',by rw[this];simp⟩
 obtain⟨B',rfl⟩:=hB
 have e2:(z::y::t)++[z]=(z::A'++m::B')++[z]:=by rw[e];simp
 have er:z::y::t=z::A'++m::B':=lA e2 rfl
 have minL:∀q∈L,¬ltP q z:=by
  intro q hq
  rcases eU (y::t) with h | ⟨u,x,hu⟩
  ·simp at h
  ·have e3:(z::y::t)++[z,y]=(z::u)++x::z::y::[]:=by rw[hu];simp
   have hx:ltP z x:=H.least x (by rw[hu];simp)
   exact IK hx zlty (H.bend _ _ _ _ _ e3) (H.side (z::u) x z [] (by rw[hu];simp) q hq) (H.side [] z y (t++[z]) (by simp) q hq)
 have maxL:∀q∈L,¬ltP m q:=by
  intro q hq
  rcases eU (z::A') with h | ⟨u,x,hu⟩
  ·simp at h
  ·have hxm:ltP x m:=by
    have iA':=iA
    rw[hu] at iA'
    exact (jT.mp iA').2.2 x (by simp) m (by simp)
   match hB':B'++[z],dB with
   | [],_=>simp at hB'
   | c::s,dB =>
    have e3:(z::y::t)++[z]=u++x::m::c::s:=by rw[e,<-hB',hu];simp
    have hcm:ltP c m:=by
     exact (cK.mp dB).1 c (by simp)
    exact Fx hxm hcm (bendR _ _ _ _ _ e3) (H.side _ _ _ _ e3 q hq) (H.side (u++[x]) m c s (by rw[e3];simp) q hq)
 have low:LowChain L (z::A'++[m]):=by
  refine⟨iA,λq hq=>memR q ?_,λq hq c r ec=>?_,λq hq c l ec=>?_,λl a b r ec q hq=>?_,λl a b c r ec=>?_⟩
  ·rw[e];simp at hq ⊢;rcases hq with h | h | h <;> simp[h]
  ·simp at ec;rw[<-ec.1];exact minL q hq
  ·have:=gN ec rfl
   simp at this;rw[<-this];exact maxL q hq
  ·refine H.side l a b (r++(B'++[z])) ?_ q hq
   have:z::A'++m::(B'++[z])=(z::A'++[m])++(B'++[z]):=by simp
   rw[e,this,ec];simp
  ·refine bendR l a b c (r++(B'++[z])) ?_
   have:z::A'++m::(B'++[z])=(z::A'++[m])++(B'++[z]):=by simp
   rw[e,this,ec];simp
 have negmem:∀q∈L.map jO,∃p∈L,q=jO p:=by
  intro q hq
  obtain⟨p,hp,rfl⟩:=cB.mp hq
  exact⟨p,hp,rfl⟩
 have eN:∀(X Y:List Pt),X.map jO=Y->X=Y.map jO:=by
  rintro X Y rfl
  rw[dD]
  have e:jO ∘ jO=id:=by funext p;exact AH p
  rw[e,nZ]
 have up:LowChain (L.map jO) ((m::(B'++[z])).map jO):=by
  refine⟨EL dB,λq hq=>?_,λq hq c r ec=>?_,λq hq c l ec=>?_,λl a b r ec q hq=>?_,λl a b c r ec=>?_⟩
  ·obtain⟨p,hp,rfl⟩:=cB.mp hq
   refine eI (memR p ?_)
   rw[e]
   exact bT _ hp
  ·obtain⟨p,hp,rfl⟩:=negmem q hq
   simp at ec
   rw[<-ec.1,xX]
   exact maxL p hp
  ·obtain⟨p,hp,rfl⟩:=negmem q hq
   have ec':(m::B').map jO++[jO z]=l++[c]:=by simpa using ec
   have:=gN ec' rfl
   simp at this
   rw[<-this,xX]
   exact minL p hp
  ·obtain⟨p,hp,rfl⟩:=negmem q hq
   have ec':=eN _ _ ec
   simp only[cU,aT] at ec'
   have:=H.side (z::A'++l.map jO) (jO a) (jO b) (r.map jO) (by rw[e,ec'];simp) p hp
   rw[<-tX,AH,AH] at this
   exact this
  ·have ec':=eN _ _ ec
   simp only[cU,aT] at ec'
   have:=bendR (z::A'++l.map jO) (jO a) (jO b) (jO c) (r.map jO) (by rw[e,ec'];simp)
   rw[tX] at this
   exact this
 have h1:=WI iL low (by simp)
 have h2:=Ny iL up (by simp)
 unfold sY
 rw[h1,h2,er]
 have:m::(B'++[z])=(m::B')++[z]:=by simp
 rw[this,jQ,jQ]
def YU (L:List Pt):Prop:=L.Pairwise λx y=>¬ltP y x
theorem RP (p:Pt):∀s,jV p (jV p s)=jV p s
 | []=>rfl
 | [_]=>rfl
 | b::a::r=>by
  by_cases h:cQ a b p<=0
  ·rw[jV,if_pos h];exact RP p (a::r)
  ·have e:jV p (b::a::r)=b::a::r:=by rw[jV,if_neg h]
   rw[e,e]
theorem Hj (a p:Pt):cQ a p p<=0:=by
 unfold cQ
 have:(p.1-a.1)*(p.2-a.2)-(p.2-a.2)*(p.1-a.1)=0:=by grind
 lia
theorem OM (a p:Pt):cQ a a p<=0:=by
 unfold cQ
 have:(a.1-a.1)*(p.2-a.2)-(a.2-a.2)*(p.1-a.1)=0:=by grind
 lia
theorem rX (L:List Pt) (p:Pt):kF (L++[p])=p::jV p (kF L):=by unfold kF;rw[List.foldl_append];rfl
theorem Jy:∀(L:List Pt),(kF L).length<=L.length:=by
 have sub:∀(L s:List Pt),(L.foldl (λs p=>p::jV p s) s).length<=L.length+s.length:=by
  intro L
  induction L with
  | nil=>intro s;simp
  | cons y L ih =>
   intro s
   have i2:=ih (y::jV y s)
   have:=(wN y s).length_le
   simp only[pP,bZ] at i2 ⊢
   lia
 intro L;simpa [kF] using sub L []
structure DupOk (L D:List Pt):Prop where
 inc:Inc D
 mem:∀z,z∈D↔z∈L
 many:2<=D.length->kF L=kF D
 one:∀c,D=[c]->kF L=[c]\/kF L=[c,c]
 none:D=[]->kF L=[]
theorem Py {α:Type} {P:List α->Prop} (h0:P []) (h1:∀l x,P l->P (l++[x])):∀l,P l:=by
 intro l
 have:∀m:List α,P m.reverse:=by
  intro m
  induction m with
  | nil=>exact h0
  | cons x m ih=>rw[uW];exact h1 _ _ ih
 have:=this l.reverse
 rwa [List.reverse_reverse] at this
theorem Jp:∀(L:List Pt),YU L->∃D,DupOk L D:=by
 refine Py ?_ ?_
 ·intro _
  exact⟨[],nT,λz=>Iff.rfl,λh=>absurd h (by simp),λc h=>by simp at h,λ_=>rfl⟩
 ·intro L p ih hw
  have hw':=jT.mp hw
  obtain⟨D,H⟩:=ih hw'.1
  have top:∀z∈L,¬ltP p z:=λz hz=>hw'.2.2 z hz p (by simp)
  rcases eU D with hD | ⟨D',c,hD⟩
  ·-- nothing so far
   have hL:L=[]:=by
    apply List.eq_nil_iff_forall_not_mem.mpr
    intro z hz
    have:=(H.mem z).mpr hz
    rw[hD] at this;cases this
   subst hL
   refine⟨[p],by simp[Inc],λz=>by simp,λh=>absurd h (by simp),λc h=>?_,λh=>by simp at h⟩
   simp at h;subst h
   exact cZ rfl
  ·have hD:D=D'++[c]:=by simpa using hD
   subst hD
   have hcL:c∈L:=(H.mem c).mp (by simp)
   have cl:∀z∈D'++[c],z=c\/ltP z c:=by
    intro z hz
    rcases cY.mp hz with h | h
    ·exact cX ((jT.mp H.inc).2.2 z h c (by simp))
    ·exact cZ (by simpa using h)
   by_cases hpc:p=c
   ·subst hpc
    refine⟨D'++[p],H.inc,λz=>?_,λh2=>?_,λc hc=>?_,λh=>by simp at h⟩
    ·rw[H.mem z];simp only[cY,dU]
     exact⟨cZ,λh=>h.elim id λe=>e ▸ hcL⟩
    ·rw[rX,H.many h2,rX]
     have hne:kF D'≠[]:=by
      rcases eU D' with h | ⟨D'',d,h⟩
      ·rw[h] at h2;simp at h2
      ·have:D'=D''++[d]:=by simpa using h
       rw[this,rX];simp
     have hne2:=Dr p _ hne
     generalize hu:jV p (kF D')=u at hne2
     cases u with
     | nil=>exact absurd rfl hne2
     | cons a r =>
      rw[jV,if_pos (Hj a p)]
      congr 1
      rw[<-hu,RP]
    ·have hD':D'=[]/\p=c:=by
      cases D' with
      | nil=>simp at hc;exact⟨rfl,hc⟩
      | cons x D'=>simp at hc
     obtain⟨rfl,rfl⟩:=hD'
     rw[rX]
     rcases H.one p rfl with e | e
     ·rw[e];exact cX rfl
     ·rw[e,jV,if_pos (OM p p)];exact cX rfl
   ·have ltcp:ltP c p:=by
     rcases qU c p with h | h | h
     ·exact h
     ·exact absurd h.symm hpc
     ·exact absurd h (top c hcL)
    have inc2:Inc ((D'++[c])++[p]):=by
     refine jT.mpr ⟨H.inc,by simp,λz hz w hw=>?_⟩
     have:w=p:=by simpa using hw
     subst this
     rcases cl z hz with rfl | h
     ·exact ltcp
     ·exact rZ h ltcp
    refine⟨(D'++[c])++[p],inc2,λz=>?_,λ_=>?_,λd hd=>by have:=congrArg fJ hd;simp at this,λh=>by simp at h⟩
    ·rw[cY,H.mem z,cY]
    ·rw[rX,rX (D'++[c])]
     by_cases h2:2<=(D'++[c]).length
     ·rw[H.many h2]
     ·have:D'=[]:=by
       cases D' with
       | nil=>rfl
       | cons x D'=>simp at h2
      subst this
      rcases H.one c rfl with e | e
      ·rw[e];rfl
      ·rw[e,jV,if_pos (OM c p)];rfl
theorem VY {L D:List Pt} (hw:YU L) (iD:Inc D) (hm:∀z,z∈D↔z∈L):(2<=D.length->kF L=kF D)/\(D.length<=1->(kF L).length<=2):=by
 obtain⟨D1,H⟩:=Jp L hw
 have:D1=D:=TU _ _ H.inc iD λq=>(H.mem q).trans (hm q).symm
 subst this
 refine⟨H.many,λh=>?_⟩
 match D1,H,h with
 | [],H,_=>rw[H.none rfl];simp
 | [c],H,_=>rcases H.one c rfl with e | e <;> rw[e] <;> simp
 | _::_::_,_,h=>simp at h
def CN (L:List Pt):List Pt:=sY L++sY L.reverse
theorem VZ {L D:List Pt} (hw:YU L) (iD:Inc D) (hm:∀z,z∈D↔z∈L):(2<=D.length->CN L=CN D)/\(D.length<=1->(CN L).length<3):=by
 have a:=VY hw iD hm
 have wn:YU (L.reverse.map jO):=by
  unfold YU
  rw[nU,nM]
  exact hw.imp λh k=>h (xX.mp k)
 have iN:Inc (D.reverse.map jO):=EL (nM.mpr iD)
 have b:=VY wn iN λz=>by simp only[cB,oQ];constructor <;> (rintro⟨w,h1,h2⟩;exact⟨w,by first | exact (hm w).mp h1 | exact (hm w).mpr h1,h2⟩)
 rw[MW,MW] at b
 simp only[cI,sW] at b
 have inj:∀(X Y:List Pt),X.map jO=Y.map jO->X=Y:=by
  intro X Y h
  have:=congrArg (uF jO) h
  rw[dD,dD] at this
  have e:jO ∘ jO=id:=by funext p;exact AH p
  rwa [e,nZ,nZ] at this
 constructor
 ·intro h
  unfold CN sY
  rw[a.1 h,inj _ _ (b.1 h)]
 ·intro h
  have h1:=a.2 h
  have h2:=b.2 h
  unfold CN sY
  simp only[dI,zK,sW]
  exact DZ (Nat.add_le_add (zP h1 1) (zP h2 1)) (by decide)
def Nxt (L:List Pt) (a b:Pt):Prop:=∃l r,L=l++a::b::r
theorem Nxt.cons {L:List Pt} {a b:Pt} (x:Pt) (h:Nxt L a b):Nxt (x::L) a b:=by
 obtain⟨l,r,rfl⟩:=h;exact⟨x::l,r,rfl⟩
theorem Nxt.left {A:List Pt} {a b:Pt} (B:List Pt) (h:Nxt A a b):Nxt (A++B) a b:=by
 obtain⟨l,r,rfl⟩:=h;exact⟨l,r++B,by simp⟩
theorem Nxt.right {B:List Pt} {a b:Pt} (A:List Pt) (h:Nxt B a b):Nxt (A++B) a b:=by
 obtain⟨l,r,rfl⟩:=h;exact⟨A++l,r,by simp⟩
theorem NI:∀(A B:List Pt) (a b:Pt),Nxt (A++B) a b->Nxt A a b\/((∃A',A=A'++[a])/\∃B',B=b::B')\/Nxt B a b
 | [],B,a,b,h=>cX (cX h)
 | [x],B,a,b,⟨l,r,e⟩=>by
  cases l with
  | nil =>
   simp at e
   obtain⟨rfl,e⟩:=e
   exact cX (cZ ⟨⟨[],rfl⟩,r,e⟩)
  | cons y l=>simp at e;exact cX (cX ⟨l,r,e.2⟩)
 | x::y::A,B,a,b,⟨l,r,e⟩=>by
  cases l with
  | nil =>
   simp at e
   obtain⟨rfl,rfl,e⟩:=e
   exact cZ ⟨[],A,rfl⟩
  | cons u l =>
   simp at e
   obtain⟨rfl,e⟩:=e
   rcases NI (y::A) B a b ⟨l,r,by simpa using e⟩ with h | ⟨⟨A',h1⟩,h2⟩ | h
   ·exact cZ (h.cons x)
   ·exact cX (cZ ⟨⟨x::A',by rw[h1];rfl⟩,h2⟩)
   ·exact cX (cX h)
theorem Ov {f:Pt->Pt} {L:List Pt} {a b:Pt} (h:Nxt (L.map f) a b):∃x y,Nxt L x y/\a=f x/\b=f y:=by
 obtain⟨l,r,e⟩:=h
 obtain⟨l1,l2,rfl,rfl,e2⟩:=mP.mp e
 obtain⟨x,l3,rfl,rfl,e3⟩:=jR.mp e2
 obtain⟨y,l4,rfl,rfl,e4⟩:=jR.mp e3
 exact⟨x,y,⟨l1,l4,rfl⟩,rfl,rfl⟩
theorem Nxt.mem {L:List Pt} {a b:Pt} (h:Nxt L a b):a∈L/\b∈L:=by
 obtain⟨l,r,rfl⟩:=h;simp
def Cyc (cs:List Pt) (a b:Pt):Prop:=Nxt (cs++cs.take 1) a b
structure Cvx (cs:List Pt):Prop where
 len:3<=cs.length
 nodup:cs.Nodup
 strict:∀a b,Cyc cs a b->∀q∈cs,q≠a->q≠b->0<cQ a b q
theorem Ml (a b:Pt):cQ a b a=0:=by unfold cQ;grind
theorem Us (a b:Pt):cQ a b b=0:=by unfold cQ;grind
theorem Cvx.side {cs:List Pt} (h:Cvx cs) {a b:Pt} (hab:Cyc cs a b) {q:Pt} (hq:q∈cs):0<=cQ a b q:=by
 by_cases h1:q=a
 ·subst h1;rw[Ml];decide
 ·by_cases h2:q=b
  ·subst h2;rw[Us];decide
  ·exact dC (h.strict a b hab q hq h1 h2)
theorem Cvx.map {cs:List Pt} (h:Cvx cs) {f:Pt->Pt} {k:Int} (hk:0<k) (hf:∀a b c,cQ (f a) (f b) (f c)=k*cQ a b c) (inj:∀a b,f a=f b->a=b):Cvx (cs.map f):=by
 refine⟨by simpa using h.len,?_,λa b hab q hq n1 n2=>?_⟩
 ·exact qK f (λa b hn e=>hn (inj a b e)) h.nodup
 ·unfold Cyc at hab
  rw[<-jN,<-cU] at hab
  obtain⟨x,y,hxy,rfl,rfl⟩:=Ov hab
  obtain⟨p,hp,rfl⟩:=cB.mp hq
  rw[hf]
  exact aY hk (h.strict x y hxy p hp (λe=>n1 (by rw[e])) λe=>n2 (by rw[e]))
theorem GE {X Y:List Pt} {a b:Pt} (h:Cyc (Y++X) a b):Cyc (X++Y) a b:=by
 unfold Cyc at *
 cases Y with
 | nil=>simpa using h
 | cons y Y =>
  cases X with
  | nil=>simpa using h
  | cons x X =>
   simp only[bG,sX,zN] at h ⊢
   have e:y::(Y++x::X++[y])=(y::Y)++((x::X)++[y]):=by simp
   rw[e] at h
   have goal1:∀{a b},Nxt ((x::X)++[y]) a b->Nxt (x::(X++y::Y++[x])) a b:=by
    intro a b h
    have:=h.left (Y++[x])
    simpa using this
   have goal2:∀{a b},Nxt ((y::Y)++[x]) a b->Nxt (x::(X++y::Y++[x])) a b:=by
    intro a b h
    have:=h.right (x::X)
    simpa using this
   rcases NI _ _ a b h with h | ⟨⟨A',h1⟩,B',h2⟩ | h
   ·exact goal2 (h.left _)
   ·simp at h2
    refine goal2 ?_
    rw[h1,<-h2.1]
    exact⟨A',[],by simp⟩
   ·exact goal1 h
theorem Cvx.swap {X Y:List Pt} (h:Cvx (X++Y)):Cvx (Y++X):=by
 refine⟨by have:=h.len;simp at this ⊢;lia,?_,λa b hab q hq=>h.strict a b (GE hab) q (by simp at hq ⊢;exact hq.symm)⟩
 have:=h.nodup
 rw[qM] at this ⊢
 exact⟨this.2.1,this.1,λa ha b hb e=>this.2.2 b hb a ha e.symm⟩
theorem Cyc.mem {cs:List Pt} {a b:Pt} (h:Cyc cs a b):a∈cs/\b∈cs:=by
 have k:∀x,x∈cs++cs.take 1->x∈cs:=λx hx=>(cY.mp hx).elim id jS
 exact⟨k a (Nxt.mem h).1,k b (Nxt.mem h).2⟩
theorem len_sub {α:Type} [DecidableEq α]:∀(l m:List α),l.Nodup->(∀x∈l,x∈m)->l.length<=m.length
 | [],_,_,_=>gL _
 | x::l,m,hn,hs=>by
  have hx:=hs x (.head _)
  have hn':=fM.mp hn
  have:=len_sub l (m.erase x) hn'.2 λy hy=>(zL λ(e:y=x)=>hn'.1 (e ▸ hy)).mpr (hs y (.tail _ hy))
  rw[vM hx] at this
  exact fO (HW this) (xH (Nat.succ_pred_eq_of_pos (xF hx)))
theorem Cvx.third {cs:List Pt} (c:Cvx cs) (u v:Pt):∃w∈cs,w≠u/\w≠v:=by
 apply dJ
 intro hn
 have:=len_sub cs [u,v] c.nodup λw hw=>by
  by_cases h1:w=u
  ·exact h1 ▸ .head _
  ·by_cases h2:w=v
   ·exact h2 ▸ .tail _ (.head _)
   ·exact absurd ⟨w,hw,h1,h2⟩ hn
 exact absurd (fO c.len this) (show ¬ 3<=2 by decide)
theorem Cvx.ne {cs:List Pt} (c:Cvx cs) {u v:Pt} (h:Cyc cs u v):u≠v:=by
 obtain⟨w,hw,n1,n2⟩:=c.third u v
 rintro rfl
 have:=c.strict u u h w hw n1 n2
 rw[show cQ u u w=0 by unfold cQ;grind] at this
 exact lS _ this
theorem TZ {cs:List Pt} (c:Cvx cs) {u v:Pt} (h:Cyc cs u v) (h':Cyc cs v u):False:=by
 obtain⟨w,hw,w1,w2⟩:=c.third u v
 have t1:=c.strict _ _ h w hw w1 w2
 rw[show cQ u v w = - cQ v u w by unfold cQ;grind] at t1
 exact oO (c.strict _ _ h' w hw w2 w1) (Int.neg_pos.mp t1)
theorem Cvx.bend {R:List Pt} (h:Cvx R) {l r:List Pt} {a b c:Pt} (e:R++R.take 2=l++a::b::c::r):0<cQ a b c:=by
 obtain⟨x,y,R',eR⟩:∃x y R',R=x::y::R':=by
  match R,h.len with
  | x::y::R',_=>exact⟨x,y,R',rfl⟩
 have t1:R.take 1=[x]:=by rw[eR];rfl
 have t2:R++R.take 2=(R++R.take 1)++[y]:=by rw[t1,fD,eR];rfl
 rw[t2] at e
 have ⟨ab,bc⟩:Cyc R a b/\Cyc R b c:=by
  rcases eU r with rfl | ⟨r',w,rfl⟩
  ·have e':(R++R.take 1)++[y]=(l++[a,b])++[c]:=by rw[e,fD];rfl
   have k:=lA e' rfl
   have ec:=gN e' rfl
   injection ec with ec _
   refine⟨⟨l,[],k⟩,?_⟩
   have k':R++[x]=(l++[a])++[b]:=by rw[<-t1,k,fD];rfl
   have eb:=gN k' rfl
   injection eb with eb _
   rw[<-eb,<-ec]
   exact⟨[],R'++[x],by rw[t1,eR];rfl⟩
  ·have e':(R++R.take 1)++[y]=(l++a::b::c::r')++[w]:=by rw[e,fD,yU];rfl
   have k:=lA e' rfl
   exact⟨⟨l,c::r',k⟩,l++[a],r',by rw[k,fD];rfl⟩
 exact h.strict a b ab c bc.mem.2 (λhc=>TZ h ab (hc ▸ bc)) λhc=>h.ne bc hc.symm
theorem UP {L D:List Pt} {z:Pt} {T:List Pt} (iD:Inc D) (h:Cvx (z::T)) (least:∀q∈T,¬ltP q z) (mem:∀q∈z::T,q∈D) (left:∀a b,Cyc (z::T) a b->∀q∈D,0<=cQ a b q):CN D=z::T:=by
 obtain⟨y,t,rfl⟩:∃y t,T=y::t:=by
  have:=h.len
  cases T with
  | nil=>simp at this
  | cons y t=>exact⟨y,t,rfl⟩
 refine Hb iD ⟨mem,λq hq=>?_,λl a b r e=>left a b ⟨l,r,e⟩,λl a b c r e=>h.bend (l:=l) (r:=r) e⟩
 rcases qU z q with h' | h' | h'
 ·exact h'
 ·subst h';exact absurd hq (fM.mp h.nodup).1
 ·exact absurd h' (least q hq)
abbrev H3:=Int × Int × Int
def kM (p q r:H3):Int:=p.1*(q.2.1*r.2.2-q.2.2*r.2.1)-p.2.1*(q.1*r.2.2-q.2.2*r.1)+p.2.2*(q.1*r.2.1-q.2.1*r.1)
abbrev up3 (z:Pt):H3:=(z.1,z.2,1)
abbrev xO (α:Int) (p:H3) (β:Int) (q:H3):H3:=(α*p.1+β*q.1,α*p.2.1+β*q.2.1,α*p.2.2+β*q.2.2)
theorem ZE (a b c:Pt):kM (up3 a) (up3 b) (up3 c)=cQ a b c:=by unfold kM cQ up3;dsimp only;grind
theorem RB (p q u v:H3) (α β:Int):kM p q (xO α u β v)=α*kM p q u+β*kM p q v:=by unfold kM xO;dsimp only;grind
structure CLine where
 a:Int
 b:Int
 k:Int
section
variable (L:CLine)
def cxc (z:Pt):Int:=L.a*z.1+L.b*z.2-L.k
def Exc (p:H3):Int:=L.a*p.1+L.b*p.2.1-L.k*p.2.2
theorem nK (z:Pt):Exc L (up3 z)=cxc L z:=by unfold Exc cxc up3;dsimp only;lia
theorem Hn (α β:Int) (p q:H3):Exc L (xO α p β q)=α*Exc L p+β*Exc L q:=by unfold Exc xO;dsimp only;grind
theorem Sh (v1 v2 v3 v4:H3):Exc L v1*kM v2 v3 v4-Exc L v2*kM v1 v3 v4+Exc L v3*kM v1 v2 v4-Exc L v4*kM v1 v2 v3=0:=by unfold Exc kM;grind
def lP (u v:Pt):H3:=xO (cxc L v).natAbs (up3 u) (cxc L u).natAbs (up3 v)
def blk (u v:Pt):List H3:=(if cxc L u<=0 then [up3 u] else [])++(if cxc L u*cxc L v<0 then [lP L u v] else [])
def Pl:List Pt->List H3
 | []=>[]
 | [_]=>[]
 | u::v::r=>blk L u v++Pl (v::r)
end
section
variable {L:CLine} {cs:List Pt}
theorem opp {x y:Int} (h:x*y<0):(x<0/\0<y)\/(0<x/\y<0):=by
 rcases gS x 0 with hx | rfl | hx
 ·exact cZ ⟨hx,dS.mp λhy=>dS.mpr h (pT (dC hx) hy)⟩
 ·rw[qI] at h;exact absurd h (lS _)
 ·exact cX ⟨hx,dS.mp λhy=>dS.mpr h (fH (dC hx) hy)⟩
theorem sR {x y:Int} (h:(x<0/\0<y)\/(0<x/\y<0)):x*y<0:=by
 rcases h with ⟨h1,h2⟩ | ⟨h1,h2⟩
 ·exact Int.mul_neg_of_neg_of_pos h1 h2
 ·exact fG h1 h2
theorem EX {u v:Pt} (h:cxc L u*cxc L v<0):Exc L (lP L u v)=0:=by
 unfold lP
 rw[Hn,nK,nK]
 rcases opp h with ⟨h1,h2⟩ | ⟨h1,h2⟩
 ·rw[zG (dC h2),uB (dC h1)];grind
 ·rw[zG (dC h1),uB (dC h2)];grind
theorem xT {u v:Pt} (h:cxc L u*cxc L v<0):(0:Int)<(cxc L v).natAbs/\(0:Int)<(cxc L u).natAbs:=by
 have k {x:Int} (n:x≠0):(0:Int)<x.natAbs:=Int.natCast_pos.mpr (Int.natAbs_pos.mpr n)
 rcases opp h with ⟨h1,h2⟩ | ⟨h1,h2⟩
 ·exact⟨k (qH h2),k (xD h1)⟩
 ·exact⟨k (xD h2),k (qH h1)⟩
theorem EV {u v:Pt} (h:cxc L u*cxc L v<0):2<=(lP L u v).2.2:=by
 show 1+1<=((cxc L v).natAbs:Int)*1+((cxc L u).natAbs:Int)*1
 rw[pZ,pZ]
 exact Int.add_le_add (xT h).1 (xT h).2
inductive Pm (L:CLine) (cs:List Pt):H3->Prop
 | corner {u:Pt} (hu:u∈cs) (h:cxc L u<=0):Pm L cs (up3 u)
 | cross {u v:Pt} (hc:Cyc cs u v) (h:cxc L u*cxc L v<0):Pm L cs (lP L u v)
theorem Dl (c:Cvx cs) {u v w:Pt} (h:Cyc cs u v) (hw:w∈cs) (k:cQ u v w=0):w=u\/w=v:=by
 by_cases h1:w=u
 ·exact cZ h1
 ·by_cases h2:w=v
  ·exact cX h2
  ·exact absurd k (qH (c.strict u v h w hw h1 h2))
theorem VT (u v:Pt):kM (up3 u) (up3 v) (lP L u v)=0:=by unfold lP;rw[RB];unfold kM;grind
theorem NK (c:Cvx cs) {u v u' v':Pt} (h:Cyc cs u v) (hc:Cyc cs u' v') (hx:cxc L u'*cxc L v'<0):(u'=u/\v'=v)\/0<kM (up3 u) (up3 v) (lP L u' v'):=by
 obtain⟨f1,f2⟩:=xT hx
 have m:=hc.mem
 have s1:0<=cQ u v u':=c.side h m.1
 have s2:0<=cQ u v v':=c.side h m.2
 unfold lP
 rw[RB,ZE,ZE]
 rcases kQ s1 with k1 | k1
 ·exact cX (Int.add_pos_of_pos_of_nonneg (aY f1 k1) (fH (dC f2) s2))
 ·rcases kQ s2 with k2 | k2
  ·exact cX (Int.add_pos_of_nonneg_of_pos (fH (dC f1) s1) (aY f2 k2))
  ·have ne:=c.ne hc
   rcases Dl c h m.1 k1.symm with rfl | rfl <;> rcases Dl c h m.2 k2.symm with rfl | rfl
   ·exact absurd rfl ne
   ·exact cZ ⟨rfl,rfl⟩
   ·exact (TZ c h hc).elim
   ·exact absurd rfl ne
theorem sL (c:Cvx cs) {u v:Pt} (h:Cyc cs u v) {r:H3} (hr:Pm L cs r) (n1:r≠up3 u) (n2:r≠up3 v) (n3:r≠lP L u v\/¬cxc L u*cxc L v<0):0<kM (up3 u) (up3 v) r:=by
 cases hr with
 | @corner w hw he =>
  rw[ZE]
  exact c.strict u v h w hw (λe=>n1 (by rw[e])) λe=>n2 (by rw[e])
 | @cross u' v' hc hx =>
  exact (NK c h hc hx).resolve_left λk=>n3.elim (λn=>n (by rw[k.1,k.2])) λn=>n (k.1 ▸ k.2 ▸ hx)
def Exit (L:CLine) (cs:List Pt) (p:H3):Prop:=∃u v,Cyc cs u v/\0<cxc L v/\((cxc L u<0/\p=lP L u v)\/(cxc L u=0/\p=up3 u))
def Entry (L:CLine) (cs:List Pt) (q:H3):Prop:=∃u v,Cyc cs u v/\0<cxc L u/\((cxc L v<0/\q=lP L u v)\/(cxc L v=0/\q=up3 v))
theorem Exit.pm {p:H3} (h:Exit L cs p):Pm L cs p/\Exc L p=0:=by
 obtain⟨u,v,hc,hv,⟨hu,rfl⟩ | ⟨hu,rfl⟩⟩:=h
 ·have hx:=sR (cZ ⟨hu,hv⟩)
  exact⟨.cross hc hx,EX hx⟩
 ·exact⟨.corner hc.mem.1 (by lia),by rw[nK];exact hu⟩
theorem Entry.pm {p:H3} (h:Entry L cs p):Pm L cs p/\Exc L p=0:=by
 obtain⟨u,v,hc,hv,⟨hu,rfl⟩ | ⟨hu,rfl⟩⟩:=h
 ·have hx:=sR (cX ⟨hv,hu⟩)
  exact⟨.cross hc hx,EX hx⟩
 ·exact⟨.corner hc.mem.2 (by lia),by rw[nK];exact hu⟩
theorem Pm.exc_le {r:H3} (h:Pm L cs r):Exc L r<=0:=by
 cases h with
 | corner hu he=>rw[nK];exact he
 | cross hc hx=>rw[EX hx];exact IZ _
theorem IE (c:Cvx cs) {p q:H3} {u v:Pt} (hc:Cyc cs u v) (hv:0<cxc L v) (hp:(cxc L u<0/\p=lP L u v)\/(cxc L u=0/\p=up3 u)) (hq:Pm L cs q) (h0:Exc L q=0) (ne:q≠p):kM (up3 v) p q<0:=by
 have s:0<kM (up3 u) (up3 v) q:=by
  refine sL c hc hq ?_ ?_ ?_
  ·rintro rfl
   rw[nK] at h0
   rcases hp with ⟨h,_⟩ | ⟨_,rfl⟩
   ·lia
   ·exact ne rfl
  ·rintro rfl
   rw[nK] at h0;lia
  ·rcases hp with ⟨h,rfl⟩ | ⟨h,_⟩
   ·exact cZ ne
   ·right;rw[h];simp
 obtain⟨α,β,ha,rfl⟩:∃α β:Int,0<α/\p=xO α (up3 u) β (up3 v):=by
  rcases hp with ⟨h,rfl⟩ | ⟨h,rfl⟩
  ·exact⟨_,_,(xT (sR (cZ ⟨h,hv⟩))).1,rfl⟩
  ·refine⟨1,0,by decide,?_⟩
   simp[xO,up3]
 have e:kM (up3 v) (xO α (up3 u) β (up3 v)) q = -(α*kM (up3 u) (up3 v) q):=by unfold kM xO;grind
 rw[e]
 have:=aY ha s
 lia
theorem WB (c:Cvx cs) {p p':H3} (h:Exit L cs p) (h':Exit L cs p'):p=p':=by
 apply dJ
 intro ne
 have z:=h.pm
 have z':=h'.pm
 obtain⟨u,v,hc,hv,hp⟩:=h
 obtain⟨u',v',hc',hv',hp'⟩:=h'
 have t1:=IE c hc hv hp z'.1 z'.2 (Ne.symm ne)
 have t2:=IE c hc' hv' hp' z.1 z.2 ne
 have f:=Sh L (up3 v) p p' (up3 v')
 rw[z.2,z'.2,nK,nK] at f
 have e:kM p p' (up3 v') = - kM (up3 v') p' p:=by unfold kM;grind
 have k1:cxc L v*kM p p' (up3 v') > 0:=by rw[e];exact aY hv (by lia)
 have k2:cxc L v'*kM (up3 v) p p'<0:=fG hv' t1
 lia
theorem MO (c:Cvx cs) {p q:H3} {u v:Pt} (hc:Cyc cs u v) (hu:0<cxc L u) (hp:(cxc L v<0/\p=lP L u v)\/(cxc L v=0/\p=up3 v)) (hq:Pm L cs q) (h0:Exc L q=0) (ne:q≠p):0<kM (up3 u) p q:=by
 have s:0<kM (up3 u) (up3 v) q:=by
  refine sL c hc hq ?_ ?_ ?_
  ·rintro rfl
   rw[nK] at h0;lia
  ·rintro rfl
   rw[nK] at h0
   rcases hp with ⟨h,_⟩ | ⟨_,rfl⟩
   ·lia
   ·exact ne rfl
  ·rcases hp with ⟨h,rfl⟩ | ⟨h,_⟩
   ·exact cZ ne
   ·right;rw[h];simp
 obtain⟨α,β,hb,rfl⟩:∃α β:Int,0<β/\p=xO α (up3 u) β (up3 v):=by
  rcases hp with ⟨h,rfl⟩ | ⟨h,rfl⟩
  ·exact⟨_,_,(xT (sR (cX ⟨hu,h⟩))).2,rfl⟩
  ·refine⟨0,1,by decide,?_⟩
   simp[xO,up3]
 have e:kM (up3 u) (xO α (up3 u) β (up3 v)) q=β*kM (up3 u) (up3 v) q:=by unfold kM xO;grind
 rw[e]
 exact aY hb s
theorem RD (c:Cvx cs) {p p':H3} (h:Entry L cs p) (h':Entry L cs p'):p=p':=by
 apply dJ
 intro ne
 have z:=h.pm
 have z':=h'.pm
 obtain⟨u,v,hc,hv,hp⟩:=h
 obtain⟨u',v',hc',hv',hp'⟩:=h'
 have t1:=MO c hc hv hp z'.1 z'.2 (Ne.symm ne)
 have t2:=MO c hc' hv' hp' z.1 z.2 ne
 have f:=Sh L (up3 u) p p' (up3 u')
 rw[z.2,z'.2,nK,nK] at f
 have e:kM p p' (up3 u') = - kM (up3 u') p' p:=by unfold kM;grind
 have k1:cxc L u*kM p p' (up3 u')<0:=by rw[e];exact fG hv (by lia)
 have k2:0<cxc L u'*kM (up3 u) p p':=aY hv' t1
 lia
theorem Fw (c:Cvx cs) {p q:H3} (hp:Exit L cs p) (hq:Entry L cs q) (ne:q≠p):∃k m:Int,0<k/\0<m/\∀r:H3,k*kM p q r = -(m*Exc L r):=by
 have z:=hp.pm
 have z':=hq.pm
 obtain⟨u,v,hc,hv,h⟩:=hp
 have t:=IE c hc hv h z'.1 z'.2 ne
 refine⟨cxc L v,-kM (up3 v) p q,hv,by lia,λr=>?_⟩
 have f:=Sh L (up3 v) p q r
 rw[z.2,z'.2,nK] at f
 grind
theorem RL (c:Cvx cs) {t u v:Pt} (h1:Cyc cs t u) (h2:Cyc cs u v) (nt:t≠v) (e1:cxc L t<=cxc L u) (e2:cxc L v<=cxc L u):∀w∈cs,cxc L w<=cxc L u:=by
 intro w hw
 have D:0<cQ t u v:=c.strict t u h1 v h2.mem.2 (Ne.symm nt) (Ne.symm (c.ne h2))
 have C:=c.side h1 hw
 have A:=c.side h2 hw
 have key:cQ t u v*cxc L w=cQ t u v*cxc L u-cQ u v w*(cxc L u-cxc L t)-cQ t u w*(cxc L u-cxc L v):=by
  unfold cQ cxc;grind
 apply lT.mp
 intro hn
 have k1:0<cQ t u v*(cxc L w-cxc L u):=aY D (by lia)
 have k2:=fH A (show 0<=cxc L u-cxc L t by lia)
 have k3:=fH C (show 0<=cxc L u-cxc L v by lia)
 have e:cQ t u v*(cxc L w-cxc L u)=cQ t u v*cxc L w-cQ t u v*cxc L u:=by grind
 lia
theorem RK (c:Cvx cs) {t u v:Pt} (h1:Cyc cs t u) (h2:Cyc cs u v) (nt:t≠v) (e1:cxc L u<=cxc L t) (e2:cxc L u<=cxc L v):∀w∈cs,cxc L u<=cxc L w:=by
 intro w hw
 have:=RL (L:=⟨-L.a,-L.b,-L.k⟩) c h1 h2 nt (by unfold cxc at *;dsimp only at *;grind) (by unfold cxc at *;dsimp only at *;grind) w hw
 unfold cxc at *
 dsimp only at *
 grind
end
section
variable {L:CLine} {cs:List Pt}
theorem Iq (c:Cvx cs) {u:Pt} (hu:u∈cs):∃t v,Cyc cs t u/\Cyc cs u v/\t≠v:=by
 obtain⟨X,Y,rfl⟩:=mO hu
 have c2:Cvx ((u::Y)++X):=c.swap
 have len:=c2.len
 have nd:=c2.nodup
 have bk:∀{a b},Cyc ((u::Y)++X) a b->Cyc (X++u::Y) a b:=λh=>GE h
 rw[bG] at len nd bk
 generalize Y++X=Z at len nd bk
 obtain⟨v,Z1,hv⟩:∃v Z1,Z=v::Z1:=by
  cases Z with
  | nil=>simp at len
  | cons v Z1=>exact⟨v,Z1,rfl⟩
 obtain⟨t,Z2,ht⟩:∃t Z2,Z=Z2++[t]:=by
  rcases eU Z with h | ⟨Z2,t,h⟩
  ·rw[h] at len;simp at len
  ·exact⟨t,Z2,by simpa using h⟩
 refine⟨t,v,bk ⟨u::Z2,[],by rw[ht];simp⟩,bk ⟨[],Z1++[u],by rw[hv];simp⟩,?_⟩
 rintro rfl
 have nd':=(fM.mp nd).2
 rw[hv] at nd'
 cases Z1 with
 | nil=>rw[hv] at len;simp at len
 | cons x Z1 =>
  have:t∈x::Z1:=by
   have e:t::x::Z1=Z2++[t]:=by rw[<-hv,ht]
   cases Z2 with
   | nil=>simp at e
   | cons y Z2 =>
    simp at e
    rw[e.2];simp
  exact (fM.mp nd').1 this
theorem SH (c:Cvx cs) (hpos:∃w∈cs,0<cxc L w) {r:H3} (hr:Pm L cs r) (h0:Exc L r=0):Exit L cs r\/Entry L cs r:=by
 cases hr with
 | @corner u hu he =>
  rw[nK] at h0
  obtain⟨t,v,h1,h2,ne⟩:=Iq c hu
  by_cases hv:0<cxc L v
  ·exact cZ ⟨u,v,h2,hv,cX ⟨h0,rfl⟩⟩
  ·by_cases ht:0<cxc L t
   ·exact cX ⟨t,u,h1,ht,cX ⟨h0,rfl⟩⟩
   ·exfalso
    obtain⟨w,hw,hwp⟩:=hpos
    have:=RL (L:=L) c h1 h2 ne (h0 ▸ lT.mp ht) (h0 ▸ lT.mp hv) w hw
    rw[h0] at this
    exact absurd this (dS.mpr hwp)
 | @cross u v hc hx =>
  rcases opp hx with ⟨h1,h2⟩ | ⟨h1,h2⟩
  ·exact cZ ⟨u,v,hc,h2,cZ ⟨h1,rfl⟩⟩
  ·exact cX ⟨u,v,hc,h1,cZ ⟨h2,rfl⟩⟩
theorem CF (c:Cvx cs) (hneg:∃w∈cs,cxc L w<0) {p q:H3} (hp:Exit L cs p) (hq:Entry L cs q):q≠p:=by
 rintro rfl
 obtain⟨u,v,hc,hv,h⟩:=hp
 obtain⟨u',v',hc',hu',h'⟩:=hq
 rcases h with ⟨h,rfl⟩ | ⟨h,rfl⟩ <;> rcases h' with ⟨h',e⟩ | ⟨h',e⟩
 ·rcases NK c hc hc' (sR (cX ⟨hu',h'⟩)) with ⟨rfl,_⟩ | k
  ·exact oO h hu'
  ·rw[<-e,VT] at k
   exact lS _ k
 ·have:=EV (sR (cZ ⟨h,hv⟩));rw[e] at this;simp at this
 ·have:=EV (sR (cX ⟨hu',h'⟩));rw[<-e] at this;simp at this
 ·have euv:u=v':=by
   simp only[up3,eK] at e
   exact lJ e.1 e.2.1
  subst euv
  obtain⟨w,hw,hwn⟩:=hneg
  have ne:u'≠v:=λe=>TZ c hc (e ▸ hc')
  have:=RK (L:=L) c hc' hc ne (by lia) (by lia) w hw
  lia
inductive Adj (L:CLine) (cs:List Pt):H3->H3->Prop
 | full {u v:Pt} (h:Cyc cs u v) (h1:cxc L u<=0) (h2:cxc L v<=0):Adj L cs (up3 u) (up3 v)
 | out {u v:Pt} (h:Cyc cs u v) (h1:cxc L u<0) (h2:0<cxc L v):Adj L cs (up3 u) (lP L u v)
 | inn {u v:Pt} (h:Cyc cs u v) (h1:0<cxc L u) (h2:cxc L v<0):Adj L cs (lP L u v) (up3 v)
 | line {p q:H3} (hp:Exit L cs p) (hq:Entry L cs q):Adj L cs p q
def StC (L:CLine) (cs:List Pt) (l:H3) (u w:Pt):Prop:=Cyc cs u w/\((cxc L w<0/\((cxc L u<=0/\l=up3 u)\/(0<cxc L u/\l=lP L u w)))\/(cxc L w=0/\((cxc L u<=0/\l=up3 u)\/(0<cxc L u/\Exit L cs l)))\/(0<cxc L w/\Exit L cs l))
def Run {α:Type} (R:α->α->Prop):α->List α->Prop
 | _,[]=>True
 | a,b::r=>R a b/\Run R b r
def kW {α:Type} (a:α):List α->α
 | []=>a
 | b::r=>kW b r
theorem OG {α:Type} {R:α->α->Prop}:∀(a:α) (X Y:List α),Run R a X->Run R (kW a X) Y->Run R a (X++Y)
 | _,[],_,_,h=>h
 | _,b::X,Y,⟨h1,h2⟩,h=>⟨h1,OG b X Y h2 h⟩
theorem CI {α:Type}:∀(a:α) (X Y:List α),kW a (X++Y)=kW (kW a X) Y
 | _,[],_=>rfl
 | _,b::X,Y=>CI b X Y
theorem NP:∀(W:List Pt) (l:H3) (u w:Pt),StC L cs l u w->Run (Cyc cs) w W->Run (Adj L cs) l (Pl L (w::W))/\(∀v,W≠[]->kW w W=v->∃t,(kW u (w::W.dropLast)=t)/\StC L cs (kW l (Pl L (w::W))) t v)
 | [],l,u,w,_,_=>⟨trivial,λv h=>absurd rfl h⟩
 | v::W,l,u,w,⟨hc,hs⟩,⟨hv,hr⟩=>by
  have step:Run (Adj L cs) l (blk L w v)/\StC L cs (kW l (blk L w v)) w v:=by
   by_cases hw:cxc L w<=0
   ·have first:Adj L cs l (up3 w):=by
     rcases hs with ⟨h0,⟨h1,rfl⟩ | ⟨h1,rfl⟩⟩ | ⟨h0,⟨h1,rfl⟩ | ⟨h1,h2⟩⟩ | ⟨h0,_⟩
     ·exact .full hc h1 hw
     ·exact .inn hc h1 h0
     ·exact .full hc h1 hw
     ·exact .line h2 ⟨u,w,hc,h1,cX ⟨h0,rfl⟩⟩
     ·exact absurd hw (dS.mpr h0)
    by_cases hx:cxc L w*cxc L v<0
    ·have e:blk L w v=[up3 w,lP L w v]:=by unfold blk;rw[if_pos hw,if_pos hx];rfl
     rw[e]
     rcases opp hx with ⟨h1,h2⟩ | ⟨h1,h2⟩
     ·exact⟨⟨first,.out hv h1 h2,trivial⟩,hv,cX (cX ⟨h2,w,v,hv,h2,cZ ⟨h1,rfl⟩⟩)⟩
     ·exact absurd hw (dS.mpr h1)
    ·have e:blk L w v=[up3 w]:=by unfold blk;rw[if_pos hw,if_neg hx];rfl
     rw[e]
     refine⟨⟨first,trivial⟩,hv,?_⟩
     show (cxc L v<0/\((cxc L w<=0/\up3 w=up3 w)\/_))\/_
     rcases gS (cxc L v) 0 with k | k | k
     ·exact cZ ⟨k,cZ ⟨hw,rfl⟩⟩
     ·exact cX (cZ ⟨k,cZ ⟨hw,rfl⟩⟩)
     ·have w0:cxc L w=0:=by
       rcases kQ hw with h | h
       ·exact absurd (sR (cZ ⟨h,k⟩)) hx
       ·exact h
      exact cX (cX ⟨k,w,v,hv,k,cX ⟨w0,rfl⟩⟩)
   ·have ex:Exit L cs l:=by
     rcases hs with ⟨h0,_⟩ | ⟨h0,_⟩ | ⟨_,h⟩
     ·exact absurd (dC h0) hw
     ·exact absurd (Int.le_of_eq h0) hw
     ·exact h
    by_cases hx:cxc L w*cxc L v<0
    ·have e:blk L w v=[lP L w v]:=by unfold blk;rw[if_neg hw,if_pos hx];rfl
     rw[e]
     rcases opp hx with ⟨h1,h2⟩ | ⟨h1,h2⟩
     ·exact absurd (dC h1) hw
     ·exact⟨⟨.line ex ⟨w,v,hv,h1,cZ ⟨h2,rfl⟩⟩,trivial⟩,hv,cZ ⟨h2,cX ⟨h1,rfl⟩⟩⟩
    ·have e:blk L w v=[]:=by unfold blk;rw[if_neg hw,if_neg hx];rfl
     rw[e]
     refine⟨trivial,hv,?_⟩
     rcases gS (cxc L v) 0 with k | k | k
     ·exact absurd (sR (cX ⟨dS.mp hw,k⟩)) hx
     ·exact cX (cZ ⟨k,cX ⟨dS.mp hw,ex⟩⟩)
     ·exact cX (cX ⟨k,ex⟩)
  have e:Pl L (w::v::W)=blk L w v++Pl L (v::W):=rfl
  obtain⟨i1,i2⟩:=NP W (kW l (blk L w v)) w v step.2 hr
  refine⟨by rw[e];exact OG _ _ _ step.1 i1,λx _ hx=>?_⟩
  rw[e,CI]
  cases W with
  | nil =>
   have:x=v:=hx.symm
   subst this
   exact⟨w,rfl,step.2⟩
  | cons y W =>
   obtain⟨t,ht,hst⟩:=i2 x (by simp) hx
   exact⟨t,ht,hst⟩
end
section
variable {L:CLine} {cs:List Pt}
theorem SR (L:CLine):∀(A:List Pt) (x:Pt) (B:List Pt),Pl L (A++x::B)=Pl L (A++[x])++Pl L (x::B)
 | [],x,B=>by simp[Pl]
 | [a],x,B=>by simp[Pl]
 | a::b::A,x,B=>by
  have ih:=SR L (b::A) x B
  simp only[bG] at ih ⊢
  rw[Pl,ih,Pl,fD]
theorem Mb {R:Pt->Pt->Prop}:∀(x:Pt) (l:List Pt),(∀a b,Nxt (x::l) a b->R a b)->Run R x l
 | _,[],_=>trivial
 | x,y::l,h=>⟨h x y ⟨[],l,rfl⟩,Mb y l λa b hn=>h a b (hn.cons x)⟩
theorem mK {α:Type}:∀(a:α) (X:List α) (b:α),kW a (X++[b])=b
 | _,[],_=>rfl
 | _,x::X,b=>mK x X b
def FT (l:List H3) (p q:H3):Prop:=∃a b,l=a++p::q::b
theorem Dz {R:H3->H3->Prop}:∀(a:H3) (l:List H3),Run R a l->∀p q,FT (a::l) p q->R p q
 | a,[],_,p,q,⟨x,y,e⟩=>by
  have:=congrArg fJ e
  simp at this;lia
 | a,b::l,⟨h1,h2⟩,p,q,⟨x,y,e⟩=>by
  cases x with
  | nil=>simp at e;obtain⟨rfl,rfl,_⟩:=e;exact h1
  | cons z x=>simp at e;exact Dz b l h2 p q ⟨x,y,by simpa using e.2⟩
theorem Hw {c0:Pt}:∀(W:List Pt) (x:Pt),Run (Cyc cs) x W->∀r∈Pl L (x::W),Pm L cs r
 | [],x,_,r,hr=>by simp[Pl] at hr
 | y::W,x,⟨h1,h2⟩,r,hr=>by
  rw[Pl] at hr
  rcases cY.mp hr with h | h
  ·unfold blk at h
   rcases cY.mp h with h | h
   ·split at h
    ·rename_i he
     simp at h;subst h
     exact .corner h1.mem.1 he
    ·simp at h
   ·split at h
    ·rename_i he
     simp at h;subst h
     exact .cross h1 he
    ·simp at h
  ·exact Hw (c0:=c0) W y h2 r h
theorem UW (c:Cvx cs):∀(W:List Pt) (x:Pt),Run (Cyc cs) x W->(x::W).dropLast.Nodup->(Pl L (x::W)).Nodup/\∀r∈Pl L (x::W),(∃u∈(x::W).dropLast,r=up3 u)\/(∃u v,u∈(x::W).dropLast/\Cyc cs u v/\cxc L u*cxc L v<0/\r=lP L u v)
 | [],x,_,_=>by simp[Pl]
 | y::W,x,⟨h1,h2⟩,hn=>by
  have ed:(x::y::W).dropLast=x::(y::W).dropLast:=rfl
  rw[ed] at hn ⊢
  obtain⟨n1,n2⟩:=fM.mp hn
  obtain⟨i1,i2⟩:=UW c W y h2 n2
  have mb:∀r∈blk L x y,r=up3 x\/(cxc L x*cxc L y<0/\r=lP L x y):=by
   intro r hr
   unfold blk at hr
   rcases cY.mp hr with h | h
   ·split at h
    ·simp at h;exact cZ h
    ·simp at h
   ·split at h
    ·rename_i hx;simp at h;exact cX ⟨hx,h⟩
    ·simp at h
  refine⟨?_,?_⟩
  ·rw[Pl,qM]
   refine⟨?_,i1,?_⟩
   ·unfold blk
    by_cases ha:cxc L x<=0 <;> by_cases hb:cxc L x*cxc L y<0
    ·rw[if_pos ha,if_pos hb]
     simp
     intro e
     have:=EV hb
     rw[<-e] at this;simp at this
    all_goals simp[ha,hb]
   ·intro a ha b hb e
    subst e
    rcases mb a ha with rfl | ⟨hx,rfl⟩ <;> rcases i2 _ hb with ⟨u,hu,e⟩ | ⟨u,v,hu,hc,hx',e⟩
    ·have:x=u:=by simp only[up3,eK] at e;exact lJ e.1 e.2.1
     subst this;exact n1 hu
    ·have:=EV hx';rw[<-e] at this;simp at this
    ·have:=EV hx;rw[e] at this;simp at this
    ·have nu:u≠x:=λe=>n1 (e ▸ hu)
     have z1:=VT (L:=L) x y
     rw[e] at z1
     exact (NK c h1 hc hx').elim (λk=>nu k.1) λk=>lS 0 (z1 ▸ k)
  ·intro r hr
   rw[Pl] at hr
   rcases cY.mp hr with h | h
   ·rcases mb r h with rfl | ⟨hx,rfl⟩
    ·exact cZ ⟨x,by simp,rfl⟩
    ·exact cX ⟨x,y,by simp,h1,hx,rfl⟩
   ·rcases i2 r h with ⟨u,hu,e⟩ | ⟨u,v,hu,hc,hx',e⟩
    ·exact cZ ⟨u,by simp[hu],e⟩
    ·exact cX ⟨u,v,by simp[hu],hc,hx',e⟩
theorem Nq (u v:Pt) (r:H3):kM (up3 u) (lP L u v) r=((cxc L u).natAbs:Int)*kM (up3 u) (up3 v) r:=by unfold lP kM xO;grind
theorem Np (u v:Pt) (r:H3):kM (lP L u v) (up3 v) r=((cxc L v).natAbs:Int)*kM (up3 u) (up3 v) r:=by unfold lP kM xO;grind
theorem EG (c:Cvx cs) (hpos:∃w∈cs,0<cxc L w) (hneg:∃w∈cs,cxc L w<0) {p q r:H3} (h:Adj L cs p q) (hr:Pm L cs r) (n1:r≠p) (n2:r≠q):0<kM p q r:=by
 cases h with
 | @full u v hc h1 h2 =>
  refine sL c hc hr n1 n2 (cX λhx=>?_)
  exact (opp hx).elim (λh=>dS.mpr h.2 h2) λh=>dS.mpr h.1 h1
 | @out u v hc h1 h2 =>
  have hx:=sR (cZ ⟨h1,h2⟩)
  have nv:r≠up3 v:=by rintro rfl;have:=hr.exc_le;rw[nK] at this;first | exact dS.mpr h1 this | exact dS.mpr h2 this
  have s:=sL c hc hr n1 nv (cZ n2)
  rw[Nq];exact aY (xT hx).2 s
 | @inn u v hc h1 h2 =>
  have hx:=sR (cX ⟨h1,h2⟩)
  have nu:r≠up3 u:=by rintro rfl;have:=hr.exc_le;rw[nK] at this;first | exact dS.mpr h1 this | exact dS.mpr h2 this
  have s:=sL c hc hr nu n2 (cZ n1)
  rw[Np];exact aY (xT hx).1 s
 | line hp hq =>
  obtain⟨k,m,k0,m0,f⟩:=Fw c hp hq (CF c hneg hp hq)
  have le:=hr.exc_le
  have lt:Exc L r<0:=by
   rcases kQ le with h | h
   ·exact h
   ·exfalso
    rcases SH c hpos hr h with h' | h'
    ·exact n1 (WB c h' hp)
    ·exact n2 (RD c h' hq)
  have e:=f r
  have:0<k*kM p q r:=by rw[e];exact Int.neg_pos_of_neg (fG m0 lt)
  exact iS (by rw[kK];exact this) k0
end
section
variable {L:CLine} {cs:List Pt}
theorem Gc {l:H3} {X Y:List H3} {p q:H3} (h:FT (kW l X::Y) p q):FT (l::(X++Y)) p q:=by
 induction X generalizing l with
 | nil=>exact h
 | cons x X ih =>
  obtain⟨a,b,e⟩:=ih (l:=x) h
  exact⟨l::a,b,by simp at e ⊢;exact e⟩
theorem MI {l:H3} {u w v:Pt} (hs:StC L cs l u w) (hv:Cyc cs w v):StC L cs (kW l (blk L w v)) w v:=by
 obtain⟨h1,h2⟩:=NP [v] l u w hs ⟨hv,trivial⟩
 obtain⟨t,ht,hst⟩:=h2 v (by simp) rfl
 have e:Pl L [w,v]=blk L w v:=by simp[Pl]
 have ht':t=w:=ht.symm
 rw[e,ht'] at hst
 exact hst
theorem AF {c0:Pt} (hc0:cxc L c0<0):∀(W:List Pt) (l:H3) (u w:Pt),StC L cs l u w->Run (Cyc cs) w W->0<cxc L w->kW w W=c0->∃p q,Exit L cs p/\Entry L cs q/\FT (l::Pl L (w::W)) p q
 | [],l,u,w,hs,_,hw,e=>by
  exact absurd hw (oO (show cxc L w<0 from (show w=c0 from e) ▸ hc0))
 | v::W,l,u,w,hs,⟨hv,hr⟩,hw,e=>by
  have ex:Exit L cs l:=by
   rcases hs.2 with ⟨h0,_⟩ | ⟨h0,_⟩ | ⟨_,h⟩
   ·exact absurd hw (oO h0)
   ·exact absurd h0 (qH hw)
   ·exact h
  have st:=MI hs hv
  have eP:Pl L (w::v::W)=blk L w v++Pl L (v::W):=rfl
  rcases gS (cxc L v) 0 with k | k | k
  ·have hx:=sR (cX ⟨hw,k⟩)
   have eb:blk L w v=[lP L w v]:=by unfold blk;rw[if_neg (dS.mpr hw),if_pos hx];rfl
   refine⟨l,lP L w v,ex,⟨w,v,hv,hw,cZ ⟨k,rfl⟩⟩,[],Pl L (v::W),?_⟩
   rw[eP,eb];rfl
  ·have eb:blk L w v=[]:=by unfold blk;rw[if_neg (dS.mpr hw),k];simp
   cases W with
   | nil=>exact absurd k (xD (show cxc L v<0 from (show v=c0 from e) ▸ hc0))
   | cons y W =>
    refine⟨l,up3 v,ex,⟨w,v,hv,hw,cX ⟨k,rfl⟩⟩,[],(if cxc L v*cxc L y<0 then [lP L v y] else [])++Pl L (y::W),?_⟩
    rw[eP,eb,Pl]
    unfold blk
    rw[if_pos (Int.le_of_eq k)]
    simp
  ·have eb:blk L w v=[]:=by
    unfold blk
    have:¬cxc L w*cxc L v<0:=λh=>(opp h).elim (λh=>oO h.1 hw) λh=>oO h.2 k
    rw[if_neg (dS.mpr hw),if_neg this];rfl
   rw[eb] at st
   obtain⟨p,q,hp,hq,hn⟩:=AF hc0 W l w v st hr k e
   exact⟨p,q,hp,hq,by rw[eP,eb];exact hn⟩
theorem Ad {c0:Pt} (hc0:cxc L c0<0) (W:List Pt):∀(l:H3) (u w:Pt),StC L cs l u w->Run (Cyc cs) w W->(∃x∈w::W,0<cxc L x)->kW w W=c0->∃p q,Exit L cs p/\Entry L cs q/\FT (l::Pl L (w::W)) p q:=by
 induction W with
 | nil =>
  intro l u w hs hr hx e
  obtain⟨x,hx,hp⟩:=hx
  rw[dU.mp hx] at hp
  exact AF hc0 [] l u w hs hr hp e
 | cons v W ih =>
  intro l u w hs hr hx e
  by_cases hw:0<cxc L w
  ·exact AF hc0 _ l u w hs hr hw e
  ·obtain⟨x,hx,hp⟩:=hx
   obtain⟨p,q,h1,h2,h3⟩:=ih _ _ _ (MI hs hr.1) hr.2 ⟨x,(aK.mp hx).resolve_left λe=>hw (e ▸ hp),hp⟩ e
   exact⟨p,q,h1,h2,Gc h3⟩
theorem Gd {P P2 P3:List H3} {h l a b:H3} (e1:P=h::P2) (e2:P=P3++[l]) (hn:FT (l::P) a b):FT (P++P.take 1) a b:=by
 have t1:P.take 1=[h]:=by rw[e1];rfl
 rw[t1]
 obtain⟨x,y,e⟩:=hn
 cases x with
 | nil =>
  have e':l::P=a::b::y:=e
  rw[e1] at e'
  injection e' with k1 k2
  injection k2 with k2 _
  rw[<-k1,<-k2,e2,fD]
  exact⟨P3,[],rfl⟩
 | cons z x =>
  injection e with _ e
  exact⟨x,y++[h],by rw[show P=x++a::b::y from e,fD];rfl⟩
theorem Ku {P P2 P3:List H3} {h l a b:H3} (e1:P=h::P2) (e2:P=P3++[l]) (hn:FT (P++P.take 1) a b):FT (l::P) a b:=by
 have t1:P.take 1=[h]:=by rw[e1];rfl
 rw[t1] at hn
 obtain⟨x,y,e⟩:=hn
 rcases eU y with rfl | ⟨y',w,rfl⟩
 ·have e':P++[h]=(x++[a])++[b]:=by rw[e,fD];rfl
  have k1:=lA e' rfl
  have k2:=gN (e2.symm.trans k1) rfl
  injection k2 with k2 _
  have k3:=gN e' rfl
  injection k3 with k3 _
  rw[e1,k2,k3]
  exact⟨[],P2,rfl⟩
 ·have e':P++[h]=(x++a::b::y')++[w]:=by rw[e,fD];simp only[yU];rfl
  exact⟨l::x,y',by rw[lA e' rfl];rfl⟩
theorem Ox {P P2:List H3} {h a b:H3} (e1:P=h::P2) (hn:FT (P++P.take 1) a b):a∈P/\b∈P:=by
 have t1:P.take 1=[h]:=by rw[e1];rfl
 have k:∀x∈P++P.take 1,x∈P:=λx hx=>(cY.mp hx).elim id λh=>jS h
 obtain⟨x,y,e⟩:=hn
 have m:∀z,z∈a::b::y->z∈P:=λz hz=>k z (e ▸ bT x hz)
 exact⟨m _ (.head _),m _ (.tail _ (.head _))⟩
def Xu (A B:List H3):Prop:=∃X Y,A=X++Y/\B=Y++X
structure CutOf (L:CLine) (cs:List Pt) (P:List H3):Prop where
 nodup:P.Nodup
 pm:∀r∈P,Pm L cs r
 adj:∀p q,FT (P++P.take 1) p q->Adj L cs p q
 len:3<=P.length
 line:∃p q,Exit L cs p/\Entry L cs q/\FT (P++P.take 1) p q
def pth {α:Type} (f:α->α->Int):α->List α->Int
 | _,[]=>0
 | a,b::l=>f a b+pth f b l
theorem sC {α:Type} (f:α->α->Int):∀(a:α) (X Y:List α),pth f a (X++Y)=pth f a X+pth f (kW a X) Y
 | a,[],Y=>by simp[pth,kW]
 | a,b::X,Y=>by
  show f a b+pth f b (X++Y)=f a b+pth f b X+pth f (kW b X) Y
  rw[sC f b X Y];lia
def oT {α:Type} (f:α->α->Int):List α->Int
 | []=>0
 | z::T=>pth f z (T++[z])
theorem RJ {α:Type}:∀(h:α) (T X:List α) (l:α),h::T=X++[l]->kW h T=l
 | h,[],X,l,e=>by
  cases X with
  | nil=>simp at e;exact e
  | cons x X=>simp at e
 | h,y::T,X,l,e=>by
  cases X with
  | nil=>simp at e
  | cons x X=>simp at e;exact RJ y T X l (by simpa using e.2)
theorem QX {α:Type} (f:α->α->Int) {P X:List α} {l:α} (e:P=X++[l]):pth f l P=oT f P:=by
 cases P with
 | nil=>simp at e
 | cons h P2 =>
  show f l h+pth f h P2=pth f h (P2++[h])
  rw[sC,RJ h P2 X l e]
  simp only[pth];lia
theorem VM {α:Type} (f:α->α->Int) (X Y:List α):oT f (X++Y)=oT f (Y++X):=by
 cases X with
 | nil=>simp
 | cons x X =>
  cases Y with
  | nil=>simp
  | cons y Y =>
   show pth f x ((X++y::Y)++[x])=pth f y ((Y++x::X)++[y])
   rw[show (X++y::Y)++[x]=(X++[y])++(Y++[x]) by simp,show (Y++x::X)++[y]=(Y++[x])++(X++[y]) by simp,sC,sC f y,mK,mK]
   lia
def dl (d:Pt->Pt->Int):Pt->Pt->List Pt->Int
 | u,w,[]=>d u w
 | _,w,v::W=>dl d w v W
theorem Ct (d:Pt->Pt->Int):∀(A:List Pt) (u w x y:Pt),dl d u w (A++[x,y])=d x y
 | [],_,_,_,_=>rfl
 | a::A,u,w,x,y=>Ct d A w a x y
theorem XG {f:H3->H3->Int} {d e:Pt->Pt->Int} (hf:∀l u w v,StC L cs l u w->Cyc cs w v->pth f l (blk L w v)=d u w+e w v):∀(W:List Pt) (l:H3) (u w:Pt),StC L cs l u w->Run (Cyc cs) w W->pth f l (Pl L (w::W))+dl d u w W=d u w+pth (λa b=>d a b+e a b) w W
 | [],l,u,w,hs,_=>by simp[Pl,pth,dl]
 | v::W,l,u,w,hs,hr=>by
  have ih:=XG hf W (kW l (blk L w v)) w v (MI hs hr.1) hr.2
  show pth f l (blk L w v++Pl L (v::W))+dl d w v W=d u w+((d w v+e w v)+pth (λa b=>d a b+e a b) v W)
  rw[sC,hf l u w v hs hr.1]
  lia
theorem Uo {u0 c0:Pt} (cu0:Cyc cs u0 c0) (hc0:cxc L c0<0):∃l0,StC L cs l0 u0 c0/\∀l,StC L cs l u0 c0->l=l0:=by
 have first {l:H3} (hl:StC L cs l u0 c0):=hl.2.resolve_right λh=>h.elim (λk=>absurd k.1 (xD hc0)) λk=>oO k.1 hc0
 by_cases h:cxc L u0<=0
 ·exact⟨up3 u0,⟨cu0,cZ ⟨hc0,cZ ⟨h,rfl⟩⟩⟩,λl hl=>(first hl).2.elim (·.2) λk=>absurd h (dS.mpr k.1)⟩
 ·exact⟨lP L u0 c0,⟨cu0,cZ ⟨hc0,cX ⟨dS.mp h,rfl⟩⟩⟩,λl hl=>(first hl).2.elim (λk=>absurd k.1 h) (·.2)⟩
theorem Hv {c0:Pt} (hc0:cxc L c0<0) (Z:List Pt):up3 c0∈Pl L (c0::(Z++[c0])):=by
 cases hz:Z++[c0] with
 | nil=>simp at hz
 | cons y r=>rw[Pl];unfold blk;rw[if_pos (dC hc0)];exact .head _
theorem Io (c:Cvx cs) (hpos:∃w∈cs,0<cxc L w) (hneg:∃w∈cs,cxc L w<0):∃P',Xu (Pl L (cs++cs.take 1)) P'/\CutOf L cs P'/\∀(f:H3->H3->Int) (d e:Pt->Pt->Int),(∀l u w v,StC L cs l u w->Cyc cs w v->pth f l (blk L w v)=d u w+e w v)->oT f P'=oT (λa b=>d a b+e a b) cs:=by
 obtain⟨c0,hc0m,hc0⟩:=hneg
 have hneg:∃w∈cs,cxc L w<0:=⟨c0,hc0m,hc0⟩
 obtain⟨X,Y,ecs⟩:=mO hc0m
 have c2:Cvx ((c0::Y)++X):=by rw[ecs] at c;exact c.swap
 have toC:∀{a b},Cyc ((c0::Y)++X) a b->Cyc cs a b:=λh=>by rw[ecs];exact GE h
 rw[bG] at c2 toC
 obtain⟨Z,hZ⟩:∃Z,Z=Y++X:=⟨_,rfl⟩
 rw[<-hZ] at c2 toC
 have runs:Run (Cyc cs) c0 (Z++[c0]):=Mb _ _ λa b h=>toC (by show Nxt ((c0::Z)++[c0]) a b;exact h)
 obtain⟨u0,Z2,eZ⟩:∃t Z2,Z=Z2++[t]:=by
  rcases eU Z with h | ⟨Z2,t,h⟩
  ·have:=c2.len;rw[h] at this;simp at this
  ·exact⟨t,Z2,by simpa using h⟩
 have cu0:Cyc cs u0 c0:=toC ⟨c0::Z2,[],by rw[eZ];simp⟩
 obtain⟨l0,hl0⟩:=Uo cu0 hc0
 obtain⟨hst,huniq⟩:=hl0
 obtain⟨r1,r2⟩:=NP (Z++[c0]) l0 u0 c0 hst runs
 obtain⟨t,ht,hst'⟩:=r2 c0 (by simp) (mK _ _ _)
 rw[<-ht,jQ,eZ,show kW u0 (c0::(Z2++[u0]))=u0 from mK _ (c0::Z2) _,<-eZ] at hst'
 have el:=huniq _ hst'
 have top:=Hv (L:=L) hc0 Z
 have ePz:Pl L (c0::(Z++[c0]))≠[]:=λe=>by rw[e] at top;cases top
 have mem:=Hw (L:=L) (c0:=c0) (Z++[c0]) c0 runs
 have nd:=(UW (L:=L) c (Z++[c0]) c0 runs (by
  show (c0::(Z++[c0])).dropLast.Nodup
  rw[<-bG,jQ];exact c2.nodup)).1
 obtain⟨p,q,hp,hq,hn⟩:=Ad hc0 (Z++[c0]) l0 u0 c0 hst runs (by
  obtain⟨w,hw,hwp⟩:=hpos
  refine⟨w,?_,hwp⟩
  rw[ecs] at hw
  rcases cY.mp hw with h | h
  ·exact .tail _ (gK _ (hZ ▸ bT _ h))
  ·exact (aK.mp h).elim (λe=>e ▸ .head _) λh=>.tail _ (gK _ (hZ ▸ gK _ h))) (mK _ _ _)
 obtain⟨P,hP⟩:∃P,Pl L (c0::(Z++[c0]))=P:=⟨_,rfl⟩
 rw[hP] at r1 el ePz top mem nd hn
 obtain⟨h,P2,eP⟩:∃h P2,P=h::P2:=by
  cases P with
  | nil=>exact absurd rfl ePz
  | cons h P2=>exact⟨h,P2,rfl⟩
 obtain⟨P3,eP3⟩:∃P3,P=P3++[l0]:=by
  rcases eU P with h | ⟨P3,x,h⟩
  ·exact absurd h ePz
  ·have e:P=P3++[x]:=by simpa using h
   rw[e,mK] at el
   exact⟨P3,by rw[e,el]⟩
 have hn:=Gd eP eP3 hn
 obtain⟨memp,memq⟩:=Ox eP hn
 have ne1:q≠p:=CF c hneg hp hq
 have n0:∀z:H3,Exc L z=0->up3 c0≠z:=λz hz e=>by rw[<-e,nK] at hz;lia
 refine⟨P,?_,⟨nd,mem,λa b hab=>Dz l0 P r1 a b (Ku eP eP3 hab),?_,p,q,hp,hq,hn⟩,λf d e hf=>?_⟩
 ·-- turned about
  rw[<-hP,ecs,hZ]
  cases X with
  | nil=>exact⟨Pl L (c0::(Y++[c0])),[],by simp,by simp⟩
  | cons x X =>
   have e1:(x::X++c0::Y)++(x::X++c0::Y).take 1=(x::X)++c0::(Y++[x]):=by simp
   have e2:c0::(Y++x::X++[c0])=(c0::Y)++x::(X++[c0]):=by simp
   rw[e1,e2,SR L (x::X) c0 (Y++[x]),SR L (c0::Y) x (X++[c0])]
   exact⟨_,_,rfl,by simp⟩
 ·exact len_sub [up3 c0,p,q] P (fM.mpr ⟨λh=>(aK.mp h).elim (n0 p hp.pm.2) λh=>n0 q hq.pm.2 (dU.mp h),fM.mpr ⟨λh=>ne1 (dU.mp h).symm,wB _ q⟩⟩) λx hx=>(aK.mp hx).elim (λe=>e ▸ top) λhx=>(aK.mp hx).elim (λe=>e ▸ memp) λhx=>dU.mp hx ▸ memq
 ·have ps:=XG hf (Z++[c0]) l0 u0 c0 hst runs
  rw[hP,QX f eP3] at ps
  have e1:dl d u0 c0 (Z++[c0])=d u0 c0:=by rw[eZ,fD];exact Ct d Z2 u0 c0 u0 c0
  rw[e1] at ps
  have e2:pth (λa b=>d a b+e a b) c0 (Z++[c0])=oT (λa b=>d a b+e a b) cs:=by
   show oT (λa b=>d a b+e a b) (c0::Z)=_
   rw[hZ,ecs,VM _ X (c0::Y)];rfl
  lia
end
section
open PySem PySem.Spec PyProof.Rows L2
inductive D where
 | non | bl (b:Bool) | int (i:Int) | str (x:Str) | tup (xs:List D) | lst (xs:List D) | dct (ks:List Int) (xs:List D) | dtt (ks:List (List Int)) (xs:List D)
def FzL (K:aH) (H:Hp) (a:Addr) (vs:List V):Prop :=
 (∃o,H a=some (.frz o (.lst vs))) \/
  ∃(o:Obj) (its:Array aD) (n:Nat),K.lookup a=some o/\o.cls = .type "list"/\o.dict=none/\o.data = .seq its n/\its.size<=sizeLine/\Vals vs its.toList
theorem FzL.sq {K:aH} {H:Hp} {a:Addr} {vs:List V}:FzL K H a vs->SqL K H a vs
 | .inl ⟨o,h⟩=>.inl (.inr ⟨o,h⟩)
 | .inr h=>.inr h
def Yd (col:Nat):Str:=if col=28 then "rising.<locals>.<lambda>" else if col=59 then "framed_rising.<locals>.<lambda>" else "laid_triangles.<locals>.<lambda>"
abbrev Uw (c:Addr) (q:Str):HO:=.ext λh=>∃oc vs t,h.get? c=some oc/\oc.data = .fields vs/\vs[1]? = some (.str q t)
structure LamOk (H:Hp) (ps:Array aD):Prop where
 ok:TriplesOk ps.toList
 code:∀pos cv,codeAmong pos ps.toList=some cv->∃c,cv = .ref c/\H c=some (Uw c (Yd pos.col))
def LamK (H H':Hp):Prop:=∀b ps,H b=some (.tbl ps)->∃more,H' b=some (.tbl (ps++more))/\(LamOk H ps->LamOk H' (ps++more))
theorem LamK.trans {H H1 H2:Hp} (a:LamK H H1) (b:LamK H1 H2):LamK H H2:=λc ps h=>by
 obtain⟨m1,e1,f1⟩:=a c ps h
 obtain⟨m2,e2,f2⟩:=b c _ e1
 exact⟨m1++m2,by rw[e2,tY],λx=>by rw[<-tY];exact f2 (f1 x)⟩
theorem LamOk.mono {H H':Hp} {ps:Array aD} (x:LamOk H ps) (k:∀b φ,H b=some (.ext φ)->H' b=some (.ext φ)):LamOk H' ps:=⟨x.ok,λpos cv e=>let ⟨c,e1,e2⟩:=x.code pos cv e;⟨c,e1,k _ _ e2⟩⟩
theorem LamK.of {H H':Hp} (k:∀b φ,H b=some (.ext φ)->H' b=some (.ext φ)) (h:∀b ps,H b=some (.tbl ps)->H' b=some (.tbl ps)):LamK H H':=λb ps e=>⟨#[],by rw[DM];exact h b ps e,λx=>by rw[DM];exact x.mono k⟩
def NT:HO->Prop
 | .tbl _=>False
 | _=>True
structure Keep (H H':Hp):Prop where
 tups:∀b xs,H b=some (.tup xs)->H' b=some (.tup xs)
 frzs:∀b o u,H b=some (.frz o u)->H' b=some (.frz o u)
 exts:∀b φ,H b=some (.ext φ)->H' b=some (.ext φ)
 xds:∀b fs,H b=some (.xd fs)->H' b=some (.xd fs)
 tbls:LamK H H'
theorem Keep.refl (H:Hp):Keep H H:=⟨λ_ _ h=>h,λ_ _ _ h=>h,λ_ _ h=>h,λ_ _ h=>h,.of (λ_ _ h=>h) λ_ _ h=>h⟩
theorem Keep.trans {H H1 H2:Hp} (a:Keep H H1) (b:Keep H1 H2):Keep H H2 :=
 ⟨λc xs h=>b.tups c xs (a.tups c xs h),λc o u h=>b.frzs c o u (a.frzs c o u h),λc φ h=>b.exts c φ (a.exts c φ h),λc fs h=>b.xds c fs (a.xds c fs h),a.tbls.trans b.tbls⟩
structure Same (H H':Hp):Prop where
 get:∀b o,H b=some o->NT o->H' b=some o
 tbls:LamK H H'
theorem Same.fn {H H':Hp} (f:∀b o,H b=some o->H' b=some o):Same H H':=⟨λb o h _=>f b o h,.of (λb φ h=>f b _ h) λb ps h=>f b _ h⟩
theorem Same.refl (H:Hp):Same H H:=.fn λ_ _ h=>h
theorem Same.trans {H H1 H2:Hp} (a:Same H H1) (b:Same H1 H2):Same H H2:=⟨λc o h n=>b.get c o (a.get c o h n) n,a.tbls.trans b.tbls⟩
theorem Same.free {H H':Hp} (e:Same H H') {l:Addr} (h:H' l=zQ):H l=zQ:=by
 cases q:H l with
 | none=>rfl
 | some o =>
  cases o with
  | tbl ps=>obtain⟨m,e1,_⟩:=e.tbls l ps q;rw[e1] at h;cases h
  | _=>rw[e.get l _ q trivial] at h;cases h
theorem Keep.of {H H':Hp} (s:Same H H'):Keep H H':=⟨λb xs h=>s.get b _ h trivial,λb o u h=>s.get b _ h trivial,λb φ h=>s.get b _ h trivial,λb fs h=>s.get b _ h trivial,s.tbls⟩
theorem Keep.ofF {H H':Hp} (f:∀b o,H b=some o->H' b=some o):Keep H H':=.of (.fn f)
def TW:List Str:=["rising","framed_rising","laid_triangles"]
def TabsIn (K:aH) (H:Hp):Prop:=∀x c P,x∈TW->OX K x=some (c,P)->∃ps,H P=some (.tbl ps)/\LamOk H ps
theorem TabsIn.tabK {K:aH} {H H':Hp} (t:TabsIn K H) (k:LamK H H'):TabsIn K H':=λx c P m e=>by
 obtain⟨ps,h1,h2⟩:=t x c P m e
 obtain⟨more,h3,h4⟩:=k P ps h1
 exact⟨_,h3,h4 h2⟩
theorem Keep.chg1 {H:Hp} {p:Addr} {u u':HO} (h:H p=some u) (n:(∃xs,u = .lst xs)\/(∃kvs,u = .dK kvs)\/∃kvs,u = .dT kvs):Keep H (upd H p u'):=by
 have ne:∀b o,H b=some o->(∀xs,o≠.lst xs)->(∀kvs,o≠.dK kvs)->(∀kvs,o≠.dT kvs)->upd H p u' b=some o:=λb o q n1 n2 n3=>by
  rw[cT]
  ·exact q
  ·rintro rfl
   rw[h] at q;cases q
   rcases n with ⟨xs,rfl⟩ | ⟨kvs,rfl⟩ | ⟨kvs,rfl⟩
   ·exact n1 _ rfl
   ·exact n2 _ rfl
   ·exact n3 _ rfl
 exact⟨λb _ q=>ne b _ q (λ_ z=>by cases z) (λ_ z=>by cases z) (λ_ z=>by cases z),λb _ _ q=>ne b _ q (λ_ z=>by cases z) (λ_ z=>by cases z) (λ_ z=>by cases z),λb _ q=>ne b _ q (λ_ z=>by cases z) (λ_ z=>by cases z) (λ_ z=>by cases z),λb _ q=>ne b _ q (λ_ z=>by cases z) (λ_ z=>by cases z) (λ_ z=>by cases z),
  .of (λb _ q=>ne b _ q (λ_ z=>by cases z) (λ_ z=>by cases z) (λ_ z=>by cases z)) λb _ q=>ne b _ q (λ_ z=>by cases z) (λ_ z=>by cases z) (λ_ z=>by cases z)⟩
def GN (ks:List Int) (vs:List V):List (Key × V):=mR (λk v=>(tN k,v)) ks vs
def xV (ks:List (List Int)) (vs:List V):List (List Key × V):=mR (λk v=>(k.map tN,v)) ks vs
mutual
inductive Rep (K:aH) (H:Hp):D->V->Prop
 | non:Rep K H .non .non
 | bl (b:Bool):Rep K H (.bl b) (.bl b)
 | int (i:Int):Rep K H (.int i) (.int i)
 | str (x:Str):Rep K H (.str x) (.str x)
 | tup {a:Addr} {vs:List V} {ds:List D} (h:H a=some (.tup vs)) (r:Reps K H ds vs):Rep K H (.tup ds) (.ref a)
 | lst {a:Addr} {vs:List V} {ds:List D} (h:FzL K H a vs) (r:Reps K H ds vs):Rep K H (.lst ds) (.ref a)
 | dct {a:Addr} {vs:List V} {ds:List D} {ks:List Int} {o:Obj} (h:H a=some (.frz o (.dK (GN ks vs)))) (hl:ks.length=vs.length) (r:Reps K H ds vs):Rep K H (.dct ks ds) (.ref a)
 | dtt {a:Addr} {vs:List V} {ds:List D} {ks:List (List Int)} {o:Obj} (h:H a=some (.frz o (.dT (xV ks vs)))) (hl:ks.length=vs.length) (r:Reps K H ds vs):Rep K H (.dtt ks ds) (.ref a)
inductive Reps (K:aH) (H:Hp):List D->List V->Prop
 | nil:Reps K H [] []
 | cons {d:D} {v:V} {ds:List D} {vs:List V} (h:Rep K H d v) (t:Reps K H ds vs):Reps K H (d::ds) (v::vs)
end
section
variable {K:aH} {H H':Hp}
theorem FzL.keep {a:Addr} {vs:List V} (k:Keep H H') (h:FzL K H a vs):FzL K H' a vs:=by
 rcases h with ⟨o,h⟩ | h
 ·exact .inl ⟨o,k.frzs _ _ _ h⟩
 ·exact .inr h
mutual
theorem Rep.keep (k:Keep H H'):∀{d:D} {v:V},Rep K H d v->Rep K H' d v
 | _,_,.non=>.non
 | _,_,.bl b=>.bl b
 | _,_,.int i=>.int i
 | _,_,.str x=>.str x
 | _,_,.tup h r=>.tup (k.tups _ _ h) (Reps.keep k r)
 | _,_,.lst h r=>.lst (FzL.keep k h) (Reps.keep k r)
 | _,_,.dct h hl r=>.dct (k.frzs _ _ _ h) hl (Reps.keep k r)
 | _,_,.dtt h hl r=>.dtt (k.frzs _ _ _ h) hl (Reps.keep k r)
theorem Reps.keep (k:Keep H H'):∀{ds:List D} {vs:List V},Reps K H ds vs->Reps K H' ds vs
 | _,_,.nil=>.nil
 | _,_,.cons h t=>.cons (Rep.keep k h) (Reps.keep k t)
end
theorem Reps.length:∀{ds:List D} {vs:List V},Reps K H ds vs->ds.length=vs.length
 | _,_,.nil=>rfl
 | _,_,.cons _ t=>by simp[Reps.length t]
theorem Reps.get:∀{ds:List D} {vs:List V} {i:Nat} {d:D},Reps K H ds vs->ds[i]? = some d->∃v,vs[i]? = some v/\Rep K H d v
 | _,_,_,_,.nil,e=>by simp at e
 | _,_,0,_,.cons h _,e=>by simp at e;subst e;exact⟨_,rfl,h⟩
 | _,_,i+1,d,.cons _ t,e=>by
  obtain⟨v,h1,h2⟩:=Reps.get (i:=i) (d:=d) t (by simpa using e)
  exact⟨v,by simpa using h1,h2⟩
theorem Reps.append:∀{ds es:List D} {vs us:List V},Reps K H ds vs->Reps K H es us->Reps K H (ds++es) (vs++us)
 | _,_,_,_,.nil,s=>s
 | _,_,_,_,.cons h t,s=>.cons h (Reps.append t s)
theorem Reps.take:∀{ds:List D} {vs:List V} (n:Nat),Reps K H ds vs->Reps K H (ds.take n) (vs.take n)
 | _,_,0,_=>.nil
 | _,_,_+1,.nil=>.nil
 | _,_,n+1,.cons r t=>.cons r (Reps.take n t)
theorem Reps.drop:∀{ds:List D} {vs:List V} (n:Nat),Reps K H ds vs->Reps K H (ds.drop n) (vs.drop n)
 | _,_,0,r=>r
 | _,_,_+1,.nil=>.nil
 | _,_,n+1,.cons _ t=>Reps.drop n t
theorem Reps.dropLast:∀{ds:List D} {vs:List V},Reps K H ds vs->Reps K H ds.dropLast vs.dropLast
 | _,_,.nil=>.nil
 | _,_,.cons _ .nil=>.nil
 | _,_,.cons r (.cons r2 t)=>by
  simp only[OV]
  exact .cons r (Reps.dropLast (.cons r2 t))
theorem Reps.reverse:∀{ds:List D} {vs:List V},Reps K H ds vs->Reps K H ds.reverse vs.reverse
 | _,_,.nil=>.nil
 | _,_,.cons r t=>by
  simp only[uW]
  exact (Reps.reverse t).append (.cons r .nil)
theorem Rep.int_inv {i:Int} {v:V} (h:Rep K H (.int i) v):v = .int i:=by cases h;rfl
theorem Rep.bl_inv {b:Bool} {v:V} (h:Rep K H (.bl b) v):v = .bl b:=by cases h;rfl
theorem Reps.ints:∀{ns:List Int},Reps K H (ns.map D.int) (ns.map V.int)
 | []=>.nil
 | _::_=>.cons (.int _) Reps.ints
theorem Reps.ints_inv:∀{ns:List Int} {vs:List V},Reps K H (ns.map D.int) vs->vs=ns.map V.int
 | [],_,h=>by cases h;rfl
 | n::ns,_,h=>by
  cases h with
  | cons h t=>rw[h.int_inv,Reps.ints_inv t];rfl
end
def RepB (K:aH) (H:Hp) (d:D) (v:V):Prop :=
 Rep K H d v\/∃ds a vs,d = .lst ds/\v = .ref a/\H a=some (.lst vs)/\Reps K H ds vs
theorem RepB.same {K:aH} {H H':Hp} {d:D} {v:V} (s:Same H H') (h:RepB K H d v):RepB K H' d v:=by
 rcases h with h | ⟨ds,a,vs,e1,e2,e3,r⟩
 ·exact .inl (h.keep (.of s))
 ·exact .inr ⟨ds,a,vs,e1,e2,s.get _ _ e3 trivial,r.keep (.of s)⟩
theorem RepB.lst {K:aH} {H:Hp} {ds:List D} {v:V} (h:RepB K H (.lst ds) v):∃a vs,v = .ref a/\SqL K H a vs/\Reps K H ds vs:=by
 rcases h with h | ⟨ds',a,vs,e1,e2,e3,r⟩
 ·cases h with
  | lst h r=>exact⟨_,_,rfl,h.sq,r⟩
 ·cases e1;exact⟨a,vs,e2,SqL.of e3,r⟩
theorem RepB.tup {K:aH} {H:Hp} {ds:List D} {v:V} (h:RepB K H (.tup ds) v):∃a vs,v = .ref a/\H a=some (.tup vs)/\Reps K H ds vs:=by
 rcases h with h | ⟨ds',a,vs,e1,e2,e3,r⟩
 ·cases h with
  | tup h r=>exact⟨_,_,rfl,h,r⟩
 ·cases e1
inductive S where
 | d (x:D) | own (xs:List D) | dcl (kvs:List (Int × List D)) | box (t:Bool) (xss:List (List D)) | exc (C:Addr) (y:Str) (c:Int) | dt (ks:List (List Int)) (xs:List D) | raw (v:V) | mem (b:Bool) (x:D) (R:aH->Hp->Hp->V->Prop)
def S.val:S->D
 | .d x=>x
 | .own xs=>.lst xs
 | .dcl _=>.non
 | .box _ _=>.non
 | .exc _ _ _=>.non
 | .dt _ _=>.non
 | .raw _=>.non
 | .mem _ x _=>x
abbrev En:=List (Option S)
inductive Dcl (K:aH) (H₀ H:Hp):List (Int × List D)->List (Key × V)->List Addr->Prop
 | nil:Dcl K H₀ H [] [] []
 | cons {k:Int} {b:Addr} {vs:List V} {ds:List D} {kvs:List (Int × List D)} {kws:List (Key × V)} {as:List Addr} (h:H b=some (.lst vs)) (h0:H₀ b=none) (r:Reps K H ds vs) (n:b ∉ as) (t:Dcl K H₀ H kvs kws as) :
   Dcl K H₀ H ((k,ds)::kvs) ((tN k,.ref b)::kws) (b::as)
abbrev Mr (C e dx:Addr):HO:=.ext λh=>∃oe vs,h.get? e=some oe/\oe.cls = .ref C/\oe.data = .fields vs/\oe.dict=some dx
def RelS (K:aH) (H₀ H:Hp):S->V->Prop
 | .exc C y c,v=>∃e dx,v = .ref e/\H e=some (Mr C e dx)/\H dx=some (.xd [(y,.int c)])
 | .d x,v=>Rep K H x v
 | .raw u,v=>v=u
 | .mem b x R,v=>(b=true->Rep K H x v)/\∀H',Keep H H'->R K H₀ H' v
 | .dt ks xs,v=>∃a vs,v = .ref a/\H a=some (.dT (xV ks vs))/\H₀ a=none/\ks.length=vs.length/\Reps K H xs vs
 | .own xs,v=>∃a vs,v = .ref a/\H a=some (.lst vs)/\H₀ a=none/\Reps K H xs vs
 | .dcl kvs,v=>∃a kws as,v = .ref a/\H a=some (.dK kws)/\H₀ a=none/\Dcl K H₀ H kvs kws as
 | .box false xss,v=>∃a kws as,v = .ref a/\H a=some (.lst (as.map V.ref))/\H₀ a=none/\a ∉ as/\Dcl K H₀ H (xss.map λx=>(0,x)) kws as
 | .box true xss,v=>∃a kws as,v = .ref a/\H a=some (.tup (as.map V.ref))/\Dcl K H₀ H (xss.map λx=>(0,x)) kws as
def Ow (H:Hp):S->V->Addr->Prop
 | .exc _ _ _,_,_=>False
 | .raw _,_,_=>False
 | .mem _ _ _,_,_=>False
 | .d _,_,_=>False
 | .own _,v,a=>v = .ref a
 | .dt _ _,v,a=>v = .ref a
 | .dcl _,v,a=>∃p kws,v = .ref p/\H p=some (.dK kws)/\(a=p\/∃k,(k,V.ref a)∈kws)
 | .box false _,v,a=>∃p vs,v = .ref p/\H p=some (.lst vs)/\(a=p\/V.ref a∈vs)
 | .box true _,v,a=>∃p vs,v = .ref p/\H p=some (.tup vs)/\V.ref a∈vs
structure StOk (X:Cx) (ρ:En) (σ:St) (H:Hp):Prop where
 len:ρ.length=σ.length
 same:Same X.H₀ H
 rel:∀(i:Nat) (x:S),ρ[i]? = some (some x)->∃v,σ[i]? = some (some v)/\RelS X.K X.H₀ H x v
 sep:∀(i j:Nat) (x y:S) (v u:V) (a:Addr),ρ[i]? = some (some x)->ρ[j]? = some (some y)->σ[i]? = some (some v)->σ[j]? = some (some u)->Ow H x v a->Ow H y u a->i=j
 t0:TabsIn X.K X.H₀
section
variable {K:aH} {H₀ H H':Hp}
theorem Dcl.keep {kvs:List (Int × List D)} {kws:List (Key × V)} {as:List Addr} (k:Keep H H') (t:Dcl K H₀ H kvs kws as) (w:∀a∈as,∀o,H a=some o->H' a=some o):Dcl K H₀ H' kvs kws as:=by
 induction t with
 | nil=>exact .nil
 | cons h h0 r n t ih=>exact .cons (w _ (.head _) _ h) h0 (r.keep k) n (ih λa m=>w a (.tail _ m))
theorem Dcl.mem {kvs:List (Int × List D)} {kws:List (Key × V)} {as:List Addr} {a:Addr} (t:Dcl K H₀ H kvs kws as):a∈as↔∃k,(k,V.ref a)∈kws:=by
 induction t with
 | nil=>simp
 | cons h h0 r n t ih =>
  rw[aK,ih]
  constructor
  ·rintro (rfl | ⟨k,e⟩)
   ·exact⟨_,.head _⟩
   ·exact⟨k,.tail _ e⟩
  ·rintro⟨k,e⟩
   rcases aK.mp e with e | e
   ·cases e;exact .inl rfl
   ·exact .inr ⟨k,e⟩
theorem Dcl.at {kvs:List (Int × List D)} {kws:List (Key × V)} {as:List Addr} {a:Addr} (t:Dcl K H₀ H kvs kws as) (m:a∈as):H₀ a=none/\∃vs,H a=some (.lst vs):=by
 induction t with
 | nil=>cases m
 | cons h h0 r n t ih =>
  rcases aK.mp m with rfl | m
  ·exact⟨h0,_,h⟩
  ·exact ih m
theorem EM:∀{ks:List Int} {vs:List V},ks.length=vs.length->(GN ks vs).map (·.2)=vs
 | [],[],_=>rfl
 | [],_::_,h=>by cases h
 | _::_,[],h=>by cases h
 | k::ks,v::vs,h=>by
  show v::(GN ks vs).map (·.2)=v::vs
  rw[EM (by simpa using h)]
theorem Dcl.refs {kvs:List (Int × List D)} {kws:List (Key × V)} {as:List Addr} (t:Dcl K H₀ H kvs kws as):kws.map (·.2)=as.map V.ref:=by
 induction t with
 | nil=>rfl
 | cons h h0 r n t ih=>rw[aT,aT,ih]
theorem Ow.at {x:S} {v:V} {a:Addr} (r:RelS K H₀ H x v) (w:Ow H x v a):H₀ a=none/\((∃vs,H a=some (.lst vs))\/(∃kws,H a=some (.dK kws))\/∃kws,H a=some (.dT kws)):=by
 cases x with
 | d x=>exact w.elim
 | exc C y c=>exact w.elim
 | raw u=>exact w.elim
 | mem b x R=>exact w.elim
 | own xs =>
  obtain⟨b,vs,rfl,h,h0,_⟩:=r
  cases w;exact⟨h0,.inl ⟨vs,h⟩⟩
 | dt ks xs =>
  obtain⟨b,vs,rfl,h,h0,_⟩:=r
  cases w;exact⟨h0,.inr (.inr ⟨_,h⟩)⟩
 | dcl kvs =>
  obtain⟨b,kws,as,rfl,h,h0,t⟩:=r
  obtain⟨p,kws',e,h',m⟩:=w
  cases e
  rw[h] at h';cases h'
  rcases m with rfl | m
  ·exact⟨h0,.inr (.inl ⟨kws,h⟩)⟩
  ·obtain⟨g0,g1⟩:=t.at (t.mem.mpr m)
   exact⟨g0,.inl g1⟩
 | box t xss =>
  cases t with
  | false =>
   obtain⟨b,kws,as,rfl,h,h0,_,t⟩:=r
   obtain⟨p,vs,e,h',m⟩:=w
   cases e
   rw[h] at h';cases h'
   rcases m with rfl | m
   ·exact⟨h0,.inl ⟨_,h⟩⟩
   ·obtain⟨c,hc,e⟩:=cB.mp m
    cases e
    obtain⟨g0,g1⟩:=t.at hc
    exact⟨g0,.inl g1⟩
  | true =>
   obtain⟨b,kws,as,rfl,h,t⟩:=r
   obtain⟨p,vs,e,h',m⟩:=w
   cases e
   rw[h] at h';cases h'
   obtain⟨c,hc,e⟩:=cB.mp m
   cases e
   obtain⟨g0,g1⟩:=t.at hc
   exact⟨g0,.inl g1⟩
theorem RelS.move {x:S} {v:V} (k:Keep H H') (r:RelS K H₀ H x v) (w:∀a,Ow H x v a->∀o,H a=some o->H' a=some o):RelS K H₀ H' x v/\∀a,Ow H' x v a->Ow H x v a:=by
 cases x with
 | d x=>exact⟨Rep.keep k r,λa e=>e⟩
 | raw u=>exact⟨r,λa e=>e⟩
 | mem b x R=>exact⟨⟨λe=>(r.1 e).keep k,λH2 k2=>r.2 H2 (k.trans k2)⟩,λa e=>e⟩
 | exc C y c =>
  obtain⟨e,dx,rfl,h1,h2⟩:=r
  exact⟨⟨e,dx,rfl,k.exts _ _ h1,k.xds _ _ h2⟩,λa e=>e⟩
 | own xs =>
  obtain⟨b,vs,rfl,h,h0,rr⟩:=r
  exact⟨⟨b,vs,rfl,w b rfl _ h,h0,rr.keep k⟩,λa e=>e⟩
 | dt ks xs =>
  obtain⟨b,vs,rfl,h,h0,hl,rr⟩:=r
  exact⟨⟨b,vs,rfl,w b rfl _ h,h0,hl,rr.keep k⟩,λa e=>e⟩
 | dcl kvs =>
  obtain⟨b,kws,as,rfl,h,h0,t⟩:=r
  have hb:=w b ⟨b,kws,rfl,h,.inl rfl⟩ _ h
  refine⟨⟨b,kws,as,rfl,hb,h0,t.keep k λa m=>w a ⟨b,kws,rfl,h,.inr (t.mem.mp m)⟩⟩,λa e=>?_⟩
  obtain⟨p,kws',e,h',m⟩:=e
  cases e
  rw[hb] at h';cases h'
  exact⟨b,kws,rfl,h,m⟩
 | box t xss =>
  cases t with
  | false =>
   obtain⟨b,kws,as,rfl,h,h0,nb,t⟩:=r
   have hb:=w b ⟨b,_,rfl,h,.inl rfl⟩ _ h
   refine⟨⟨b,kws,as,rfl,hb,h0,nb,t.keep k λa m=>w a ⟨b,_,rfl,h,.inr (eI m)⟩⟩,λa e=>?_⟩
   obtain⟨p,vs,e,h',m⟩:=e
   cases e
   rw[hb] at h';cases h'
   exact⟨b,_,rfl,h,m⟩
  | true =>
   obtain⟨b,kws,as,rfl,h,t⟩:=r
   have hb:=k.tups b _ h
   refine⟨⟨b,kws,as,rfl,hb,t.keep k λa m=>w a ⟨b,_,rfl,h,eI m⟩⟩,λa e=>?_⟩
   obtain⟨p,vs,e,h',m⟩:=e
   cases e
   rw[hb] at h';cases h'
   exact⟨b,_,rfl,h,m⟩
theorem Same.own {x:S} {v:V} {a:Addr} {o:HO} (s:Same H H') (r:RelS K H₀ H x v) (w:Ow H x v a) (h:H a=some o):H' a=some o:=by
 obtain⟨_,⟨_,q⟩ | ⟨_,q⟩ | ⟨_,q⟩⟩:=Ow.at r w <;> rw[h] at q <;> cases q <;> exact s.get _ _ h trivial
theorem RelS.same {x:S} {v:V} (s:Same H H') (h:RelS K H₀ H x v):RelS K H₀ H' x v:=(h.move (.of s) λa w o e=>s.own h w e).1
end
section
variable {X:Cx} {ρ:En} {σ:St} {H H':Hp}
theorem StOk.tabs (st:StOk X ρ σ H):TabsIn X.K H:=st.t0.tabK st.same.tbls
theorem StOk.ext (st:StOk X ρ σ H) (s:Same H H'):StOk X ρ σ H':=by
 refine⟨st.len,st.same.trans s,λi x e=>let ⟨v,h1,h2⟩:=st.rel i x e;⟨v,h1,h2.same s⟩,λi j x y v u a e1 e2 e3 e4 o1 o2=>?_,st.t0⟩
 obtain⟨v',h1,h2⟩:=st.rel i x e1
 obtain⟨u',g1,g2⟩:=st.rel j y e2
 rw[h1] at e3;cases e3
 rw[g1] at e4;cases e4
 exact st.sep i j x y _ _ a e1 e2 h1 g1 ((h2.move (.of s) λa w o e=>s.own h2 w e).2 a o1) ((g2.move (.of s) λa w o e=>s.own g2 w e).2 a o2)
theorem LS {α:Type} {xs:List (Option α)} {i j:Nat} {x y:α} (e:(xs.set i (some x))[j]? = some (some y)):(j=i/\y=x/\i<xs.length)\/(i≠j/\xs[j]? = some (some y)):=by
 by_cases hj:i=j
 ·subst hj
  by_cases h:i<xs.length
  ·rw[iC h] at e;cases e;exact .inl ⟨rfl,rfl,h⟩
  ·rw[List.set_eq_of_length_le (by lia),gR (by lia)] at e;cases e
 ·rw[gZ hj] at e;exact .inr ⟨hj,e⟩
theorem StOk.chg (st:StOk X ρ σ H) {i:Nat} {x':S} {v':V} {W:Addr->Prop} (kp:Keep H H') (h0:Same X.H₀ H') (h1:∀b o,H b=some o->NT o->¬W b->H' b=some o) (h2:RelS X.K X.H₀ H' x' v')
  (h3:∀a,Ow H' x' v' a->W a\/H a=none) (h4:∀(j:Nat) (y:S) (u:V) (a:Addr),j≠i->ρ[j]? = some (some y)->σ[j]? = some (some u)->Ow H y u a->¬W a):StOk X (ρ.set i (some x')) (σ.set i (some v')) H':=by
 have old:∀(j:Nat) (y:S),j≠i->ρ[j]? = some (some y)->∃u,σ[j]? = some (some u)/\RelS X.K X.H₀ H y u/\RelS X.K X.H₀ H' y u/\∀a,Ow H' y u a->Ow H y u a:=λj y hj e=>by
  obtain⟨u,g1,g2⟩:=st.rel j y e
  obtain⟨g3,g4⟩:=g2.move kp λa w o e'=>by
   have nw:=h4 j y u a hj e g1 w
   obtain⟨_,⟨_,q⟩ | ⟨_,q⟩ | ⟨_,q⟩⟩:=Ow.at g2 w <;> rw[e'] at q <;> cases q <;> exact h1 a _ e' trivial nw
  exact⟨u,g1,g2,g3,g4⟩
 refine⟨by simp[st.len],h0,λj y e=>?_,λj k y z v u a e1 e2 e3 e4 o1 o2=>?_,st.t0⟩
 ·rcases LS e with ⟨rfl,rfl,hl⟩ | ⟨hj,e⟩
  ·exact⟨v',by rw[iC (by rw[<-st.len];exact hl)],h2⟩
  ·obtain⟨u,g1,_,g3,_⟩:=old j y (Ne.symm hj) e
   exact⟨u,by rw[gZ hj];exact g1,g3⟩
 ·have cross:∀(j:Nat) (y:S) (u:V),i≠j->ρ[j]? = some (some y)->σ[j]? = some (some u)->Ow H' y u a->Ow H' x' v' a->False:=λj y u hj e es o1 o2=>by
   obtain⟨u',g1,g2,g3,g4⟩:=old j y (Ne.symm hj) e
   rw[g1] at es;cases es
   rcases h3 a o2 with w | n
   ·exact h4 j y _ a (Ne.symm hj) e g1 (g4 a o1) w
   ·obtain⟨_,⟨_,q⟩ | ⟨_,q⟩ | ⟨_,q⟩⟩:=Ow.at g2 (g4 a o1) <;> rw[n] at q <;> cases q
  rcases LS e1 with ⟨rfl,rfl,hl⟩ | ⟨hj,e1'⟩
  ·rcases LS e2 with ⟨rfl,rfl,_⟩ | ⟨hk,e2'⟩
   ·rfl
   ·rw[iC (by rw[<-st.len];exact hl)] at e3;cases e3
    rw[gZ hk] at e4
    exact (cross k z u hk e2' e4 o2 o1).elim
  ·rw[gZ hj] at e3
   rcases LS e2 with ⟨rfl,rfl,hl⟩ | ⟨hk,e2'⟩
   ·rw[iC (by rw[<-st.len];exact hl)] at e4;cases e4
    exact (cross j y v hj e1' e3 o1 o2).elim
   ·rw[gZ hk] at e4
    obtain⟨v',g1,g2,g3,g4⟩:=old j y (Ne.symm hj) e1'
    obtain⟨u',f1,f2,f3,f4⟩:=old k z (Ne.symm hk) e2'
    rw[g1] at e3;cases e3
    rw[f1] at e4;cases e4
    exact st.sep j k y z _ _ a e1' e2' g1 f1 (g4 a o1) (f4 a o2)
theorem StOk.put (st:StOk X ρ σ H) {i:Nat} {x':S} {v':V} (s:Same H H') (h2:RelS X.K X.H₀ H' x' v') (h3:∀a,Ow H' x' v' a->H a=none):StOk X (ρ.set i (some x')) (σ.set i (some v')) H' :=
 st.chg (W:=λ_=>False) (.of s) (st.same.trans s) (λb o h n _=>s.get b o h n) h2 (λa o=>.inr (h3 a o)) λ_ _ _ _ _ _ _ _ z=>z
theorem StOk.updW (st:StOk X ρ σ H) {i:Nat} {x x':S} {v v':V} (e:ρ[i]? = some (some x)) (es:σ[i]? = some (some v)) (h1:∀b o,H b=some o->¬Ow H x v b->H' b=some o) (h2:RelS X.K X.H₀ H' x' v')
  (h3:∀a,Ow H' x' v' a->Ow H x v a\/H a=none):StOk X (ρ.set i (some x')) (σ.set i (some v')) H'/\Keep H H':=by
 obtain⟨v0,g1,g2⟩:=st.rel i x e
 rw[g1] at es;cases es
 have no:∀b o,H b=some o->(∀vs,o≠.lst vs)->(∀kws,o≠.dK kws)->(∀kws,o≠.dT kws)->¬Ow H x v b:=λb o h n1 n2 n3 w=>by
  obtain⟨_,⟨_,q⟩ | ⟨_,q⟩ | ⟨_,q⟩⟩:=Ow.at g2 w <;> rw[h] at q <;> cases q
  ·exact n1 _ rfl
  ·exact n2 _ rfl
  ·exact n3 _ rfl
 have ne:∀b o,H b=some o->(∀vs,o≠.lst vs)->(∀kws,o≠.dK kws)->(∀kws,o≠.dT kws)->H' b=some o:=λb o h n1 n2 n3=>h1 b o h (no b o h n1 n2 n3)
 have kp:Keep H H':=⟨λb xs h=>ne b _ h (λ_ z=>by cases z) (λ_ z=>by cases z) (λ_ z=>by cases z),λb o u h=>ne b _ h (λ_ z=>by cases z) (λ_ z=>by cases z) (λ_ z=>by cases z),λb φ h=>ne b _ h (λ_ z=>by cases z) (λ_ z=>by cases z) (λ_ z=>by cases z),λb fs h=>ne b _ h (λ_ z=>by cases z) (λ_ z=>by cases z) (λ_ z=>by cases z),
  .of (λb φ h=>ne b _ h (λ_ z=>by cases z) (λ_ z=>by cases z) (λ_ z=>by cases z)) λb φ h=>ne b _ h (λ_ z=>by cases z) (λ_ z=>by cases z) (λ_ z=>by cases z)⟩
 refine⟨st.chg (W:=Ow H x v) kp ⟨λb o h n=>h1 b o (st.same.get b o h n) λw=>?_,st.same.tbls.trans kp.tbls⟩ (λb o h _ w=>h1 b o h w) h2 h3 λj y u a hj ej eu o1 o2=>hj (st.sep j i y x u v a ej e eu g1 o1 o2),kp⟩
 rw[(Ow.at g2 w).1] at h;cases h
theorem StOk.set_d (st:StOk X ρ σ H) {i:Nat} {d:D} {v:V} (r:Rep X.K H d v):StOk X (ρ.set i (some (.d d))) (σ.set i (some v)) H:=st.put (x':=.d d) (Same.refl H) r λ_ o=>o.elim
theorem oJ {α:Type} {xs:List α} {i:Nat} {x:α} (e:xs[i]? = some x):xs.set i x=xs:=by
 apply qL ;intro j
 by_cases hj:i=j
 ·subst hj;rw[iC (aX.mp e).1,e]
 ·rw[gZ hj]
theorem StOk.set_own (st:StOk X ρ σ H) {i:Nat} {ds:List D} {p:Addr} {vs:List V} (hp:H p=none) (r:Reps X.K H ds vs) :
  StOk X (ρ.set i (some (.own ds))) (σ.set i (some (.ref p))) (upd H p (.lst vs)):=by
 have sm:Same H (upd H p (.lst vs)):=.fn λb o h=>by rw[cT (eT h hp)];exact h
 exact st.put sm ⟨p,vs,rfl,fK,st.same.free hp,r.keep (.of sm)⟩ λa o=>by cases o;exact hp
theorem StOk.upd_own (st:StOk X ρ σ H) {i:Nat} {xs ds:List D} {p:Addr} {us vs:List V} (e:ρ[i]? = some (some (.own xs))) (es:σ[i]? = some (some (.ref p))) (hp:H p=some (.lst us)) (h0:X.H₀ p=none)
  (r:Reps X.K H ds vs):StOk X (ρ.set i (some (.own ds))) σ (upd H p (.lst vs))/\Keep H (upd H p (.lst vs)):=by
 have kp:Keep H (upd H p (.lst vs)):=Keep.chg1 hp (.inl ⟨_,rfl⟩)
 have:=st.updW (x':=.own ds) (v':=.ref p) e es (H':=upd H p (.lst vs)) (λb o h w=>by rw[cT (by rintro rfl;exact w rfl)];exact h) ⟨p,vs,rfl,fK,h0,r.keep kp⟩ λa o=>.inl o
 rw[oJ es] at this
 exact this
end
section
variable {X:Cx} {pins:List (Addr × Obj)} {σ:St} {H:Hp} {s:aG}
theorem Inv.freezeG {a:Addr} {x:HO} {o:Obj} (I:Inv X pins σ H s) (h:H a=some x) (ho:s.heap.get? a=some o) (n1:∀ys,HO.tup ys≠x) (n2:∀o w,HO.frz o w≠x) (n3:∀ps,HO.tbl ps≠x) (n4:∀c,HO.own c≠x):Inv X pins σ (upd H a (.frz o x)) s:=by
 have ok:=I.hok a _ h
 have ntup:∀b u,H b=some u->u≠x->b≠a:=λb u q d z=>by subst z;rw[h] at q;cases q;exact d rfl
 have st:∀{b:Addr} {u:HO},ObjOk X.prog X.w H s.heap b u->ObjOk X.prog X.w (upd H a (.frz o x)) s.heap b u:=λ{b u} q =>
  q.stay (λc v _ w=>w) (λc w=>by rw[cT (ntup c _ w (n4 _))];exact w) λc ys w=>by rw[cT (ntup c _ w (n1 _))];exact w
 refine I.un (t':=s.toks) (h':=s.heap) ⟨λb o q _ _ _=>q,λb o q _ _ _=>⟨o.slots,q⟩,λb o q n _=>?_,λb o q _=>⟨o,q⟩,λb ys q=>?_,λb o u q=>?_,λb ps q=>⟨#[],?_⟩⟩ λb u q=>?_
 ·rw[cT (λz=>by subst z;rw[h] at n;cases n)];exact n
 ·rw[cT (ntup b _ q (n1 _))];exact q
 ·rw[cT (ntup b _ q (n2 _ _))];exact q
 ·rw[cT (ntup b _ q (n3 _)),q];simp
 ·by_cases hb:b=a
  ·subst hb
   rw[fK] at q;cases q
   exact⟨ho,st ok⟩
  ·rw[cT hb] at q
   exact st (I.hok b u q)
theorem Inv.freeze {a:Addr} {xs:List V} (I:Inv X pins σ H s) (h:H a=some (.lst xs)):∃o,Inv X pins σ (upd H a (.frz o (.lst xs))) s:=by
 obtain⟨z,its,n,r,e⟩:=I.hok a _ h
 exact⟨_,Inv.freezeG I h e (λ_ z=>by cases z) (λ_ _ z=>by cases z) (λ_ z=>by cases z) (λ_ z=>by cases z)⟩
theorem Inv.freezeD {a:Addr} {kvs:List (Key × V)} (I:Inv X pins σ H s) (h:H a=some (.dK kvs)):∃o,Inv X pins σ (upd H a (.frz o (.dK kvs))) s:=by
 obtain⟨_,_,vs,r,ob,es,ep,e,_⟩:=I.hok a _ h
 exact⟨ob,Inv.freezeG I h e (λ_ z=>by cases z) (λ_ _ z=>by cases z) (λ_ z=>by cases z) (λ_ z=>by cases z)⟩
theorem Inv.freezeT {a:Addr} {kvs:List (List Key × V)} (I:Inv X pins σ H s) (h:H a=some (.dT kvs)):∃o,Inv X pins σ (upd H a (.frz o (.dT kvs))) s:=by
 obtain⟨_,_,_,_,ob,_,_,e,_⟩:=I.hok a _ h
 exact⟨ob,Inv.freezeG I h e (λ_ z=>by cases z) (λ_ _ z=>by cases z) (λ_ z=>by cases z) (λ_ z=>by cases z)⟩
theorem Same.upd_new {a:Addr} {o:HO} {H H1:Hp} (s:Same H H1) (n:H a=none) (m:∀φ,H1 a≠some (.ext φ)):Same H (upd H1 a o):=by
 refine⟨λb u h nt=>by rw[cT (eT h n)];exact s.get b u h nt,λb ps h=>?_⟩
 obtain⟨more,e1,e2⟩:=s.tbls b ps h
 refine⟨more,by rw[cT (eT h n)];exact e1,λx=>(e2 x).mono λc φ q=>?_⟩
 rw[cT (by rintro rfl;exact m _ q)];exact q
theorem tP:∀(kvs:List (Int × List D)) {kws:List (Key × V)} {as:List Addr} {H:Hp},Inv X pins σ H s->Dcl X.K X.H₀ H kvs kws as ->
  ∃H' vs,Inv X pins σ H' s/\kws=GN (kvs.map (·.1)) vs/\kvs.length=vs.length/\Reps X.K H' (kvs.map λp=>.lst p.2) vs/\Keep H H'/\∀b o,H b=some o->b ∉ as->H' b=some o
 | [],_,_,H,I,t=>by cases t;exact⟨H,[],I,rfl,rfl,.nil,Keep.refl H,λb o h _=>h⟩
 | (k,ds)::kvs,_,_,H,I,t=>by
  cases t with
  | @cons _ b vs _ _ kws as h h0 r n t =>
   obtain⟨o,I1⟩:=Inv.freeze I h
   have kp:Keep H (upd H b (.frz o (.lst vs))):=Keep.chg1 h (.inl ⟨_,rfl⟩)
   obtain⟨H',us,I2,e1,e2,e3,k2,e4⟩:=tP kvs I1 (t.keep kp λa m o e=>by rw[cT (by rintro rfl;exact n m)];exact e)
   subst e1
   refine⟨H',.ref b::us,I2,rfl,by simp[e2],.cons (.lst (.inl ⟨o,k2.frzs _ _ _ fK⟩) (r.keep (kp.trans k2))) e3,kp.trans k2,λc u q m=>?_⟩
   rw[aK,not_or] at m
   exact e4 c u (by rw[cT m.1];exact q) m.2
def S.fz:S->S
 | .own ds=>.d (.lst ds)
 | .dcl kvs=>.d (.dct (kvs.map (·.1)) (kvs.map λp=>.lst p.2))
 | .box false xss=>.d (.lst (xss.map .lst))
 | .box true xss=>.d (.tup (xss.map .lst))
 | .d x=>.d x
 | .exc C y c=>.exc C y c
 | .raw u=>.raw u
 | .mem b x R=>.mem b x R
 | .dt ks xs=>.d (.dtt ks xs)
theorem StOk.fz {ρ:En} {i:Nat} {x:S} (so:StOk X ρ σ H) (I:Inv X pins σ H s) (e:ρ[i]? = some (some x)):∃H',Inv X pins σ H' s/\StOk X (ρ.set i (some x.fz)) σ H'/\Keep H H':=by
 obtain⟨v,h1,h2⟩:=so.rel i _ e
 cases x with
 | d x=>exact⟨H,I,by rw[show S.fz (.d x) = .d x from rfl,oJ e];exact so,Keep.refl H⟩
 | exc C y c=>exact⟨H,I,by rw[show S.fz (.exc C y c) = .exc C y c from rfl,oJ e];exact so,Keep.refl H⟩
 | raw u=>exact⟨H,I,by rw[show S.fz (.raw u) = .raw u from rfl,oJ e];exact so,Keep.refl H⟩
 | mem b x R=>exact⟨H,I,by rw[show S.fz (.mem b x R) = .mem b x R from rfl,oJ e];exact so,Keep.refl H⟩
 | own ds =>
  obtain⟨p,vs,ev,hp,h0,rr⟩:=id h2
  subst ev
  obtain⟨o,I2⟩:=Inv.freeze I hp
  have kp:Keep H (upd H p (.frz o (.lst vs))):=Keep.chg1 hp (.inl ⟨_,rfl⟩)
  obtain⟨so2,k2⟩:=so.updW (x':=.d (.lst ds)) (v':=.ref p) e h1 (H':=upd H p (.frz o (.lst vs))) (λb o h w=>by rw[cT (by rintro rfl;exact w rfl)];exact h) (.lst (.inl ⟨o,fK⟩) (rr.keep kp)) λa o=>o.elim
  rw[oJ h1] at so2
  exact⟨_,I2,so2,k2⟩
 | dt ks xs =>
  obtain⟨p,vs,ev,hp,h0,hl,rr⟩:=id h2
  subst ev
  obtain⟨o,I2⟩:=Inv.freezeT I hp
  have kp:Keep H (upd H p (.frz o (.dT (xV ks vs)))):=Keep.chg1 hp (.inr (.inr ⟨_,rfl⟩))
  obtain⟨so2,k2⟩:=so.updW (x':=.d (.dtt ks xs)) (v':=.ref p) e h1 (H':=upd H p (.frz o (.dT (xV ks vs)))) (λb o h w=>by rw[cT (by rintro rfl;exact w rfl)];exact h) (.dtt fK hl (rr.keep kp)) λa o=>o.elim
  rw[oJ h1] at so2
  exact⟨_,I2,so2,k2⟩
 | dcl kvs =>
  obtain⟨p,kws,as,ev,hp,h0,t⟩:=id h2
  subst ev
  obtain⟨H1,vs,I1,e1,e2,e3,k1,e4⟩:=tP kvs I t
  have np:p ∉ as:=λm=>by obtain⟨_,us,q⟩:=t.at m;rw[hp] at q;cases q
  have hp1:=e4 p _ hp np
  obtain⟨o,I2⟩:=Inv.freezeD I1 hp1
  have kp:Keep H1 (upd H1 p (.frz o (.dK kws))):=Keep.chg1 hp1 (.inr (.inl ⟨_,rfl⟩))
  obtain⟨so2,k2⟩:=so.updW (x':=.d (.dct (kvs.map (·.1)) (kvs.map λp=>.lst p.2))) (v':=.ref p) e h1 (H':=upd H1 p (.frz o (.dK kws)))
   (λb o h w=>by
    rw[cT (by rintro rfl;exact w ⟨_,kws,rfl,hp,.inl rfl⟩)]
    exact e4 b o h λm=>w ⟨p,kws,rfl,hp,.inr (t.mem.mp m)⟩)
   (.dct (by rw[fK,e1]) (by simp[e2]) (e3.keep kp)) λa o=>o.elim
  rw[oJ h1] at so2
  exact⟨_,I2,so2,k2⟩
 | box t xss =>
  have emap:(xss.map λx=>((0:Int),x)).map (λp=>D.lst p.2)=xss.map D.lst:=by rw[dD];rfl
  cases t with
  | false =>
   obtain⟨p,kws,as,ev,hp,h0,np,t⟩:=id h2
   subst ev
   obtain⟨H1,vs,I1,e1,e2,e3,k1,e4⟩:=tP _ I t
   rw[emap] at e3
   have ea:as.map V.ref=vs:=by rw[<-t.refs,e1];exact EM (by rw[cI];simpa using e2)
   have hp1:=e4 p _ hp np
   obtain⟨o,I2⟩:=Inv.freeze I1 hp1
   have kp:Keep H1 (upd H1 p (.frz o (.lst (as.map V.ref)))):=Keep.chg1 hp1 (.inl ⟨_,rfl⟩)
   obtain⟨so2,k2⟩:=so.updW (x':=.d (.lst (xss.map .lst))) (v':=.ref p) e h1 (H':=upd H1 p (.frz o (.lst (as.map V.ref))))
    (λb o h w=>by
     rw[cT (by rintro rfl;exact w ⟨_,_,rfl,hp,.inl rfl⟩)]
     exact e4 b o h λm=>w ⟨p,_,rfl,hp,.inr (eI m)⟩)
    (.lst (vs:=as.map V.ref) (.inl ⟨o,fK⟩) (by have z:=e3.keep kp;rw[<-ea] at z;exact z)) λa o=>o.elim
   rw[oJ h1] at so2
   exact⟨_,I2,so2,k2⟩
  | true =>
   obtain⟨p,kws,as,ev,hp,t⟩:=id h2
   subst ev
   obtain⟨H1,vs,I1,e1,e2,e3,k1,e4⟩:=tP _ I t
   rw[emap] at e3
   have ea:as.map V.ref=vs:=by rw[<-t.refs,e1];exact EM (by rw[cI];simpa using e2)
   obtain⟨so2,k2⟩:=so.updW (x':=.d (.tup (xss.map .lst))) (v':=.ref p) e h1 (H':=H1)
    (λb o h w=>e4 b o h λm=>w ⟨p,_,rfl,hp,eI m⟩)
    (.tup (vs:=as.map V.ref) (k1.tups _ _ hp) (by have z:=e3;rw[<-ea] at z;exact z)) λa o=>o.elim
   rw[oJ h1] at so2
   exact⟨_,I1,so2,k2⟩
end
structure Sz (n:Nat):Prop where
 ok:n<=sizeLine
abbrev RE:=En->(D->Prop)->Prop
abbrev RT:=En->(Bool->Prop)->Prop
abbrev RA:=En->(List D->Prop)->Prop
structure DEnds where
 nx:En->Prop
 rt:D->Prop
 bk:En->Prop:=λ_=>False
 ct:En->Prop:=λ_=>False
abbrev RS:=DEnds->En->Prop
abbrev RG:=D->En->(En->Prop)->Prop
def Rl (X:Cx) (t:RE):TE:=λσ H Q=>∃ρ P,StOk X ρ σ H/\t ρ P/\∀d v H',P d->Same H H'->Rep X.K H' d v->Q v H'
def Km (X:Cx) (t:RE):TE:=λσ H Q=>∃ρ P,StOk X ρ σ H/\t ρ P/\∀d v H',P d->Same H H'->RepB X.K H' d v->Q v H'
def Vw (X:Cx) (t:RA):TE:=λσ H Q=>∃ρ P,StOk X ρ σ H/\t ρ P/\∀ds p vs H1,P ds->Same H H1->H1 p=none->Reps X.K H1 ds vs->Q (.ref p) (upd H1 p (.lst vs))
def liftT (X:Cx) (t:RT):TT:=λσ H Q=>∃ρ P,StOk X ρ σ H/\t ρ P/\∀b H',P b->Same H H'->Q b H'
def Vs (X:Cx) (t:RA):TA:=λσ H Q=>∃ρ P,StOk X ρ σ H/\t ρ P/\∀ds vs H',P ds->Same H H'->Reps X.K H' ds vs->Q vs H'
def Rn (X:Cx) (t:RS):TS:=λDe σ H=>∃ρ E,StOk X ρ σ H/\t E ρ/\(∀ρ' σ' H',E.nx ρ'->Keep H H'->StOk X ρ' σ' H'->De.nx σ' H')/\(∀d v H',E.rt d->Keep H H'->Same X.H₀ H'->Rep X.K H' d v->De.rt v H') /\
 (∀ρ' σ' H',E.bk ρ'->Keep H H'->StOk X ρ' σ' H'->De.bk σ' H')/\∀ρ' σ' H',E.ct ρ'->Keep H H'->StOk X ρ' σ' H'->De.ct σ' H'
def Vt (X:Cx) (g:RG):TG:=λv σ H Q=>∃d ρ P,Rep X.K H d v/\StOk X ρ σ H/\g d ρ P/\∀ρ' σ' H',P ρ'->Keep H H'->StOk X ρ' σ' H'->Q σ' H'
theorem iP {α β:Type} {A B C:α->β->Prop} {R:Prop} (h:∃ρ P,A ρ P/\B ρ P/\C ρ P) (k:∀ρ P,A ρ P->B ρ P->C ρ P->R):R:=let ⟨ρ,P,a,b,c⟩:=h;k ρ P a b c
theorem TL {α β γ:Type} {A B C E:γ->α->β->Prop} {R:Prop} (h:∃d ρ P,A d ρ P/\B d ρ P/\C d ρ P/\E d ρ P) (k:∀d ρ P,A d ρ P->B d ρ P->C d ρ P->E d ρ P->R):R:=let ⟨d,ρ,P,a,b,c,e⟩:=h;k d ρ P a b c e
theorem rW {α β:Type} {A B C E F G:α->β->Prop} {R:Prop} (h:∃ρ P,A ρ P/\B ρ P/\C ρ P/\E ρ P/\F ρ P/\G ρ P) (k:∀ρ P,A ρ P->B ρ P->C ρ P->E ρ P->F ρ P->G ρ P->R):R:=let ⟨ρ,P,a,b,c,e,f,g⟩:=h;k ρ P a b c e f g
def DE (X:Cx) (e:Expr) (t:RE):Prop:=PE X e (Rl X t)
def DB (X:Cx) (e:Expr) (t:RE):Prop:=PE X e (Km X t)
def DO (X:Cx) (e:Expr) (t:RA):Prop:=PE X e (Vw X t)
def DT (X:Cx) (e:Expr) (t:RT):Prop:=PT X e (liftT X t)
def DW (X:Cx) (e:Expr) (t:RT):Prop:=PW X e (liftT X t)
def DA (X:Cx) (es:List Expr) (t:RA):Prop:=PA X es (Vs X t)
def DS (X:Cx) (st:Stmt) (t:RS):Prop:=PS X st (Rn X t)
def DSs (X:Cx) (sts:List Stmt) (t:RS):Prop:=PSs X sts (Rn X t)
def DG (X:Cx) (tg:Expr) (g:RG):Prop:=PG X tg (Vt X g)
theorem PE.mono {X:Cx} {e:Expr} {t t':TE} (h:PE X e t) (m:∀σ H Q,t' σ H Q->t σ H Q):PE X e t':=λpins s σ H Q I q=>h pins s σ H Q I (m σ H Q q)
theorem PT.mono {X:Cx} {e:Expr} {t t':TT} (h:PT X e t) (m:∀σ H Q,t' σ H Q->t σ H Q):PT X e t':=λpins s σ H Q I q=>h pins s σ H Q I (m σ H Q q)
theorem PW.mono {X:Cx} {e:Expr} {t t':TT} (h:PW X e t) (m:∀σ H Q,t' σ H Q->t σ H Q):PW X e t':=λwh pins s σ H Q I q=>h wh pins s σ H Q I (m σ H Q q)
theorem PA.mono {X:Cx} {e:List Expr} {t t':TA} (h:PA X e t) (m:∀σ H Q,t' σ H Q->t σ H Q):PA X e t':=λpos pins s σ H Q I q=>h pos pins s σ H Q I (m σ H Q q)
theorem PS.mono {X:Cx} {e:Stmt} {t t':TS} (h:PS X e t) (m:∀D σ H,t' D σ H->t D σ H):PS X e t':=λpins s σ H D I q=>h pins s σ H D I (m D σ H q)
theorem PSs.mono {X:Cx} {e:List Stmt} {t t':TS} (h:PSs X e t) (m:∀D σ H,t' D σ H->t D σ H):PSs X e t':=λpins s σ H D I q=>h pins s σ H D I (m D σ H q)
theorem PG.mono {X:Cx} {e:Expr} {t t':TG} (h:PG X e t) (m:∀v σ H Q,t' v σ H Q->t v σ H Q):PG X e t':=λpins s σ H v u Q I r q=>h pins s σ H v u Q I r (m v σ H Q q)
section
variable {X:Cx} {e a b c:Expr} {pos:Pos}
theorem DE.bor {t:RE} (h:DE X e t):DB X e t:=PE.mono h λσ H Q hh=>iP hh λρ P st q k=>⟨ρ,P,st,q,λd v H' p s r=>k d v H' p s (.inl r)⟩
theorem DO.val {t:RA} (h:DO X e t):DE X e (λρ Q=>t ρ λds=>Q (.lst ds)):=by
 intro pins s σ H Q I hh_0
 obtain⟨ρ,P,st,q,k⟩:=hh_0
 refine thn (h pins s σ H (λv H'=>∃ds p vs H1,v = .ref p/\H'=upd H1 p (.lst vs)/\P (.lst ds)/\Same H H1/\H1 p=none/\Reps X.K H1 ds vs) I ⟨ρ,_,st,q,λds p vs H1 hp s1 hn r=>⟨ds,p,vs,H1,rfl,rfl,hp,s1,hn,r⟩⟩) λu s1 ⟨v,H',I',rv,ds,p,vs,H1,ev,eH,hp,sm,hn,r⟩=>?_
 subst ev eH
 obtain⟨o,I2⟩:=Inv.freeze I' (a:=p) (xs:=vs) fK
 have sm2:Same H1 (upd (upd H1 p (.lst vs)) p (.frz o (.lst vs))):=Same.fn λb u e=>by rw[cT (eT e hn),cT (eT e hn)];exact e
 exact⟨.ref p,_,I2,rv,k (.lst ds) (.ref p) _ hp (sm.trans sm2) (.lst (.inl ⟨o,fK⟩) (r.keep (.of sm2)))⟩
def cG (i:Nat):RE:=λρ Q=>match ρ[i]? with
 | some (some (.d d))=>Q d
 | some (some (.mem true d _))=>Q d
 | _=>False
def aL (i:Nat):RE:=λρ Q=>match ρ[i]? with
 | some (some (.d d))=>Q d
 | some (some (.own xs))=>Q (.lst xs)
 | some (some (.mem true d _))=>Q d
 | _=>False
theorem dv (i:Nat) {x:Str} (hN:X.N[i]? = some x:=by rfl) (hv:Vis X.env.scope x:=by walk_at "vis") (hd:(x == ("__debug__":Str))=false:=by decide)
  (hcd:(x == ("__classdict__":Str))=false:=by decide):DE X (.Name x pos) (cG i):=by
 refine PE.mono (pv i hN hv hd hcd) λσ H Q hh=>iP hh λρ P st q k=>?_
 unfold cG at q
 split at q
 ·rename_i d e
  obtain⟨v,h1,h2⟩:=st.rel i _ e
  exact⟨v,h1,k d v H q (Same.refl H) h2⟩
 ·rename_i d R e
  obtain⟨v,h1,h2⟩:=st.rel i _ e
  exact⟨v,h1,k d v H q (Same.refl H) (h2.1 rfl)⟩
 ·exact q.elim
theorem dvb (i:Nat) {x:Str} (hN:X.N[i]? = some x:=by rfl) (hv:Vis X.env.scope x:=by walk_at "vis") (hd:(x == ("__debug__":Str))=false:=by decide)
  (hcd:(x == ("__classdict__":Str))=false:=by decide):DB X (.Name x pos) (aL i):=by
 refine PE.mono (pv i hN hv hd hcd) λσ H Q hh=>iP hh λρ P st q k=>?_
 unfold aL at q
 split at q
 ·rename_i d e
  obtain⟨v,h1,h2⟩:=st.rel i _ e
  exact⟨v,h1,k _ v H q (Same.refl H) (.inl h2)⟩
 ·rename_i xs e
  obtain⟨v,h1,h2⟩:=st.rel i _ e
  obtain⟨a,vs,e1,e2,_,r⟩:=h2
  exact⟨v,h1,k _ v H q (Same.refl H) (.inr ⟨xs,a,vs,rfl,e1,e2,r⟩)⟩
 ·rename_i d R e
  obtain⟨v,h1,h2⟩:=st.rel i _ e
  exact⟨v,h1,k _ v H q (Same.refl H) (.inl (h2.1 rfl))⟩
 ·exact q.elim
def rC (d:D):RE:=λ_ Q=>Q d
theorem jA {i:Int} {j:Nat}:DE X (.Constant (.int i) j pos) (rC (.int i)):=PE.mono An λσ H Q hh=>iP hh λρ P st q k=>k _ _ H q (Same.refl H) (.int i)
theorem oE {i:Bool} {j:Nat}:DE X (.Constant (.bool i) j pos) (rC (.bl i)):=PE.mono Wg λσ H Q hh=>iP hh λρ P st q k=>k _ _ H q (Same.refl H) (.bl i)
theorem xQ {j:Nat}:DE X (.Constant .none j pos) (rC .non):=PE.mono Tm λσ H Q hh=>iP hh λρ P st q k=>k _ _ H q (Same.refl H) .non
abbrev R22:=D->D->(D->Prop)->Prop
def Rm (X:Cx) (r:R22):R2:=λx y H Q=>∃d e P,RepB X.K H d x/\RepB X.K H e y/\r d e P/\∀z v H',P z->Same H H'->Rep X.K H' z v->Q v H'
def OpD (X:Cx) (f:aD->aD->Sem aD) (r:R22):Prop:=OpR X f (Rm X r)
def r2 (r:R22) (ta tb:RE):RE:=λρ Q=>ta ρ λx=>tb ρ λy=>r x y Q
variable {ta tb tc:RE}
theorem Kl {r:R22} {σ:St} {H:Hp} {Q:VK} (h:Rl X (r2 r ta tb) σ H Q):tOp (Rm X r) (Km X ta) (Km X tb) σ H Q:=by
 obtain⟨ρ,P,st,ht,hP⟩:=h
 exact⟨ρ,_,st,ht,λx v H1 h1 s1 r1=>⟨ρ,_,st.ext s1,h1,λy u H2 h2 s2 r2=>⟨x,y,P,r1.same s2,r2,h2,λz w H' hz s3 r3=>hP z w H' hz ((s1.trans s2).trans s3) r3⟩⟩⟩
theorem aQ {op:Operator} {r:R22} (ho:OpD X (binaryOp op) r) (ha:DB X a ta) (hb:DB X b tb):DE X (.BinOp a op b pos) (r2 r ta tb):=PE.mono (Wh ho ha hb) λσ H Q h=>Kl h
theorem qR {op:CmpOp} {r:R22} (ho:OpD X (compareOp op) r) (ha:DB X a ta) (hb:DB X b tb) (hm:behindInMarks op b=false:=by exact Ks _):DE X (.Compare a [op] [b] pos) (r2 r ta tb):=PE.mono (Pg ho ha hb hm) λσ H Q h=>Kl h
def dX (t:RE):RT:=λρ Q=>t ρ λd=>match d with
 | .bl k=>Q k
 | _=>False
theorem fU {op:CmpOp} {r:R22} (ho:OpD X (compareOp op) r) (ha:DB X a ta) (hb:DB X b tb) (hm:behindInMarks op b=false:=by exact Ks _):DT X (.Compare a [op] [b] pos) (dX (r2 r ta tb)):=by
 refine PT.mono (Pq ho ha hb hm) λσ H Q hh=>iP hh λρ P st q k=>?_
 refine Kl (Q:=λx H'=>∃k,x = .bl k/\Q k H') ⟨ρ,_,st,q,λd v H' hd s r=>?_⟩
 cases d with
 | bl b=>exact⟨b,r.bl_inv,k b H' hd s⟩
 | _=>exact hd.elim
theorem kB (h:DE X e ta) (he:∀whole,isTrue e X.env whole=(do let v <-whole;standAt e.pos;holding [v] (truthy v)):=by intro _;rfl):DT X e (dX ta):=by
 refine PT.mono (Tw h he) λσ H Q hh=>iP hh λρ P st q k=>?_
 refine⟨ρ,_,st,q,λd v H' hd s r=>?_⟩
 cases d with
 | bl b=>exact⟨b,r.bl_inv,k b H' hd s⟩
 | _=>exact hd.elim
def Bd (t u:RT):RT:=λρ Q=>t ρ λc=>if c=true then u ρ Q else Q false
def rOr (t u:RT):RT:=λρ Q=>t ρ λc=>if c=true then Q true else u ρ Q
def qE (t:RT):RT:=λρ Q=>t ρ λc=>Q (!c)
variable {tA tB:RT} {rest:List Expr}
theorem Cy (ha:DT X a tA):DW X (.BoolOp .And [a] pos) tA:=Ps ha
theorem pW (ha:DT X a tA):DW X (.BoolOp .Or [a] pos) tA:=Tz ha
theorem Jq (ha:DT X a tA) (hb:DW X (.BoolOp .And (b::rest) pos) tB):DW X (.BoolOp .And (a::b::rest) pos) (Bd tA tB) :=
 PW.mono (Ty ha hb) λσ H Q hh=>iP hh λρ P st q k=>⟨ρ,_,st,q,λc H1 hc s1=>by
  cases c with
  | true=>rw[if_pos rfl] at hc ⊢;exact⟨ρ,P,st.ext s1,hc,λd H2 hd s2=>k d H2 hd (s1.trans s2)⟩
  | false=>rw[if_neg cJ] at hc ⊢;exact k false H1 hc s1⟩
theorem mJ (ha:DT X a tA) (hb:DW X (.BoolOp .Or (b::rest) pos) tB):DW X (.BoolOp .Or (a::b::rest) pos) (rOr tA tB) :=
 PW.mono (Wo ha hb) λσ H Q hh=>iP hh λρ P st q k=>⟨ρ,_,st,q,λc H1 hc s1=>by
  cases c with
  | false=>rw[if_neg cJ] at hc ⊢;exact⟨ρ,P,st.ext s1,hc,λd H2 hd s2=>k d H2 hd (s1.trans s2)⟩
  | true=>rw[if_pos rfl] at hc ⊢;exact k true H1 hc s1⟩
theorem DW.tst (h:DW X e tA):DT X e tA:=PW.pt h
theorem kA (ha:DT X a tA):DT X (.UnaryOp .Not a pos) (qE tA):=PT.mono (Tv ha) λσ H Q hh=>iP hh λρ P st q k=>⟨ρ,_,st,q,λc H1 hc s1=>k _ H1 hc s1⟩
def CO (ta tb:RE):RE:=λρ Q=>ta ρ λd=>match d with
 | .bl k=>if k=true then tb ρ Q else Q (.bl false)
 | _=>False
def Ub (ta tb:RE):RE:=λρ Q=>ta ρ λd=>match d with
 | .bl k=>if k=true then Q (.bl true) else tb ρ Q
 | _=>False
def Lq (ta:RE):RE:=λρ Q=>ta ρ λd=>match d with
 | .bl k=>Q (.bl (!k))
 | _=>False
theorem EK {op} (h:DE X a ta):DE X (.BoolOp op [a] pos) ta:=To h
theorem zW (ha:DE X a ta) (hb:DE X (.BoolOp .And (b::rest) pos) tb):DE X (.BoolOp .And (a::b::rest) pos) (CO ta tb) :=
 PE.mono (Tk ha hb) λσ H Q hh=>iP hh λρ P st q k=>⟨ρ,_,st,q,λd v H1 hd s1 r=>by
  cases d with
  | bl c =>
   refine⟨c,r.bl_inv,?_⟩
   cases c with
   | true=>exact⟨ρ,P,st.ext s1,hd,λd v H2 hd s2=>k d v H2 hd (s1.trans s2)⟩
   | false=>exact k (.bl false) (.bl false) H1 hd s1 (.bl false)
  | _=>exact hd.elim⟩
theorem Vg (ha:DE X a ta) (hb:DE X (.BoolOp .Or (b::rest) pos) tb):DE X (.BoolOp .Or (a::b::rest) pos) (Ub ta tb) :=
 PE.mono (Wi ha hb) λσ H Q hh=>iP hh λρ P st q k=>⟨ρ,_,st,q,λd v H1 hd s1 r=>by
  cases d with
  | bl c =>
   refine⟨c,r.bl_inv,?_⟩
   cases c with
   | true=>exact k (.bl true) (.bl true) H1 hd s1 (.bl true)
   | false=>exact⟨ρ,P,st.ext s1,hd,λd v H2 hd s2=>k d v H2 hd (s1.trans s2)⟩
  | _=>exact hd.elim⟩
theorem Sd (ha:DE X a ta):DE X (.UnaryOp .Not a pos) (Lq ta) :=
 PE.mono (Tn ha) λσ H Q hh=>iP hh λρ P st q k=>⟨ρ,_,st,q,λd v H1 hd s1 r=>by
  cases d with
  | bl c=>exact⟨c,r.bl_inv,k (.bl !c) (.bl !c) H1 hd s1 (.bl _)⟩
  | _=>exact hd.elim⟩
def rIf (t:RT) (ta tb:RE):RE:=λρ Q=>t ρ λc=>if c=true then ta ρ Q else tb ρ Q
def Vy (X:Cx) (r:D->(D->Prop)->Prop):V->Hp->VK->Prop:=λx H Q=>∃d P,RepB X.K H d x/\r d P/\∀z v H',P z->Same H H'->Rep X.K H' z v->Q v H'
def UnD (X:Cx) (f:aD->Sem aD) (r:D->(D->Prop)->Prop):Prop:=UnR X f (Vy X r)
def r1 (r:D->(D->Prop)->Prop) (ta:RE):RE:=λρ Q=>ta ρ λx=>r x Q
theorem wG {op:UnaryOp} {r:D->(D->Prop)->Prop} (ho:UnD X (unaryOp op) r) (ha:DB X a ta):DE X (.UnaryOp op a pos) (r1 r ta) :=
 PE.mono (Wj ho ha) λσ H Q hh=>iP hh λρ P st q k=>⟨ρ,_,st,q,λd v H1 hd s1 rr=>⟨d,P,rr,hd,λz v H2 hz s2 r2=>k z v H2 hz (s1.trans s2) r2⟩⟩
def aV:RA:=λ_ Q=>Q []
def aC (t:RE) (u:RA):RA:=λρ Q=>t ρ λx=>u ρ λxs=>Q (x::xs)
variable {es:List Expr} {t:RA}
theorem aS:DA X [] aV:=PA.mono NO λσ H Q hh=>iP hh λρ P st q k=>k [] [] H q (Same.refl H) .nil
theorem aB (ha:DE X e ta) (hr:DA X es t) (hs:starEach (e::es) X.env=(false,eval e X.env)::starEach es X.env:=by rfl):DA X (e::es) (aC ta t) :=
 PA.mono (xZ ha hr hs) λσ H Q hh=>iP hh λρ P st q k=>⟨ρ,_,st,q,λd v H1 hd s1 r1=>⟨ρ,_,st.ext s1,hd,λds vs H2 hds s2 r2=>k (d::ds) (v::vs) H2 hds (s1.trans s2) (.cons (r1.keep (.of s2)) r2)⟩⟩
def jP (t:RA):RE:=λρ Q=>t ρ λds=>Sz ds.length/\Q (.tup ds)
theorem fX {x1} (h:DA X es t):DE X (.Tuple es x1 pos) (jP t) :=
 PE.mono (Le h) λσ H Q hh=>iP hh λρ P st q k=>⟨ρ,_,st,q,λds vs H1 hd s1 r=>⟨by rw[<-r.length];exact hd.1.ok,λp hp=>k (.tup ds) (.ref p) _ hd.2 (Same.upd_new s1 (s1.free hp) λ_ z=>by rw[hp] at z;cases z) (by
  have sm:Same H1 (upd H1 p (.tup vs)):=Same.fn λb u e=>by rw[cT (eT e hp)];exact e
  exact .tup fK (r.keep (.of sm)))⟩⟩
def qD (t:RA):RA:=λρ Q=>t ρ λds=>Sz ds.length/\Q ds
theorem kN (h:DA X es t):DO X (.List es pos) (qD t) :=
 PE.mono (Tl h) λσ H Q hh=>iP hh λρ P st q k=>⟨ρ,_,st,q,λds vs H1 hd s1 r=>⟨by rw[<-r.length];exact hd.1.ok,λp hp=>k ds p vs H1 hd.2 s1 hp r⟩⟩
end
section
variable {X:Cx} {e a b c:Expr} {pos:Pos} {st:Stmt} {rest:List Stmt} {t u:RS} {te:RE} {tA:RT}
def dY (t u:RS):RS:=λE ρ=>t { E with nx:=u E } ρ
def iB:RS:=λE ρ=>E.nx ρ
theorem fN:DSs X [] iB:=PSs.mono Pp λDe σ H hh=>rW hh λρ E st q n r b c=>n ρ σ H q (Keep.refl H) st
theorem bF (h:DS X st t):DSs X [st] t:=Ds h
theorem aP (h1:DS X st t) (h2:DSs X rest u):DSs X (st::rest) (dY t u) :=
 PSs.mono (NS h1 h2) λDe σ H hh=>rW hh λρ E st q n r b c=>⟨ρ,_,st,q,λρ' σ' H' h k s=>⟨ρ',E,s,h,λρ2 σ2 H2 x k2=>n ρ2 σ2 H2 x (k.trans k2),λd v H2 x k2=>r d v H2 x (k.trans k2),λρ2 σ2 H2 x k2=>b ρ2 σ2 H2 x (k.trans k2),λρ2 σ2 H2 x k2=>c ρ2 σ2 H2 x (k.trans k2)⟩,r,b,c⟩
theorem Jl:DS X st (λ_ _=>False):=PS.mono Lh λDe σ H ⟨ρ,E,st,q,_⟩=>q
def fV (te:RE):RS:=λE ρ=>te ρ E.rt
theorem dG (h:DE X e te):DS X (.Return (some e) pos) (fV te) :=
 PS.mono (Li h) λDe σ H hh=>rW hh λρ E st q n r b c=>⟨ρ,_,st,q,λd v H1 hd s1 rr=>r d v H1 hd (.of s1) (st.same.trans s1) rr⟩
def Wr (te:RE):RS:=λE ρ=>te ρ λ_=>E.nx ρ
def kG (c:RT) (t u:RS):RS:=λE ρ=>c ρ λk=>if k=true then t E ρ else u E ρ
theorem jC {sa sb:List Stmt} (hc:DT X c tA) (ha:DSs X sa t) (hb:DSs X sb u):DS X (.If c sa sb pos) (kG tA t u) :=
 PS.mono (Wl hc ha hb) λDe σ H hh=>rW hh λρ E st q n r b c=>⟨ρ,_,st,q,λk H1 hk s1=>by
  cases k with
  | true=>rw[if_pos rfl] at hk ⊢;exact⟨ρ,E,st.ext s1,hk,λρ2 σ2 H2 x k2=>n ρ2 σ2 H2 x ((Keep.of s1).trans k2),λd v H2 x k2=>r d v H2 x ((Keep.of s1).trans k2),λρ2 σ2 H2 x k2=>b ρ2 σ2 H2 x ((Keep.of s1).trans k2),λρ2 σ2 H2 x k2=>c ρ2 σ2 H2 x ((Keep.of s1).trans k2)⟩
  | false=>rw[if_neg cJ] at hk ⊢;exact⟨ρ,E,st.ext s1,hk,λρ2 σ2 H2 x k2=>n ρ2 σ2 H2 x ((Keep.of s1).trans k2),λd v H2 x k2=>r d v H2 x ((Keep.of s1).trans k2),λρ2 σ2 H2 x k2=>b ρ2 σ2 H2 x ((Keep.of s1).trans k2),λρ2 σ2 H2 x k2=>c ρ2 σ2 H2 x ((Keep.of s1).trans k2)⟩⟩
def fB (i:Nat):RG:=λd ρ Q=>Q (ρ.set i (some (.d d)))
theorem fA {i:Nat} {x:Str} (hN:X.N.Nodup) (hi:X.N[i]? = some x:=by rfl) (hx:Loc X.env.scope x:=by walk_at "vis") (hf:X.fn x=true\/X.env.scope.names.lookup x=some .local:=by walk_at "loc"):DG X (.Name x pos) (fB i) :=
 PG.mono (Ph hN hi hx hf) λv σ H Q hh=>TL hh λd ρ P r st q k=>k _ _ H q (Keep.refl H) (st.set_d r)
abbrev RGs:=List D->En->(En->Prop)->Prop
def Sy (X:Cx) (g:RGs):TGs:=λvs σ H Q=>∃ds ρ P,Reps X.K H ds vs/\StOk X ρ σ H/\g ds ρ P/\∀ρ' σ' H',P ρ'->Keep H H'->StOk X ρ' σ' H'->Q σ' H'
def DGs (X:Cx) (ts:List Expr) (g:RGs):Prop:=PGs X ts (Sy X g)
theorem PGs.mono {X:Cx} {e:List Expr} {t t':TGs} (h:PGs X e t) (m:∀v σ H Q,t' v σ H Q->t v σ H Q):PGs X e t':=λpins s σ H v u Q I r q=>h pins s σ H v u Q I r (m v σ H Q q)
def rH:RGs:=λds ρ Q=>match ds with
 | []=>Q ρ
 | _=>False
def iH (g:RG) (u:RGs):RGs:=λds ρ Q=>match ds with
 | []=>False
 | d::r=>g d ρ λρ'=>u r ρ' Q
theorem oU:DGs X [] rH:=PGs.mono Pj λvs σ H Q hh=>TL hh λds ρ P r st q k=>by
 cases r with
 | nil=>exact⟨rfl,k ρ σ H q (Keep.refl H) st⟩
 | cons _ _=>exact q.elim
theorem gA {es:List Expr} {g:RG} {u:RGs} (h1:DG X e g) (h2:DGs X es u) (hs:(assignEach (e::es) X.env).map (·.2)=assign e X.env::(assignEach es X.env).map (·.2):=by rfl):DGs X (e::es) (iH g u) :=
 PGs.mono (Lf h1 h2 hs) λvs σ H Q hh=>TL hh λds ρ P r st q k=>by
  cases r with
  | nil=>exact q.elim
  | cons r rs =>
   refine⟨_,_,rfl,_,ρ,_,r,st,q,λρ' σ' H' hq k1 st1=>⟨_,ρ',P,rs.keep k1,st1,hq,λρ2 σ2 H2 p k2 s2=>k ρ2 σ2 H2 p (k1.trans k2) s2⟩⟩
def rJ (n:Nat) (g:RGs):RG:=λd ρ Q=>match d with
 | .tup ds=>ds.length=n/\g ds ρ Q
 | _=>False
theorem rV {es:List Expr} {k:Nat} {g:RGs} {n:Nat} (hc:X.calm=true) (h:DGs X es g) (hn:(assignEach es X.env).length=n:=by rfl) (hst:(assignEach es X.env).findIdx? (·.1)=none:=by rfl):DG X (.Tuple es k pos) (rJ n g) :=
 PG.mono (Tq hc h hn hst) λv σ H Q hh=>TL hh λd ρ P r st q kk=>by
  cases d with
  | tup ds =>
   cases r with
   | tup h r=>exact⟨_,_,rfl,SqT.of h,by rw[<-r.length];exact q.1,ds,ρ,P,r,st,q.2,kk⟩
  | _=>exact q.elim
def Ln (te:RE) (g:RG):RS:=λE ρ=>te ρ λd=>g d ρ E.nx
theorem ZI {tg:Expr} {g:RG} (he:DE X e te) (hg:DG X tg g) (hs:swapsWithSole [tg] e pos.line X.env=pure false:=by rfl) (hw:swappedStores [tg] e X.env=pure none:=by rfl)
  (h1:(assignEach [tg] X.env).map (·.2)=[assign tg X.env]:=by rfl):DS X (.Assign [tg] e pos) (Ln te g) :=
 PS.mono (Ts he hg hs hw h1) λDe σ H hh=>rW hh λρ E st q n r b c=>⟨ρ,_,st,q,λd v H1 hd s1 rr=>⟨d,ρ,_,rr,st.ext s1,hd,λρ2 σ2 H2 x k2 s2=>n ρ2 σ2 H2 x ((Keep.of s1).trans k2) s2⟩⟩
def eX (i:Nat) (te:RE):RS:=λE ρ=>te ρ λd=>E.nx (ρ.set i (some (.d d)))
theorem cL {i:Nat} {x:Str} {pos':Pos} (hN:X.N.Nodup) (he:DE X e te) (hi:X.N[i]? = some x:=by rfl) (hx:Loc X.env.scope x:=by walk_at "vis") (hs:swapsWith e (some (.Name x pos')) pos.line X.env=pure false:=by rfl)
  (hf:X.fn x=true\/X.env.scope.names.lookup x=some .local:=by walk_at "loc"):DS X (.Assign [.Name x pos'] e pos) (eX i te) :=
 PS.mono (Ap hN hi hx he hs hf) λDe σ H hh=>rW hh λρ E st q n r b c=>⟨ρ,_,st,q,λd v H1 hd s1 rr=>n _ _ H1 hd (.of s1) ((st.ext s1).set_d rr)⟩
def sZ (i:Nat) (t:RA):RS:=λE ρ=>t ρ λds=>E.nx (ρ.set i (some (.own ds)))
theorem xR {i:Nat} {x:Str} {pos':Pos} {t:RA} (hN:X.N.Nodup) (he:DO X e t) (hi:X.N[i]? = some x:=by rfl) (hx:Loc X.env.scope x:=by walk_at "vis") (hs:swapsWith e (some (.Name x pos')) pos.line X.env=pure false:=by rfl)
  (hf:X.fn x=true\/X.env.scope.names.lookup x=some .local:=by walk_at "loc"):DS X (.Assign [.Name x pos'] e pos) (sZ i t) :=
 PS.mono (Ap hN hi hx he hs hf) λDe σ H hh=>rW hh λρ E st q n r b c=>⟨ρ,_,st,q,λds p vs H1 hd s1 hp rr=>n _ _ _ hd ((Keep.of s1).trans (.of (.fn λb o h=>by rw[cT (eT h hp)];exact h))) ((st.ext s1).set_own hp rr)⟩
def Uc (i j:Nat) (t:RA):RS:=λE ρ=>t ρ λds=>match ds with
 | [x,y]=>E.nx ((ρ.set i (some (.d x))).set j (some (.d y)))
 | _=>False
theorem Se {i j:Nat} {x y:Str} {t:RA} {px py pt:Pos} {kt k2 pt2} (hc:X.calm=true) (hN:X.N.Nodup) (ha:DA X [a,b] t) (hi:X.N[i]? = some x:=by rfl) (hj:X.N[j]? = some y:=by rfl) (hij:i≠j:=by decide)
  (hx:X.env.scope.names.lookup x=some .local:=by rfl) (hy:X.env.scope.names.lookup y=some .local:=by rfl)
  (hw:swappedStores [.Tuple [.Name x px,.Name y py] kt pt] (.Tuple [a,b] k2 pt2) X.env=pure (some [x,y]):=by rfl)
  (hs:swapsWithSole [.Tuple [.Name x px,.Name y py] kt pt] (.Tuple [a,b] k2 pt2) pos.line X.env=pure false:=by rfl) :
  DS X (.Assign [.Tuple [.Name x px,.Name y py] kt pt] (.Tuple [a,b] k2 pt2) pos) (Uc i j t) :=
 PS.mono (Tu hc hN hi hj hij hx hy ha hw hs) λDe σ H hh=>rW hh λρ E st q n r b c=>⟨ρ,_,st,q,λds vs H1 hd s1 rr=>by
  cases rr with
  | nil=>exact hd.elim
  | cons r1 t1 =>
   cases t1 with
   | nil=>exact hd.elim
   | cons r2 t2 =>
    cases t2 with
    | nil=>exact⟨_,_,rfl,n _ _ H1 hd (.of s1) (((st.ext s1).set_d r1).set_d r2)⟩
    | cons _ _=>exact hd.elim⟩
def xU (i:Nat) (ρ:En):En:=match ρ[i]? with
 | some (some x)=>ρ.set i (some x.fz)
 | _=>ρ
theorem GH (i:Nat) (h:DS X st t):DS X st (λE ρ=>t E (xU i ρ)):=by
 intro pins s σ H De I ⟨ρ,E,so,q,n,r,b,c⟩
 have q:t E (xU i ρ):=q
 unfold xU at q
 split at q
 ·rename_i x e
  obtain⟨H2,I2,so2,kp⟩:=so.fz I e
  exact h pins s σ _ De I2 ⟨_,E,so2,q,λρ2 σ2 H2 x k2=>n ρ2 σ2 H2 x (kp.trans k2),λd v H2 x k2=>r d v H2 x (kp.trans k2),λρ2 σ2 H2 x k2=>b ρ2 σ2 H2 x (kp.trans k2),λρ2 σ2 H2 x k2=>c ρ2 σ2 H2 x (kp.trans k2)⟩
 ·exact h pins s σ H De I ⟨ρ,E,so,q,n,r,b,c⟩
def qZ (c:RT) (t:RS):Nat->RS
 | 0,_,_=>False
 | n+1,E,ρ=>c ρ λk=>if k=true then t { E with nx:=qZ c t n E,ct:=qZ c t n E,bk:=E.nx } ρ else E.nx ρ
def ES (c:RT) (t:RS):RS:=λE ρ=>∃n,qZ c t n E ρ
theorem MN {body:List Stmt} (hp:PassesOwn (model X.prog X.w) X.A X.env X.xe) (hc:DT X c tA) (hb:DSs X body t):DS X (.While c body [] pos) (ES tA t) :=
 PS.mono (Lj hp hc hb) λDe σ H hh=>rW hh λρ E st mq n r b c=>by
  obtain⟨m,q⟩:=mq
  refine⟨λm σ' H'=>∃ρ',StOk X ρ' σ' H'/\Keep H H'/\qZ tA t m E ρ',⟨m,ρ,st,Keep.refl H,q⟩,?_⟩
  rintro m σ' H' ⟨ρ',st',kp,hw⟩
  cases m with
  | zero=>exact hw.elim
  | succ m =>
   refine⟨ρ',_,st',hw,λk H1 hk s1=>?_⟩
   have kp1:=kp.trans (.of s1)
   cases k with
   | true =>
    dsimp only at hk ⊢
    rw[if_pos rfl] at hk ⊢
    refine⟨λσ2 H2=>∃ρ2,StOk X ρ2 σ2 H2/\Keep H H2/\qZ tA t m E ρ2,λσ2 H2 ⟨ρ2,a1,a2,a3⟩=>⟨m,mE m,ρ2,a1,a2,a3⟩,?_⟩
    exact⟨ρ',_,st'.ext s1,hk,λρ2 σ2 H2 x k2 s2=>⟨ρ2,s2,kp1.trans k2,x⟩,λd v H2 x k2=>r d v H2 x (kp1.trans k2),λρ2 σ2 H2 x k2=>n ρ2 σ2 H2 x (kp1.trans k2),λρ2 σ2 H2 x k2 s2=>⟨ρ2,s2,kp1.trans k2,x⟩⟩
   | false =>
    dsimp only at hk ⊢
    rw[if_neg cJ] at hk ⊢
    exact n ρ' σ' H1 hk kp1 (st'.ext s1)
def Hs (X:Cx) (J:It) (xs:List D) (H0:Hp):Prop:=∀i H,Keep H0 H ->
 (∀d,xs[i]? = some d->J.go i H/\∀x H',J.yld i H x H'->Same H H'/\Rep X.K H' d x)/\(xs.length<=i->J.stop i H)
def Vu (X:Cx) (t:RA):TI:=λσ H R=>∃ρ P,StOk X ρ σ H/\t ρ P/\∀xs J H',P xs->Same H H'->Hs X J xs H'->R J H'
def DI (X:Cx) (tg iter:Expr) (t:RA):Prop:=PI X tg iter (Vu X t)
theorem PI.mono {X:Cx} {tg e:Expr} {t t':TI} (h:PI X tg e t) (m:∀σ H Q,t' σ H Q->t σ H Q):PI X tg e t':=λpins s σ H Q I q=>h pins s σ H Q I (m σ H Q q)
def WD (g:RG) (t:RS):List D->RS
 | [],E,ρ=>E.nx ρ
 | x::xs,E,ρ=>g x ρ λρ1=>t { E with nx:=WD g t xs E,ct:=WD g t xs E,bk:=E.nx } ρ1
def oW (ti:RA) (g:RG) (t:RS):RS:=λE ρ=>ti ρ λxs=>WD g t xs E ρ
theorem mW {tg iter:Expr} {body:List Stmt} {ti:RA} {g:RG} (hp:PassesOwn (model X.prog X.w) X.A X.env X.xe) (hc:X.calm=true) (hi:DI X tg iter ti) (hg:DG X tg g) (hb:DSs X body t)
  (hs:∀x,foldedSetIterable iter X.env x=pure x:=by intro _;rfl):DS X (.For tg iter body [] pos) (oW ti g t) :=
 PS.mono (Tt hp hc hi hg hb hs) λDe σ H hh=>rW hh λρ E st q n r b c=>by
  refine⟨ρ,_,st,q,λxs J H1 hx s1 ok=>?_⟩
  refine⟨λi m σ' H'=>m=xs.length-i/\i<=xs.length/\∃ρ',StOk X ρ' σ' H'/\Keep H1 H'/\WD g t (xs.drop i) E ρ',⟨xs.length,by simp,gL _,ρ,st.ext s1,Keep.refl H1,by simpa using hx⟩,?_⟩
  rintro i m σ' H' ⟨rfl,hi,ρ',st',kp,hf⟩
  obtain⟨o1,o2⟩:=ok i H' kp
  have kp1:Keep H H':=(Keep.of s1).trans kp
  by_cases hlt:i<xs.length
  ·have e:xs.drop i=xs[i]::xs.drop (i+1):=gM hlt
   rw[e] at hf
   obtain⟨go,yl⟩:=o1 xs[i] (aF hlt)
   refine .inr ⟨go,λσ2 H2=>∃ρ2,StOk X ρ2 σ2 H2/\Keep H1 H2/\WD g t (xs.drop (i+1)) E ρ2,λσ2 H2 hh=>⟨xs.length-(i+1),by lia,rfl,hlt,hh⟩,λx H2 y=>?_⟩
   obtain⟨s2,rx⟩:=yl x H2 y
   refine⟨xs[i],ρ',_,rx,st'.ext s2,hf,λρ3 σ3 H3 h3 k3 s3=>?_⟩
   have k13:Keep H1 H3:=(kp.trans (.of s2)).trans k3
   have k03:Keep H H3:=(kp1.trans (.of s2)).trans k3
   exact⟨ρ3,_,s3,h3,λρ4 σ4 H4 x4 k4 s4=>⟨ρ4,s4,k13.trans k4,x4⟩,λd v H4 x4 k4=>r d v H4 x4 (k03.trans k4),λρ4 σ4 H4 x4 k4=>n ρ4 σ4 H4 x4 (k03.trans k4),λρ4 σ4 H4 x4 k4 s4=>⟨ρ4,s4,k13.trans k4,x4⟩⟩
  ·have e:i=xs.length:=by lia
   subst e
   rw[HN] at hf
   exact .inl ⟨o2 (bK _),n ρ' σ' H' hf kp1 st'⟩
end
section
variable {X:Cx} {tg e:Expr} {te:RE} {pos p:Pos}
def riL (te:RE):RA:=λρ Q=>te ρ λd=>match d with
 | .lst ds=>Q ds
 | _=>False
theorem mV (h:DE X e te):DI X tg e (riL te):=by
 refine PI.mono (Pk h) λσ H R hh=>iP hh λρ P st q k=>⟨ρ,_,st,q,λd v H1 hd s1 r=>?_⟩
 cases d with
 | lst ds =>
  cases r with
  | @lst a vs _ hz r =>
   refine⟨a,rfl,⟨vs,hz.sq⟩,k ds _ H1 hd s1 λi H2 kp=>⟨λd e=>?_,λhl=>⟨vs,(hz.keep kp).sq,by rw[<-r.length];exact hl⟩⟩⟩
   obtain⟨v,h1,h2⟩:=(r.keep kp).get e
   refine⟨⟨vs,v,(hz.keep kp).sq,h1⟩,λx H' y=>?_⟩
   obtain⟨e1,e2⟩:=y
   subst e1
   have e3:=e2 vs (hz.keep kp).sq
   rw[h1] at e3;cases e3
   exact⟨Same.refl _,h2⟩
 | _=>exact hd.elim
def riT (te:RE):RA:=λρ Q=>te ρ λd=>match d with
 | .tup ds=>Q ds
 | _=>False
theorem SZ (h:DE X e te):DI X tg e (riT te):=by
 refine PI.mono (Tr h) λσ H R hh=>iP hh λρ P st q k=>⟨ρ,_,st,q,λd v H1 hd s1 r=>?_⟩
 cases d with
 | tup ds =>
  cases r with
  | @tup a vs _ hz r =>
   refine⟨a,rfl,⟨vs,SqT.of hz⟩,k ds _ H1 hd s1 λi H2 kp=>⟨λd e=>?_,λhl=>⟨vs,SqT.of (kp.tups _ _ hz),by rw[<-r.length];exact hl⟩⟩⟩
   obtain⟨v,h1,h2⟩:=(r.keep kp).get e
   refine⟨⟨vs,v,SqT.of (kp.tups _ _ hz),h1⟩,λx H' y=>?_⟩
   obtain⟨e1,e2⟩:=y
   subst e1
   have e3:=e2 vs (SqT.of (kp.tups _ _ hz))
   rw[h1] at e3;cases e3
   exact⟨Same.refl _,h2⟩
 | _=>exact hd.elim
def sS (lo:Int) (n:Nat):List D:=(dM n).map λk:Nat=>D.int (lo+(k:Int))
theorem Sr {H0:Hp} (lo:Int) (n:Nat):Hs X (Itr lo n) (sS lo n) H0:=λi H kp=>by
 refine⟨λd e=>?_,λhl=>by show n<=i;simpa [sS] using hl⟩
 unfold sS at e
 rw[bJ] at e
 by_cases hi:i<n
 ·rw[sV hi] at e
  cases e
  exact⟨hi,λx H' y=>by obtain⟨rfl,rfl⟩:=y;exact⟨Same.refl _,.int _⟩⟩
 ·rw[gR (by simpa using hi)] at e;cases e
structure RngOk (j:Int):Prop where
 lo:-(2 ^ 62)<=j
 hi:j<2 ^ 62
def OE (t:RA):RA:=λρ Q=>t ρ λds=>match ds with
 | [.int j]=>RngOk j/\Q (sS 0 j.toNat)
 | _=>False
def Yy (t:RA):RA:=λρ Q=>t ρ λds=>match ds with
 | [.int i,.int j]=>(RngOk i/\RngOk j)/\Q (sS i (j-i).toNat)
 | _=>False
theorem wH {a:Expr} {t:RA} (hm:X.mg "range" = none) (ha:DA X [a] t) (hg:Gl X "range":=by rfl) (hs:starEach [a] X.env=[(false,eval a X.env)]:=by rfl):DI X tg (.Call (.Name "range" p) [a] [] pos) (OE t):=by
 refine PI.mono (Gn hg hm ha hs) λσ H R hh=>iP hh λρ P st q k=>⟨ρ,_,st,q,λds vs H1 hd s1 r=>?_⟩
 split at hd
 ·rename_i j
  rw[Reps.ints_inv (ns:=[j]) r]
  exact⟨j,rfl,hd.1.lo,hd.1.hi,k _ _ H1 hd.2 s1 (Sr 0 _)⟩
 ·exact hd.elim
end
abbrev FD:=List D->(D->Prop)->Prop
def spD (K:aH) (F:FD):Sp:=λvs H Q _=>TabsIn K H/\∃ds P,Reps K H ds vs/\F ds P/\∀d v H',P d->Same H H'->Rep K H' d v->Q v H'
def cV (F:FD) (t:RA):RE:=λρ Q=>t ρ λds=>F ds Q
section
variable {X:Cx} {k:Nat} {f:Addr} {fd:lY} {ps:List Str} {F:FD} {x:Str} {p pos:Pos} {e:Expr} {es:List Expr} {t:RA}
theorem Nl (G:FnOk X.prog X.w X.K X.mg X.base CX0 k f fd ps (spD X.K F)) (hr:Room k X.A) (hm:X.mg x=some (.ref f)) (hk:mG X.K (.ref f)=true) (hb:Binds X.K fd ps []) (ha:DA X (e::es) t) (hg:Gl X x:=by rfl)
  (hdb:(x == ("__debug__":Str))=false:=by decide) (he:starEach (e::es) X.env=(false,eval e X.env)::starEach es X.env:=by rfl) (hpl:(backTo pos (starEach es X.env)).any (·.1)=false:=by rfl) :
  DE X (.Call (.Name x p) (e::es) [] pos) (cV F t) :=
 PE.mono (Do (E:=E0) G hr hg hm hk hb .nil Rs ha hdb he hpl) λσ H Q hh=>iP hh λρ P st q kk=>⟨ρ,_,st,q,λds vs H1 hd s1 r=>by
  show spD X.K F (vs++[]) H1 Q E0
  rw[eV]
  exact⟨(st.ext s1).tabs,ds,P,r,hd,λd v H2 hp s2 r2=>kk d v H2 hp (s1.trans s2) r2⟩⟩
end
def dW (N:List Str) (ds:List D):En:=ds.map (λd=>some (.d d))++eM (N.length-ds.length) none
section
variable {P:bV} {w:dE} {K:aH} {mg:Str->Option aD} {base:Heap}
theorem OL {X:Cx} {N:List Str} {ds:List D} {vs:List V} (tb:TabsIn X.K X.H₀) (r:Reps X.K X.H₀ ds vs):StOk X (dW N ds) (start N vs) X.H₀:=by
 have hl:=r.length
 have own:∀(i:Nat) (x:S),(dW N ds)[i]? = some (some x)->∃d,x = .d d:=λi x e=>by
  unfold dW at e
  by_cases hi:i<ds.length
  ·rw[cO (by simpa using hi),bJ,aF hi] at e
   cases e;exact⟨_,rfl⟩
  ·rw[cW (by simpa using hi),iT] at e
   split at e <;> cases e
 refine⟨by simp[dW,start,hl],Same.refl _,λi x e=>?_,λi j x y v u a e1 _ _ _ o _=>by
  obtain⟨d,rfl⟩:=own i x e1
  exact o.elim,tb⟩
 unfold dW at e
 by_cases hi:i<ds.length
 ·rw[cO (by simpa using hi),bJ,aF hi] at e
  cases e
  obtain⟨v,h1,h2⟩:=r.get (aF hi)
  refine⟨v,?_,h2⟩
  unfold start
  rw[cO (by simpa [<-hl] using hi),bJ,h1];rfl
 ·rw[cW (by simpa using hi),iT] at e
  split at e <;> cases e
theorem Vm {x qual:Str} {st:Stmt} {f:Addr} {fd:lY} {N ps:List Str} {k:Nat} {F:FD} {t:RS} (Fu:Fun K x qual st f fd) (Sc:FnScope N ps (fZ st))
  (hbody:∀(cdv:aD) (A:dF) (outer:List Env) (s:aG) (H:Hp) (E:XK),Room k (A.deeper (envOfC qual (fZ st) s.heap.objs.size f cdv)) ->
   DSs (BU CX0 P w K mg base N qual (fZ st) f cdv A outer s H E).nox (qS st) t)
  (len:∀ds Q,F ds Q->ds.length=ps.length) (pure:∀ds Q,F ds Q->t { nx:=λ_=>Q .non,rt:=Q } (dW N ds)):FnOk P w K mg base CX0 (k+1) f fd ps (spD K F):=by
 refine Fu.ok Sc (λvs H Q E ⟨_,ds,P,r,h,_⟩=>by rw[<-r.length];exact len ds P h) λcdv A outer s H vs Q E hr ⟨tb,ds,P',r,h,kk⟩=>⟨_,hbody cdv A outer s H E hr,?_⟩
 exact⟨dW N ds,_,OL (X:=(BU CX0 P w K mg base N qual (fZ st) f cdv A outer s H E).nox) tb r,pure ds P' h,λρ' σ' H' hq k s'=>kk .non .non H' hq s'.same .non,λd v H' hq k sm rv=>kk d v H' hq sm rv,λ_ _ _ z=>z.elim,λ_ _ _ z=>z.elim⟩
end
def BL (n:Nat) (i:Int):Prop:=i.natAbs<2 ^ n
theorem BL.bits {n:Nat} {i:Int} (h:BL n i):BO i<=n:=MX.mpr h
theorem BL.of {n:Nat} {i:Int} (h:BO i<=n):BL n i:=MX.mp h
theorem BL.mono {m n:Nat} {i:Int} (h:BL m i) (l:m<=n):BL n i:=BL.of (fO h.bits l)
theorem BL.add {m n:Nat} {i j:Int} (a:BL m i) (b:BL n j):BL (max m n+1) (i+j):=BL.of (intBits_add_le a.bits b.bits)
theorem BL.sub {m n:Nat} {i j:Int} (a:BL m i) (b:BL n j):BL (max m n+1) (i-j):=BL.of (intBits_sub_le a.bits b.bits)
theorem BL.mul {m n:Nat} {i j:Int} (a:BL m i) (b:BL n j):BL (m+n) (i*j):=BL.of (intBits_mul_le a.bits b.bits)
theorem BL.neg {m:Nat} {i:Int} (a:BL m i):BL m (-i):=BL.of (intBits_neg_le a.bits)
theorem BL.fdiv {m:Nat} {i j:Int} (a:BL m i):BL m (i.fdiv j):=BL.of (intBits_fdiv_le a.bits)
theorem BL.le {m:Nat} {i j:Int} (a:BL m j) (h:i.natAbs<=j.natAbs):BL m i:=DZ h a
theorem BL.of_lt {m:Nat} {i:Int} (h1:-(2 ^ m:Nat)<i) (h2:i<(2 ^ m:Nat)):BL m i:=by unfold BL;lia
theorem BL.intMulOk {m n:Nat} {i j:Int} (a:BL m i) (b:BL n j) (h:m+n<=134217728):IntMulOk i j:=IntMulOk.of_le a.bits b.bits h
theorem BL.noPy {i j:Int} (h:BL 9000 j):mY i j=false:=by
 refine PyProof.noPylong_of_log2 ?_
 by_cases h0:j.natAbs=0
 ·rw[h0];decide +kernel
 ·exact (Nat.log2_lt h0).mpr h
section
variable {X:Cx} {e a b c:Expr} {pos:Pos}
theorem RepB.int_inv {K:aH} {H:Hp} {i:Int} {v:V} (h:RepB K H (.int i) v):v = .int i:=by
 rcases h with h | ⟨ds,a,vs,e1,_⟩
 ·exact h.int_inv
 ·cases e1
theorem RepB.bl_inv {K:aH} {H:Hp} {i:Bool} {v:V} (h:RepB K H (.bl i) v):v = .bl i:=by
 rcases h with h | ⟨ds,a,vs,e1,_⟩
 ·exact h.bl_inv
 ·cases e1
theorem RepB.non_inv {K:aH} {H:Hp} {v:V} (h:RepB K H .non v):v = .non:=by
 rcases h with h | ⟨ds,a,vs,e1,_⟩
 ·cases h;rfl
 ·cases e1
theorem RepB.is_non {K:aH} {H:Hp} {d:D} {v:V} (h:RepB K H d v):decide (v = .non)=(match d with | .non=>true | _=>false):=by
 rcases h with h | ⟨ds,a,vs,e1,e2,_⟩
 ·cases h <;> simp
 ·subst e1 e2;simp
structure MulOk (i j:Int):Prop where
 ok:IntMulOk i j
structure DivOk (i j:Int):Prop where
 nz:j≠0
 np:mY i j=false
structure ModOk (j:Int):Prop where
 nz:j≠0
structure PowOk (i j:Int):Prop where
 ok:0<=j/\j<=1000000/\i.natAbs<2 ^ 64
theorem BL.mulOk {m n:Nat} {i j:Int} (a:BL m i) (b:BL n j) (h:m+n<=134217728:=by decide):MulOk i j:=⟨a.intMulOk b h⟩
theorem BL.divOk {i j:Int} (h:BL 9000 j) (nz:j≠0):DivOk i j:=⟨nz,h.noPy⟩
def mH:R22:=λx y Q=>match x,y with
 | .int i,.int j=>Q (.int (i+j))
 | _,_=>False
def kT:R22:=λx y Q=>match x,y with
 | .int i,.int j=>Q (.int (i-j))
 | _,_=>False
def eJ:R22:=λx y Q=>match x,y with
 | .int i,.int j=>MulOk i j/\Q (.int (i*j))
 | _,_=>False
def jW:R22:=λx y Q=>match x,y with
 | .int i,.int j=>DivOk i j/\Q (.int (i.fdiv j))
 | _,_=>False
def pF:R22:=λx y Q=>match x,y with
 | .int i,.int j=>ModOk j/\Q (.int (i.fmod j))
 | _,_=>False
def VR:R22:=λx y Q=>match x,y with
 | .int i,.int j=>PowOk i j/\Q (.int (i ^ j.toNat))
 | _,_=>False
theorem Gj {f:aD->aD->Sem aD} {C:Int->Int->Prop} {g:Int->Int->Int} {r:R22} (h:OpR X f (rI C λi j=>.int (g i j)))
  (hr:∀x y Q,r x y Q->∃i j,x = .int i/\y = .int j/\C i j/\Q (.int (g i j))):OpD X f r:=by
 intro pins s σ H x y v u Q I rx ry hh_0
 obtain⟨d,e,P,r1,r2,q,k⟩:=hh_0
 obtain⟨i,j,rfl,rfl,hc,q⟩:=hr _ _ _ q
 exact h pins s σ H x y v u Q I rx ry ⟨i,j,r1.int_inv,r2.int_inv,hc,k _ _ H q (Same.refl H) (.int _)⟩
theorem hE:OpD X (binaryOp .Add) mH:=Gj (C:=λ_ _=>True) (g:=λi j=>i+j) (opI λ_ _ _ _ _ _ _ _ q=>add_int q) λx y Q q=>by
 unfold mH at q;split at q
 ·exact⟨_,_,rfl,rfl,trivial,q⟩
 ·exact q.elim
theorem gT:OpD X (binaryOp .Sub) kT:=Gj (C:=λ_ _=>True) (g:=λi j=>i-j) (opI λ_ _ _ _ _ _ _ _ q=>sub_int q) λx y Q q=>by
 unfold kT at q;split at q
 ·exact⟨_,_,rfl,rfl,trivial,q⟩
 ·exact q.elim
theorem bO:OpD X (binaryOp .Mult) eJ:=Gj (C:=λi j=>IntMulOk i j) (g:=λi j=>i*j) (opI λ_ _ _ _ _ _ _ hc q=>mul_int q hc) λx y Q q=>by
 unfold eJ at q;split at q
 ·exact⟨_,_,rfl,rfl,q.1.ok,q.2⟩
 ·exact q.elim
theorem gW:OpD X (binaryOp .FloorDiv) jW:=Gj (C:=λi j=>j≠0/\mY i j=false) (g:=λi j=>i.fdiv j) (opI λ_ _ _ _ _ _ _ hc q=>floordiv_int hc.1 q (.inl hc.2)) λx y Q q=>by
 unfold jW at q;split at q
 ·exact⟨_,_,rfl,rfl,⟨q.1.nz,q.1.np⟩,q.2⟩
 ·exact q.elim
theorem jU:OpD X (binaryOp .Mod) pF:=Gj (C:=λ_ j=>j≠0) (g:=λi j=>i.fmod j) (opI λ_ _ _ _ _ _ _ hc q=>mod_int' hc q) λx y Q q=>by
 unfold pF at q;split at q
 ·exact⟨_,_,rfl,rfl,q.1.nz,q.2⟩
 ·exact q.elim
theorem UB:OpD X (binaryOp .Pow) VR:=Gj (C:=λi j=>0<=j/\j<=1000000/\i.natAbs<2 ^ 64) (g:=λi j=>i ^ j.toNat) (opI λ_ _ _ _ _ _ _ hc q=>pow_int_small hc.1 hc.2.1 hc.2.2 q) λx y Q q=>by
 unfold VR at q;split at q
 ·exact⟨_,_,rfl,rfl,q.1.ok,q.2⟩
 ·exact q.elim
def wF:D->(D->Prop)->Prop:=λx Q=>match x with
 | .int i=>Q (.int (-i))
 | _=>False
theorem sD:UnD X (unaryOp .USub) wF:=by
 intro pins s σ H x v Q I rx hh_0
 obtain⟨d,P,r,q,k⟩:=hh_0
 unfold wF at q;split at q
 ·rename_i i
  exact Ut pins s σ H x v Q I rx ⟨i,r.int_inv,k _ _ H q (Same.refl H) (.int _)⟩
 ·exact q.elim
def nG (p:Int->Int->Bool):R22:=λx y Q=>match x,y with
 | .int i,.int j=>Q (.bl (p i j))
 | _,_=>False
theorem Pb {f:aD->aD->Sem aD} {p:Int->Int->Bool} (h:OpR X f (rI0 λi j=>.bl (p i j))):OpD X f (nG p):=by
 intro pins s σ H x y v u Q I rx ry hh_0
 obtain⟨d,e,P,r1,r2,q,k⟩:=hh_0
 unfold nG at q;split at q
 ·rename_i i j
  exact h pins s σ H x y v u Q I rx ry ⟨i,j,r1.int_inv,r2.int_inv,k _ _ H q (Same.refl H) (.bl _)⟩
 ·exact q.elim
theorem AJ:OpD X (compareOp .Lt) (nG λi j=>decide (i<j)):=Pb Wf
theorem Di:OpD X (compareOp .LtE) (nG λi j=>decide (i<=j)):=Pb We
theorem NJ:OpD X (compareOp .Gt) (nG λi j=>decide (j<i)):=Pb Wd
theorem Wb:OpD X (compareOp .GtE) (nG λi j=>decide (j<=i)):=Pb Wc
def pV (neg:Bool):R22:=λx y Q=>match x,y with
 | .int i,.int j=>Q (.bl (if neg then !decide (i=j) else decide (i=j)))
 | .bl i,.bl j=>Q (.bl (if neg then !decide (i=j) else decide (i=j)))
 | _,_=>False
theorem qW:OpD X (compareOp .Eq) (pV false):=by
 intro pins s σ H x y v u Q I rx ry hh_0
 obtain⟨d,e,P,r1,r2,q,k⟩:=hh_0
 unfold pV at q;split at q
 ·rename_i i j
  rw[r1.int_inv] at rx;rw[r2.int_inv] at ry
  exact Rq pins s σ H _ _ v u Q I rx ry ⟨rfl,by
   have e:decide (V.int i=V.int j)=decide (i=j):=by simp
   rw[e];exact k _ _ H q (Same.refl H) (.bl _)⟩
 ·rename_i i j
  rw[r1.bl_inv] at rx;rw[r2.bl_inv] at ry
  exact Rq pins s σ H _ _ v u Q I rx ry ⟨rfl,by
   have e:decide (V.bl i=V.bl j)=decide (i=j):=by simp
   rw[e];exact k _ _ H q (Same.refl H) (.bl _)⟩
 ·exact q.elim
theorem xY:OpD X (compareOp .NotEq) (pV true):=by
 intro pins s σ H x y v u Q I rx ry hh_0
 obtain⟨d,e,P,r1,r2,q,k⟩:=hh_0
 unfold pV at q;split at q
 ·rename_i i j
  rw[r1.int_inv] at rx;rw[r2.int_inv] at ry
  exact Rr pins s σ H _ _ v u Q I rx ry ⟨rfl,by
   have e:decide (V.int i=V.int j)=decide (i=j):=by simp
   rw[e];exact k _ _ H q (Same.refl H) (.bl _)⟩
 ·rename_i i j
  rw[r1.bl_inv] at rx;rw[r2.bl_inv] at ry
  exact Rr pins s σ H _ _ v u Q I rx ry ⟨rfl,by
   have e:decide (V.bl i=V.bl j)=decide (i=j):=by simp
   rw[e];exact k _ _ H q (Same.refl H) (.bl _)⟩
 ·exact q.elim
def RH:D->Bool
 | .non=>true
 | _=>false
def KC (neg:Bool):R22:=λx y Q=>match y with
 | .non=>Q (.bl (if neg then !RH x else RH x))
 | _=>False
theorem WJ {K:aH} {H:Hp} {d:D} {v:V} (h:RepB K H d v):decide (v = .non)=RH d:=by
 rw[h.is_non];cases d <;> rfl
theorem Ak:OpD X (compareOp .Is) (KC false):=by
 intro pins s σ H x y v u Q I rx ry hh_0
 obtain⟨d,e,P,r1,r2,q,k⟩:=hh_0
 unfold KC at q;split at q
 ·exact Ti pins s σ H x y v u Q I rx ry ⟨r2.non_inv,by rw[WJ r1];exact k _ _ H q (Same.refl H) (.bl _)⟩
 ·exact q.elim
theorem Dj:OpD X (compareOp .IsNot) (KC true):=by
 intro pins s σ H x y v u Q I rx ry hh_0
 obtain⟨d,e,P,r1,r2,q,k⟩:=hh_0
 unfold KC at q;split at q
 ·exact Pe pins s σ H x y v u Q I rx ry ⟨r2.non_inv,by rw[WJ r1];exact k _ _ H q (Same.refl H) (.bl _)⟩
 ·exact q.elim
def dIx:R22:=λx y Q=>match x,y with
 | .lst ds,.int i=>match atI ds i with
  | some d=>Q d
  | none=>False
 | .tup ds,.int i=>match atI ds i with
  | some d=>Q d
  | none=>False
 | _,_=>False
theorem VA {K:aH} {H:Hp} {ds:List D} {vs:List V} {i:Int} {d:D} (r:Reps K H ds vs) (h:atI ds i=some d):∃v,atI vs i=some v/\Rep K H d v:=by
 unfold atI at h ⊢
 rw[<-r.length]
 cases e:ixN ds.length i with
 | none=>rw[e] at h;cases h
 | some j =>
  rw[e] at h
  exact r.get h
theorem aO {ta tb:RE} (ha:DB X a ta) (hb:DB X b tb) (hs:Cc b:=by intro _ _;rfl):DE X (.Subscript a b pos) (r2 dIx ta tb):=by
 refine PE.mono (Ld (Oc.or ZN) ha hb hs) λσ H Q h=>?_
 obtain⟨ρ,P,st,ht,hP⟩:=h
 refine⟨ρ,_,st,ht,λx v H1 h1 s1 r1=>⟨ρ,_,st.ext s1,h1,λy u H2 h2 s2 r2=>?_⟩⟩
 have r1':=r1.same s2
 unfold dIx at h2;split at h2
 ·rename_i ds i
  split at h2
  ·rename_i d e
   obtain⟨p,vs,rfl,hq,rr⟩:=r1'.lst
   obtain⟨w',e',rw'⟩:=VA rr e
   exact .inl ⟨p,vs,i,w',rfl,r2.int_inv,hq,e',hP d w' H2 h2 (s1.trans s2) rw'⟩
  ·exact h2.elim
 ·rename_i ds i
  split at h2
  ·rename_i d e
   obtain⟨p,vs,rfl,hq,rr⟩:=r1'.tup
   obtain⟨w',e',rw'⟩:=VA rr e
   exact .inr ⟨p,vs,i,w',rfl,r2.int_inv,SqT.of hq,e',hP d w' H2 h2 (s1.trans s2) rw'⟩
  ·exact h2.elim
 ·exact h2.elim
abbrev RO:=En->(Option Int->Prop)->Prop
def Vx (X:Cx) (t:RO):TO:=λσ H Q=>∃ρ P,StOk X ρ σ H/\t ρ P/\∀o H',P o->Same H H'->Q o H'
def DP (X:Cx) (e:Option Expr) (t:RO):Prop:=PO X e (Vx X t)
def qX:RO:=λ_ Q=>Q none
def AM (t:RE):RO:=λρ Q=>t ρ λd=>match d with
 | .int i=>Q (some i)
 | _=>False
theorem BF:DP X none qX:=λpins s σ H Q I hh=>iP hh λρ P st q k=>Pn pins s σ H Q I (k none H q (Same.refl H))
theorem BG {t:RE} (h:DE X e t):DP X (some e) (AM t):=λpins s σ H Q I hh=>iP hh λρ P st q k=>Po h pins s σ H Q I ⟨ρ,_,st,q,λd v H1 hd s1 r=>by
 cases d with
 | int i=>exact⟨i,r.int_inv,k (some i) H1 hd s1⟩
 | _=>exact hd.elim⟩
def cutD (xs:List D) (lo hi:Option Int):List D:=(xs.drop (HT.sIx xs.length 0 lo)).take (HT.sIx xs.length xs.length hi-HT.sIx xs.length 0 lo)
def Dw (te:RE) (tl th:RO):RA:=λρ Q=>te ρ λx=>tl ρ λl=>th ρ λu=>match x with
 | .lst ds=>Q (cutD ds l u)
 | _=>False
theorem Jk {lo hi:Option Expr} {te:RE} {tl th:RO} {p2:Pos} (he:DB X e te) (hl:DP X lo tl) (hu:DP X hi th):DO X (.Subscript e (.Slice lo hi none p2) pos) (Dw te tl th):=by
 refine PE.mono (XH Ea he hl hu) λσ H Q hh=>iP hh λρ P st q k=>?_
 refine⟨ρ,_,st,q,λd v H1 hd s1 r1=>⟨ρ,_,st.ext s1,hd,λl H2 h2 s2=>⟨ρ,_,(st.ext s1).ext s2,h2,λu H3 h3 s3=>?_⟩⟩⟩
 cases d with
 | lst ds =>
  obtain⟨p,vs,rfl,hq,rr⟩:=(r1.same (s2.trans s3)).lst
  refine⟨p,vs,rfl,hq,λp' hp'=>k (cutD ds l u) p' (PJ vs l u) H3 h3 ((s1.trans s2).trans s3) hp' ?_⟩
  unfold cutD PJ
  rw[<-rr.length]
  exact (rr.drop _).take _
 | _=>exact h3.elim
def Sx (X:Cx) (r:List D->(D->Prop)->Prop):List V->Hp->VK->Prop:=λxs H Q=>∃ds P,Reps X.K H ds xs/\r ds P/\∀z v H',P z->Same H H'->Rep X.K H' z v->Q v H'
def Bu (X:Cx) (f:aD) (r:List D->(D->Prop)->Prop):Prop:=yF X f (Sx X r)
def rCB (r:List D->(D->Prop)->Prop) (t:RA):RE:=λρ Q=>t ρ λds=>r ds Q
variable {x:Str} {p:Pos} {es:List Expr} {t:RA} {id T:String} {r:List D->(D->Prop)->Prop}
theorem uM (hc:Bu X (.builtin id) r) (hm:X.mg x=none) (hv:bootBuiltins x=some (.builtin id)) (ha:DA X (e::es) t) (hg:Gl X x:=by rfl) (hn:x≠"__name__":=by decide) (hdb:(x == ("__debug__":Str))=false:=by decide)
  (he:starEach (e::es) X.env=(false,eval e X.env)::starEach es X.env:=by rfl) (hpl:(backTo pos (starEach es X.env)).any (·.1)=false:=by rfl):DE X (.Call (.Name x p) (e::es) [] pos) (rCB r t) :=
 PE.mono (wM hc hg hm hv ha hn hdb he hpl) λσ H Q hh=>iP hh λρ P st q k=>⟨ρ,_,st,q,λds vs H1 hd s1 rr=>⟨ds,P,rr,hd,λz v H2 hz s2 r2=>k z v H2 hz (s1.trans s2) r2⟩⟩
theorem QY (hc:Bu X (.type T) r) (hm:X.mg x=none) (hv:bootBuiltins x=some (.type T)) (ha:DA X (e::es) t) (hg:Gl X x:=by rfl) (hn:x≠"__name__":=by decide) (hdb:(x == ("__debug__":Str))=false:=by decide)
  (he:starEach (e::es) X.env=(false,eval e X.env)::starEach es X.env:=by rfl) (hpl:(backTo pos (starEach es X.env)).any (·.1)=false:=by rfl):DE X (.Call (.Name x p) (e::es) [] pos) (rCB r t) :=
 PE.mono (IR hc hg hm hv ha hn hdb he hpl) λσ H Q hh=>iP hh λρ P st q k=>⟨ρ,_,st,q,λds vs H1 hd s1 rr=>⟨ds,P,rr,hd,λz v H2 hz s2 r2=>k z v H2 hz (s1.trans s2) r2⟩⟩
def PK:List D->(D->Prop)->Prop:=λds Q=>match ds with
 | [.int i]=>Q (.int (if i<0 then -i else i))
 | _=>False
theorem EJ:Bu X (.builtin "abs") PK:=by
 intro pins s σ H xs us Q I rv hh_0
 obtain⟨ds,P,r,q,k⟩:=hh_0
 unfold PK at q;split at q
 ·rename_i i
  cases r with
  | cons r1 r2 =>
   cases r2
   rw[r1.int_inv] at rv
   exact Ih pins s σ H _ us Q I rv ⟨i,rfl,k _ _ H q (Same.refl H) (.int _)⟩
 ·exact q.elim
def Iu:List D->(D->Prop)->Prop:=λds Q=>match ds with
 | [.bl b]=>Q (.int (if b then 1 else 0))
 | [.int i]=>Q (.int i)
 | _=>False
theorem Ii:Bu X (.type "int") Iu:=by
 intro pins s σ H xs us Q I rv hh_0
 obtain⟨ds,P,r,q,k⟩:=hh_0
 unfold Iu at q;split at q
 ·rename_i i
  cases r with
  | cons r1 r2 =>
   cases r2
   rw[r1.bl_inv] at rv
   exact QS pins s σ H _ us Q I rv (.inr ⟨i,rfl,k _ _ H q (Same.refl H) (.int _)⟩)
 ·rename_i i
  cases r with
  | cons r1 r2 =>
   cases r2
   rw[r1.int_inv] at rv
   exact QS pins s σ H _ us Q I rv (.inl ⟨i,rfl,k _ _ H q (Same.refl H) (.int _)⟩)
 ·exact q.elim
def Vd:List D->(D->Prop)->Prop:=λds Q=>match ds with
 | [.int i,.int j]=>Q (.int (if j > i then j else i))
 | _=>False
def Ve:List D->(D->Prop)->Prop:=λds Q=>match ds with
 | [.int i,.int j]=>Q (.int (if j<i then j else i))
 | _=>False
def rT:D->(D->Prop)->Prop:=λd Q=>match d with
 | .lst ds=>Q (.int ds.length)
 | .tup ds=>Q (.int ds.length)
 | _=>False
theorem vS {t:TE} (h:PE X e t) (hs:starEach [e] X.env=[(false,eval e X.env)]:=by rfl) (hn:starEach [] X.env=[]:=by rfl):PA X [e] (λσ H Q=>t σ H λv H'=>Q [v] H') :=
 PA.mono (xZ h NO (by rw[hs,hn])) λσ H Q q=>q
theorem nN {te:RE} (hm:X.mg "len" = none) (h:DB X e te) (hg:Gl X "len":=by rfl) (hs:starEach [e] X.env=[(false,eval e X.env)]:=by rfl) (hn:starEach [] X.env=[]:=by rfl):DE X (.Call (.Name "len" p) [e] [] pos) (r1 rT te):=by
 refine PE.mono (wM SW hg hm PySem.boot_len (vS h hs hn) (by decide) (by decide) (by rw[hs,hn]) (by rw[hn];rfl)) λσ H Q hh=>iP hh λρ P st q k=>⟨ρ,_,st,q,λd v H1 hd s1 r=>?_⟩
 unfold rT at hd;split at hd
 ·obtain⟨p,vs,rfl,hq,rr⟩:=r.lst
  exact⟨p,vs,rfl,.inl hq,by rw[<-rr.length];exact k _ _ H1 hd s1 (.int _)⟩
 ·obtain⟨p,vs,rfl,hq,rr⟩:=r.tup
  exact⟨p,vs,rfl,.inr (SqT.of hq),by rw[<-rr.length];exact k _ _ H1 hd s1 (.int _)⟩
 ·exact hd.elim
end
section
variable {X:Cx} {pins:List (Addr × Obj)} {σ:St} {H:Hp} {s:aG} {h':Heap}
end
def Vi (ds:List D):List D:=ds.zipIdx.map λp=>D.tup [.int (p.2:Int),p.1]
section
variable {X:Cx} {e:Expr} {te:RE} {pos p:Pos} {elts:List Expr} {k:Nat} {tp:Pos}
def Yw (te:RE):RA:=λρ Q=>te ρ λd=>match d with
 | .lst ds=>Q (Vi ds)
 | _=>False
end
def WK (T:String):D->Option Bool
 | .non=>some (T == "NoneType")
 | .bl _=>some (T == "bool" || T == "int")
 | .int _=>some (T == "int")
 | .str _=>some (T == "str")
 | .tup _=>some (T == "tuple")
 | .lst _=>some (T == "list")
 | .dct _ _=>none
 | .dtt _ _=>none
def BV (T:String):D->(D->Prop)->Prop:=λd Q=>match WK T d with
 | some b=>Q (.bl b)
 | none=>False
structure TyTab (K:aH) (T:String):Prop where
 non:kR K (.type "NoneType") (.type T)=some (T == "NoneType")
 bl:kR K (.type "bool") (.type T)=some (T == "bool" || T == "int")
 int:kR K (.type "int") (.type T)=some (T == "int")
 str:kR K (.type "str") (.type T)=some (T == "str")
 tup:kR K (.type "tuple") (.type T)=some (T == "tuple")
 lst:kR K (.type "list") (.type T)=some (T == "list")
section
variable {X:Cx} {e:Expr} {te:RE} {pos p p2:Pos} {T:String} {x:Str}
theorem uN (tab:TyTab X.K T) (hm:X.mg "isinstance" = none) (hT:X.mg x=none) (hb:bootBuiltins x=some (.type T)) (h:DE X e te) (hg:Gl X "isinstance":=by rfl) (hgT:Gl X x:=by rfl) (hn:x≠"__name__":=by decide) (hd:(x == ("__debug__":Str))=false:=by decide)
  (hs:starEach [e,.Name x p2] X.env=(false,eval e X.env)::starEach [.Name x p2] X.env:=by rfl) (hs2:starEach [.Name x p2] X.env=(false,eval (.Name x p2) X.env)::starEach [] X.env:=by rfl) (hpl:(backTo pos (starEach [.Name x p2] X.env)).any (·.1)=false:=by rfl) :
  DE X (.Call (.Name "isinstance" p) [e,.Name x p2] [] pos) (r1 (BV T) te):=by
 have hc:yF X (.builtin "isinstance") (λxs H Q=>∃d v P,xs=[v,.ty T]/\Rep X.K H d v/\BV T d P/\∀b,P (.bl b)->Q (.bl b) H):=by
  intro pins s σ H xs us Q I r hh_0
  obtain⟨d,v,P,ex,rd,q,k⟩:=hh_0
  subst ex
  obtain⟨u,w',rfl,r1,r2⟩:=vals2 r
  cases r2
  unfold BV at q
  split at q
  ·rename_i b eb
   have fin:∀{t:aD},TyOf X.K H v t->kR X.K t (.type T)=some b->wpAny (model X.prog X.w) X.A (call (.builtin "isinstance") [u,.type T]) (EP X pins σ Q) X.xe s:=λty e=>Fa I r1 ty e λtk=>⟨.bl b,H,I.tok tk,rfl,k b q⟩
   cases rd with
   | non=>cases eb;exact fin .non tab.non
   | bl _=>cases eb;exact fin (.bl _) tab.bl
   | int _=>cases eb;exact fin (.int _) tab.int
   | str _=>cases eb;exact fin (.str _) tab.str
   | tup h _=>cases eb;exact fin (.tup h) tab.tup
   | @lst a vs _ h _ =>
    cases eb
    rcases h with ⟨o,h⟩ | ⟨o,its,n,hk,hc,_⟩
    ·exact fin (.frz h) tab.lst
    ·cases (show u=fP a from r1)
     exact gO uX I.kIn ⟨o,I.kIn a o hk,hc⟩ tab.lst (λz=>nomatch z) λtk=>⟨.bl _,H,I.tok tk,rfl,k _ q⟩
   | dct _ _ _=>cases eb
   | dtt _ _ _=>cases eb
  ·exact q.elim
 refine PE.mono (wM hc hg hm PyProof.Rows.boot_isinstance (xZ h (xZ (Pf (v:=.ty T) hgT hT hb rfl hn hd) NO hs2) hs) (by decide) (by decide) hs hpl) λσ H Q hh=>iP hh λρ P st q k=>?_
 refine⟨ρ,_,st,q,λd v H1 hd s1 r=>⟨d,v,P,rfl,r,hd,λb hb=>k _ _ H1 hb s1 (.bl b)⟩⟩
end
theorem rS:bootBuiltins "abs" = some (.builtin "abs"):=by decide +kernel
theorem IC:bootBuiltins "int" = some (.type "int"):=by decide +kernel
theorem YZ:bootBuiltins "bool" = some (.type "bool"):=by decide +kernel
theorem mI:bootBuiltins "tuple" = some (.type "tuple"):=by decide +kernel
theorem ZA:bootBuiltins "list" = some (.type "list"):=by decide +kernel
theorem Qj (K:aH):TyTab K "int":=⟨by rfl,by rfl,by rfl,by rfl,by rfl,by rfl⟩
theorem Mj (K:aH):TyTab K "bool":=⟨by rfl,by rfl,by rfl,by rfl,by rfl,by rfl⟩
theorem Mk (K:aH):TyTab K "list":=⟨by rfl,by rfl,by rfl,by rfl,by rfl,by rfl⟩
theorem qC (K:aH):TyTab K "tuple":=⟨by rfl,by rfl,by rfl,by rfl,by rfl,by rfl⟩
theorem bind1 {P:List aD->Prop} (h:∀a,P [a]):∀us:List aD,us.length=1->P us
 | [a],_=>h a
theorem bind2 {P:List aD->Prop} (h:∀a b,P [a,b]) (us:List aD) (hl:us.length=2):P us:=by
 cases us with
 | nil=>cases hl
 | cons a us=>exact bind1 (P:=λus=>P (a::us)) (h a) us (xJ hl)
theorem bind3 {P:List aD->Prop} (h:∀a b c,P [a,b,c]) (us:List aD) (hl:us.length=3):P us:=by
 cases us with
 | nil=>cases hl
 | cons a us=>exact bind2 (P:=λus=>P (a::us)) (h a) us (xJ hl)
theorem bind4 {P:List aD->Prop} (h:∀a b c d,P [a,b,c,d]) (us:List aD) (hl:us.length=4):P us:=by
 cases us with
 | nil=>cases hl
 | cons a us=>exact bind3 (P:=λus=>P (a::us)) (h a) us (xJ hl)
theorem bind5 {P:List aD->Prop} (h:∀a b c d e,P [a,b,c,d,e]) (us:List aD) (hl:us.length=5):P us:=by
 cases us with
 | nil=>cases hl
 | cons a us=>exact bind4 (P:=λus=>P (a::us)) (h a) us (xJ hl)
structure FnAt (P:bV) (w:dE) (K:aH) (mg:Str->Option aD) (base:Heap) (x:Str) (ps:List Str) (k:Nat) (F:FD):Prop where
 ex:∃f fd,FnOk P w K mg base CX0 k f fd ps (spD K F)/\Binds K fd ps []/\mG K (.ref f)=true/\mg x=some (.ref f)
structure DefAt (K:aH) (mg:Str->Option aD) (x:Str) (st:Stmt) (ps:List Str):Prop where
 ex:∃f fd,Fun K x x st f fd/\mg x=some (.ref f)/\∀us:List aD,us.length=ps.length->bindArgs fd ⟨us,[]⟩=pure (ps.zip us)
section
variable {P:bV} {w:dE} {K:aH} {mg:Str->Option aD} {base:Heap}
theorem DefAt.ok {x:Str} {st:Stmt} {N ps:List Str} {k:Nat} {F:FD} {t:RS} (Z:DefAt K mg x st ps) (Sc:FnScope N ps (fZ st))
  (hbody:∀{f:Addr} (cdv:aD) (A:dF) (outer:List Env) (s:aG) (H:Hp) (E:XK),Room k (A.deeper (envOfC x (fZ st) s.heap.objs.size f cdv)) ->
   DSs (BU CX0 P w K mg base N x (fZ st) f cdv A outer s H E).nox (qS st) t)
  (len:∀ds Q,F ds Q->ds.length=ps.length) (pure:∀ds Q,F ds Q->t { nx:=λ_=>Q .non,rt:=Q } (dW N ds)):FnAt P w K mg base x ps (k+1) F:=by
 obtain⟨f,fd,a,b,c⟩:=Z.ex
 exact⟨f,fd,Vm a Sc (λcdv A outer s H E hr=>hbody cdv A outer s H E hr) len pure,.all c,a.kp,b⟩
theorem DefAt.okL {x:Str} {st:Stmt} {ps:List Str} {k:Nat} {F:FD} (Z:DefAt K mg x st ps) (h:∀(base:Heap) (f:Addr) (fd:lY),Fun K x x st f fd->FnOk P w K mg base CX0 k f fd ps (spD K F)) :
  ∃f fd,mg x=some (.ref f)/\(∀us:List aD,us.length=ps.length->bindArgs fd ⟨us,[]⟩=pure (ps.zip us))/\∀base,FnOk P w K mg base CX0 k f fd ps (spD K F):=by
 obtain⟨f,fd,a,b,c⟩:=Z.ex
 exact⟨f,fd,b,c,λbase=>h base f fd a⟩
end
section
variable {X:Cx} {k:Nat} {ps:List Str} {F:FD} {x:Str} {p pos:Pos} {e:Expr} {es:List Expr} {t:RA}
theorem Jg (C:FnAt X.prog X.w X.K X.mg X.base x ps k F) (hr:Room k X.A) (ha:DA X (e::es) t) (hg:Gl X x:=by rfl)
  (hdb:(x == ("__debug__":Str))=false:=by decide) (he:starEach (e::es) X.env=(false,eval e X.env)::starEach es X.env:=by rfl) (hpl:(backTo pos (starEach es X.env)).any (·.1)=false:=by rfl) :
  DE X (.Call (.Name x p) (e::es) [] pos) (cV F t):=by
 obtain⟨f,fd,G,hb,hk,hm⟩:=C.ex
 exact Nl G hr hm hk hb ha hg hdb he hpl
end
def Ho (n:Nat):FD:=λds Q=>∃ns:List Int,ds=[.lst (ns.map .int)]/\ns.length<=n/\Q (.bl true)
theorem Ul {K:aH} {H:Hp} {a:Addr} {vs:List V} (hO:Mu H) (h:SqL K H a vs):FzL K H a vs:=by
 rcases h with (h | ⟨o,h⟩) | h
 ·rcases hO a with z | ⟨o,xs,z⟩
  ·rw[z] at h;cases h
  ·rw[z] at h;cases h
 ·exact .inl ⟨o,h⟩
 ·exact .inr h
def NoLam (K:aH):Prop:=∀x∈TW,tM K mainGlobals x=some none
theorem NoLam.tabs {K:aH} (n:NoLam K) (H:Hp):TabsIn K H:=λx c P m e=>by
 unfold OX at e
 rw[n x m] at e
 cases e
theorem noLam {K:aH} (a:tM K mainGlobals "rising" = some none) (b:tM K mainGlobals "framed_rising" = some none) (c:tM K mainGlobals "laid_triangles" = some none):NoLam K:=λx m=>by
 simp only[TW,aK,fS,or_false] at m
 rcases m with rfl | rfl | rfl
 ·exact a
 ·exact b
 ·exact c
theorem walk_law {l:JX} {q:bV} {loose:List Str} {XP:(Str->Option aD)->Heap->Prop} {YP:dE->Heap->Prop} {d:DefRec} {K:Params->aH} {x:Str} {k:Nat}
  (hn:l.most=some 63) (hdf:d.params.defaults=[]) (hr:Room k callerA)
  (hY:∀(w:dE) (h:Heap),YP w h->(K w.params).In h) (hd:d.name = "law") (hL:∀w:dE,NoLam (K w.params))
  (F:∀(w:dE) (mg:Str->Option aD) (h:Heap),(K w.params).In h->h.Ns mainGlobals mg ->
   ∃f fd,mg "law" = some (.ref f)/\(∀us:List aD,us.length=[x].length->bindArgs fd ⟨us,[]⟩=pure ([x].zip us))/\∀base,FnOk l.prog w (K w.params) mg base CX0 k f fd [x] (spD (K w.params) (Ho 63))) :
  OW q loose XP YP l.row.toRowW d [] (λf vs=>MA f vs):=by
 refine L2.walk_of (n:=63) (k:=k) (x:=x) (CX:=λ_=>CX0) (sp:=λw=>spD (K w.params) (Ho 63)) hn (by decide) hdf hr hY ?_ ?_ λ_ _ _ _ _ z=>z
 ·intro w mg fa h KX G hmg
  rw[hd] at hmg
  obtain⟨f,fd,hm,hb,hF⟩:=F w mg h KX G
  rw[hmg] at hm;cases hm
  exact⟨fd,λs u=>.of_eq (hb [u] rfl),λbase _ _=>hF base⟩
 ·intro w H a ns hl hO hS
  exact⟨(hL w).tabs H,[.lst (ns.map .int)],λd=>d = .bl true,.cons (.lst (Ul hO hS) .ints) .nil,⟨ns,rfl,hl,rfl⟩,λd v H' e _ r=>by subst e;exact r.bl_inv⟩
def eqL (f:D->D->Option Bool):List D->List D->Option Bool
 | [],[]=>some true
 | [],_::_=>some false
 | _::_,[]=>some false
 | x::xs,y::ys=>match f x y,eqL f xs ys with
  | some a,some b=>some (a && b)
  | _,_=>none
def eqF:Nat->D->D->Option Bool
 | 0,_,_=>none
 | n+1,d,e=>match d,e with
  | .int a,.int b=>some (decide (a=b))
  | .bl a,.bl b=>some (decide (a=b))
  | .non,.non=>some true
  | .non,.tup _=>some false
  | .tup _,.non=>some false
  | .tup xs,.tup ys=>eqL (eqF n) xs ys
  | .lst xs,.lst ys=>eqL (eqF n) xs ys
  | _,_=>none
theorem GJ {f:D->D->Option Bool}:∀{xs ys:List D} {b:Bool},eqL f xs ys=some b->∀(j:Nat) (x y:D),xs[j]? = some x->ys[j]? = some y->∃c,f x y=some c
 | [],_,_,_,j,x,y,e,_=>by simp at e
 | _::_,[],_,_,j,x,y,_,e=>by simp at e
 | a::xs,c::ys,b,h,j,x,y,e1,e2=>by
  unfold eqL at h
  split at h
  ·rename_i p q hp hq
   cases j with
   | zero=>simp at e1 e2;subst e1 e2;exact⟨p,hp⟩
   | succ j=>exact GJ hq j x y (by simpa using e1) (by simpa using e2)
  ·cases h
theorem BH {f:D->D->Option Bool}:∀{xs ys:List D} {b:Bool},eqL f xs ys=some b ->
  ((dM (min xs.length ys.length)).all (λj=>match xs[j]?,ys[j]? with | some x,some y=>(f x y).getD false | _,_=>false) && xs.length == ys.length)=b
 | [],[],b,h=>by cases h;rfl
 | [],_::_,b,h=>by cases h;rfl
 | _::_,[],b,h=>by cases h;rfl
 | x::xs,y::ys,b,h=>by
  unfold eqL at h
  split at h
  ·rename_i p q hp hq
   cases h
   have ih:=BH hq
   rw[<-ih]
   simp only[bZ,Nat.succ_min_succ,xG,BZ,aJ,hp,kO,List.all_map]
   rw[Bool.and_assoc]
   congr 1
   congr 1
   rw[pN];simp
  ·cases h
section
variable {X:Cx} {pins:List (Addr × Obj)} {σ:St} {H:Hp} {s:aG}
theorem MP {f:D->D->Option Bool} (hf:∀{d e:D} {v:V} {b:Bool},f d e=some b->Rep X.K H d v->Rep X.K H e v->b=true):∀{xs ys:List D} {vs:List V} {b:Bool},eqL f xs ys=some b->Reps X.K H xs vs->Reps X.K H ys vs->b=true:=by
 intro xs
 induction xs with
 | nil=>intro ys vs b h q1 q2;cases q1;cases q2;cases h;rfl
 | cons x xs ih =>
  intro ys vs b h q1 q2
  cases q1 with
  | cons r t =>
   cases q2 with
   | cons r' t' =>
    unfold eqL at h
    split at h
    ·rename_i p q hp hq
     cases h
     rw[hf hp r r',ih hq t t'];rfl
    ·cases h
theorem GI (I:Inv X pins σ H s):∀(n:Nat) {d e:D} {v:V} {b:Bool},eqF n d e=some b->Rep X.K H d v->Rep X.K H e v->b=true
 | 0,_,_,_,_,h,_,_=>by cases h
 | n+1,d,e,v,b,h,r1,r2=>by
  unfold eqF at h
  split at h
  ·rw[r1.int_inv] at r2;cases r2;cases h;simp
  ·rw[r1.bl_inv] at r2;cases r2;cases h;simp
  ·cases h;rfl
  ·cases r1;cases r2
  ·cases r2;cases r1
  ·rename_i xs ys
   cases r1 with
   | @tup a vs _ h1 q1 =>
    cases r2 with
    | @tup _ ws _ h2 q2 =>
     rw[h1] at h2;cases h2
     exact MP (λ{d e v b}=>GI I n) h q1 q2
  ·rename_i xs ys
   cases r1 with
   | @lst a vs _ h1 q1 =>
    cases r2 with
    | @lst _ ws _ h2 q2 =>
     rw[I.list_inj h2.sq h1.sq] at q2
     exact MP (λ{d e v b}=>GI I n) h q1 q2
  ·cases h
theorem MQ (I:Inv X pins σ H s) {n:Nat} {xs ys:List D} {a c:Addr} {vs ws:List V} {b:Bool} {A:dF} (h:eqL (eqF n) xs ys=some b) (h1:SqL X.K H a vs) (q1:Reps X.K H xs vs) (h2:SqL X.K H c ws) (q2:Reps X.K H ys ws) (hu:A.units<cLine)
  (at':∀{d e:D} {v u:V} {x y:aD} {b:Bool},eqF n d e=some b->Rep X.K H d v->Rep X.K H e u->RelV v x->RelV u y->EB A.in1 s x y b):uJ A s (.ref a) (.ref c) b/\EB A s (.ref a) (.ref c) b:=by
 obtain⟨its,rv,ht,_⟩:=I.list h1
 obtain⟨its2,rv2,ht2,_⟩:=I.list h2
 have l1:xs.length=its.length:=q1.length.trans rv.length
 have l2:ys.length=its2.length:=q2.length.trans rv2.length
 have rc:uJ A s (.ref a) (.ref c) b:=by
  by_cases hl:xs.length=ys.length
  ·have:=SeqAt.RcAt.lists (A:=A) (s:=s) (e:=λj=>match xs[j]?,ys[j]? with | some x,some y=>(eqF n x y).getD false | _,_=>false) ht.isList ht2.isList (by simp;lia) hu (λj g1 g2=>?_)
   ·have al:=BH h
    simp only[bD,<-l1] at this
    rw[<-hl,Nat.min_self,beq_self_eq_true,vI] at al
    rw[al] at this
    exact this
   ·simp only[bD] at g1 g2
    have e1:xs[j]? = some (xs[j]'(by lia)):=aF _
    have e2:ys[j]? = some (ys[j]'(by lia)):=aF _
    obtain⟨k,hk⟩:=GJ h j _ _ e1 e2
    rw[e1,e2]
    simp only[hk,kO]
    obtain⟨v1,f1,f2⟩:=q1.get e1
    obtain⟨v2,f3,f4⟩:=q2.get e2
    obtain⟨u1,g3,g4⟩:=rv.get f1
    obtain⟨u2,g5,g6⟩:=rv2.get f3
    have a1:its.toArray[j]=u1:=by
     have:=aF g1
     rw[this] at g3
     simpa using dN g3
    have a2:its2.toArray[j]=u2:=by
     have:=aF g2
     rw[this] at g5
     simpa using dN g5
    rw[a1,a2]
    exact at' hk f2 f4 g4 g6
  ·have al:=BH h
   have:(xs.length == ys.length)=false:=by simpa using hl
   rw[this,LU] at al
   rw[<-al]
   exact SeqAt.RcAt.lists_lengths ht.isList ht2.isList (by simp;lia) hu
 refine⟨rc,?_⟩
 by_cases hac:a=c
 ·subst hac
  rw[I.list_inj h2 h1] at q2
  rw[MP (λ{d e v b}=>GI I n) h q1 q2]
  exact yK _
 ·exact ED hac rc
theorem xS (I:Inv X pins σ H s):∀(n:Nat) {d e:D} {v u:V} {x y:aD} {b:Bool} {A:dF},eqF n d e=some b->Rep X.K H d v->Rep X.K H e u->RelV v x->RelV u y->A.units+n<cLine ->
  uJ A s x y b/\EB A s x y b
 | 0,_,_,_,_,_,_,_,_,h,_,_,_,_,_=>by cases h
 | n+1,d,e,v,u,x,y,b,A,h,r1,r2,rx,ry,hu=>by
  have same:=λ(hvu:v=u)=>GI I (n+1) h r1 (hvu ▸ r2)
  unfold eqF at h
  split at h
  ·rename_i i j
   rw[r1.int_inv] at rx;rw[r2.int_inv] at ry
   obtain⟨t,rfl⟩:=rx
   obtain⟨t',rfl⟩:=ry
   cases h
   have e:decide (i=j)=(i == j):=by rw[nJ]
   rw[e]
   exact⟨SeqAt.RcAt.int_int _ _ _ _,EC _ _ _ _⟩
  ·rename_i i j
   rw[r1.bl_inv] at rx;rw[r2.bl_inv] at ry
   cases rx;cases ry
   cases h
   have e:decide (i=j)=(i == j):=by rw[nJ]
   rw[e]
   exact⟨SeqAt.RcAt.bool_bool _ _,SeqAt.EqAt.bool_bool _ _⟩
  ·cases r1;cases r2;cases rx;cases ry;cases h
   exact⟨SeqAt.RcAt.none_none,yK _⟩
  ·cases r1
   cases r2 with
   | tup h2 q2 =>
    cases rx;cases ry;cases h
    obtain⟨its,rv,ht,_⟩:=I.tuple (SqT.of h2)
    exact⟨SeqAt.RcAt.none_tuple ht (by lia),SeqAt.EqAt.none_tuple ht (by lia)⟩
  ·cases r2
   cases r1 with
   | tup h2 q2 =>
    cases rx;cases ry;cases h
    obtain⟨its,rv,ht,_⟩:=I.tuple (SqT.of h2)
    exact⟨SeqAt.RcAt.tuple_none ht (by lia),SeqAt.EqAt.tuple_none ht (by lia)⟩
  ·rename_i xs ys
   cases r1 with
   | @tup a vs _ h1 q1 =>
    cases r2 with
    | @tup c ws _ h2 q2 =>
     cases rx;cases ry
     obtain⟨its,rv,ht,_⟩:=I.tuple (SqT.of h1)
     obtain⟨its2,rv2,ht2,_⟩:=I.tuple (SqT.of h2)
     have l1:xs.length=its.length:=q1.length.trans rv.length
     have l2:ys.length=its2.length:=q2.length.trans rv2.length
     have rc:uJ A s (.ref a) (.ref c) b:=by
      have:=SeqAt.RcAt.tuples (A:=A) (s:=s) (e:=λj=>match xs[j]?,ys[j]? with | some x,some y=>(eqF n x y).getD false | _,_=>false) ht ht2 (by lia) (λj g1 g2=>?_)
      ·simp only[bD,<-l1,<-l2] at this
       rw[BH h] at this
       exact this
      ·simp only[bD] at g1 g2
       have e1:xs[j]? = some (xs[j]'(by lia)):=aF _
       have e2:ys[j]? = some (ys[j]'(by lia)):=aF _
       obtain⟨k,hk⟩:=GJ h j _ _ e1 e2
       rw[e1,e2]
       simp only[hk,kO]
       obtain⟨v1,f1,f2⟩:=q1.get e1
       obtain⟨v2,f3,f4⟩:=q2.get e2
       obtain⟨u1,g3,g4⟩:=rv.get f1
       obtain⟨u2,g5,g6⟩:=rv2.get f3
       have a1:its.toArray[j]=u1:=by
        have:=aF g1
        rw[this] at g3
        simpa using dN g3
       have a2:its2.toArray[j]=u2:=by
        have:=aF g2
        rw[this] at g5
        simpa using dN g5
       rw[a1,a2]
       exact (xS I n hk f2 f4 g4 g6 (by show A.units+1+n<cLine;lia)).2
     refine⟨rc,?_⟩
     by_cases hac:a=c
     ·subst hac
      rw[same rfl]
      exact yK _
     ·exact ED hac rc
  ·rename_i xs ys
   cases r1 with
   | @lst a vs _ h1 q1 =>
    cases r2 with
    | @lst c ws _ h2 q2 =>
     cases rx;cases ry
     exact MQ I h h1.sq q1 h2.sq q2 (by lia) λ{d e v u x y b} hk f2 f4 g4 g6=>(xS I n hk f2 f4 g4 g6 (by show A.units+1+n<cLine;lia)).2
  ·cases h
end
def dEq:R22:=λx y Q=>match eqF 6 x y with
 | some b=>Q (.bl b)
 | none=>False
section
variable {X:Cx}
theorem Sg {X:Cx} {pins:List (Addr × Obj)} {σ:St} {H:Hp} {s:aG} (I:Inv X pins σ H s) {d e:D} {v u:V} {x y:aD} {b:Bool} {A:dF} (h:eqF 6 d e=some b) (r1:RepB X.K H d v) (r2:RepB X.K H e u) (rx:RelV v x) (ry:RelV u y) (hu:A.units+6<cLine):uJ A s x y b:=by
 by_cases hl:∃xs ys,d = .lst xs/\e = .lst ys
 ·obtain⟨xs,ys,rfl,rfl⟩:=hl
  obtain⟨a,vs,rfl,h1,q1⟩:=r1.lst
  obtain⟨c,ws,rfl,h2,q2⟩:=r2.lst
  cases rx;cases ry
  exact (MQ I (n:=5) h h1 q1 h2 q2 (by lia) λ{d e v u x y b} hk f2 f4 g4 g6=>(xS I 5 hk f2 f4 g4 g6 (by show A.units+1+5<cLine;lia)).2).1
 ·have p1:Rep X.K H d v:=by
   rcases r1 with r | ⟨ds,a,vs,e1,_⟩
   ·exact r
   ·subst e1;cases e <;> first | (cases h;done) | exact absurd ⟨_,_,rfl,rfl⟩ hl
  have p2:Rep X.K H e u:=by
   rcases r2 with r | ⟨ds,a,vs,e1,_⟩
   ·exact r
   ·subst e1;cases d <;> first | (cases h;done) | exact absurd ⟨_,_,rfl,rfl⟩ hl
  exact (xS I 6 h p1 p2 rx ry hu).1
theorem Wa {k:Nat} (hr:Room k X.A):OpD X (compareOp .Eq) dEq:=by
 intro pins s σ H x y v u Q I rx ry hh_0
 obtain⟨d,e,P,r1,r2,q,kk⟩:=hh_0
 unfold dEq at q
 split at q
 ·rename_i b hb
  have hu:=hr.units
  exact Sg I (A:=X.A) hb r1 r2 rx ry (by lia) _ _ _ _ ⟨.bl b,H,I,rfl,kk _ _ H q (Same.refl H) (.bl b)⟩
 ·exact q.elim
end
theorem zU (env:Env):∀(names:List (Str × NameKind)) (acc:List (Str × Addr)),(∀y∈names,y.2 = .free->∃c,env.cells.lookup y.1=some c) ->
  ∃cl:List (Str × Addr),(do
   let mut cs:=acc
   for (name,kind) in names do
    if kind == .free then cs:=(name,<-cellOf env name)::cs
   return cs:Sem (List (Str × Addr)))=pure cl/\(∀p∈cl,p∈acc\/env.cells.lookup p.1=some p.2)/\(∀p∈acc,p∈cl)/\∀y∈names,y.2 = .free->∃c,(y.1,c)∈cl
 | [],acc,_=>⟨acc,by simp,λp h=>.inl h,λp h=>h,λy h=>by simp at h⟩
 | (n,k)::r,acc,h=>by
  by_cases hk:k = .free
  ·subst hk
   obtain⟨c,hc⟩:=h _ cF rfl
   obtain⟨cl,e,h1,h2,h3⟩:=zU env r ((n,c)::acc) λy hy=>h y (aW _ hy)
   refine⟨cl,?_,λp hp=>?_,λp hp=>h2 p (aW _ hp),λy hy hf=>?_⟩
   ·rw[<-e]
    have hcell:cellOf env n=pure c:=by unfold cellOf;rw[hc]
    simp only[nB,hcell,beq_self_eq_true,if_true,pure_bind]
   ·rcases h1 p hp with q | q
    ·rcases aK.mp q with rfl | q
     ·exact .inr hc
     ·exact .inl q
    ·exact .inr q
   ·rcases aK.mp hy with rfl | hy
    ·exact⟨c,h2 _ cF⟩
    ·exact h3 y hy hf
  ·obtain⟨cl,e,h1,h2,h3⟩:=zU env r acc λy hy=>h y (aW _ hy)
   refine⟨cl,?_,h1,h2,λy hy hf=>?_⟩
   ·rw[<-e]
    have hb:(k == iK)=false:=by simpa using hk
    simp only[nB,hb,aM,if_false,pure_bind]
   ·rcases aK.mp hy with rfl | hy
    ·exact absurd hf hk
    ·exact h3 y hy hf
theorem CJ {α:Type}:∀{l:List (Str × α)} {x:Str} {c:α},(x,c)∈l->∃c',l.lookup x=some c'
 | [],_,_,h=>by simp at h
 | (y,d)::r,x,c,h=>by
  rw[rO]
  cases e:x == y with
  | true=>exact⟨d,rfl⟩
  | false =>
   rcases aK.mp h with q | q
   ·cases q;rw[beq_self_eq_true] at e;cases e
   ·exact CJ q
theorem MK {scope:Scope} {env:Env} (h:∀y∈scope.names,y.2 = .free->∃c,env.cells.lookup y.1=some c) :
  ∃cl,closureFor scope env=pure cl/\(∀x c,cl.lookup x=some c->env.cells.lookup x=some c)/\∀y∈scope.names,y.2 = .free->∃c,cl.lookup y.1=some c:=by
 obtain⟨cl,e,h1,_,h3⟩:=zU env scope.names [] h
 refine⟨cl,e,λx c hx=>?_,λy hy hf=>?_⟩
 ·rcases h1 _ (kE hx) with q | q
  ·simp at q
  ·exact q
 ·obtain⟨c,hc⟩:=h3 y hy hf
  exact CJ hc
def oC (X:Cx) (scope:Scope) (N:List Str) (cl:List (Str × Addr)) (C:Addr) (s:aG) (H:Hp) (fp:List Addr):Cx where
 prog:=X.prog
 w:=X.w
 K:=X.K
 mg:=X.mg
 base:=X.base
 A:=X.A
 N:=N
 s₀:=s
 H₀:=H
 env:=compEnvC scope cl C X.env
 outer:=X.stack
 stack:=X.stack
 ex:=fp
 fn:=λ_=>false
 calm:=X.calm
 pn:=[]
 xe:=λ_ _=>False
structure CScope (X:Cx) (scope:Scope):Prop where
 kind:scope.kind = .function
 nocell:∀y∈scope.names,y.2≠.cell
 locs:∀y∈scope.names,y.2 = .local->scope.names.lookup y.1=some .local
 frees:∀y∈scope.names,y.2 = .free->X.env.kindOf y.1=some .cell\/X.env.kindOf y.1=some .free
theorem qT {env:Env}:∀{names:List (Str × NameKind)} {x:Str} {k:NameKind},(names.map λ(n,k)=>if (k == iK && env.scope.kind == .function && env.kindOf n == some .cell) then (n,sG) else (n,k)).lookup x=some k ->
  (k = .cell\/k = .free)->(∀y∈names,y.2≠.cell)->(x,.free)∈names
 | [],_,_,h,_,_=>by simp at h
 | (n,j)::r,x,k,h,hk,hn=>by
  have h:List.lookup x ((if (j == iK && env.scope.kind == .function && env.kindOf n == some .cell)=true then (n,sG) else (n,j))::r.map λ(n,k)=>if (k == iK && env.scope.kind == .function && env.kindOf n == some .cell) then (n,sG) else (n,k))=some k:=h
  have hn':∀y∈r,y.2≠.cell:=λy hy=>hn y (aW _ hy)
  cases hx:x == n with
  | true =>
   have e:x=n:=eq_of_beq hx
   subst e
   by_cases hc:(j == iK && env.scope.kind == .function && env.kindOf x == some .cell)=true
   ·have hj:j = .free:=by
     rw[fC,fC] at hc
     exact eq_of_beq hc.1.1
    subst hj
    exact cF
   ·rw[if_neg hc,rO,beq_self_eq_true] at h
    cases h
    rcases hk with rfl | rfl
    ·exact absurd rfl (hn _ cF)
    ·exact cF
  | false =>
   by_cases hc:(j == iK && env.scope.kind == .function && env.kindOf n == some .cell)=true
   ·rw[if_pos hc,rO,hx] at h
    exact aW _ (qT h hk hn')
   ·rw[if_neg hc,rO,hx] at h
    exact aW _ (qT h hk hn')
section
variable {X:Cx} {pins:List (Addr × Obj)} {σ:St} {H:Hp} {s:aG} {scope:Scope} {N:List Str} {cl:List (Str × Addr)} {C:Addr} {fp:List Addr}
theorem Nc (I:Inv X pins σ H s) (Sc:CScope X scope) (hcl:∀x c,cl.lookup x=some c->X.env.cells.lookup x=some c) (hall:∀y∈scope.names,y.2 = .free->∃c,cl.lookup y.1=some c)
  (hC:s.heap.objs.size<=C) (hf:∀b∈fp,OU X pins H b) (hlt:∀b∈fp,b<s.heap.objs.size):(oC X scope N cl C s H fp).Ok:=by
 refine⟨I.ok.mod,Sc.kind,I.ok.glob,I.ok.blt,hC,λx y c h1 h2=>I.ok.inj x y c (hcl x c h1) (hcl y c h2),λx hx=>?_,λx c hx=>absurd (show false=true from hx) cJ,I.ok.hd,I.ok.frames,.inl rfl,λb hb=>?_,I.bs,fO I.ok.bsz I.sz,λb o e hb=>?_,λb hb hfs=>?_,I.stack,I.stkFree⟩
 ·have hx:(scope.names.map λ(n,k)=>if (k == iK && X.env.scope.kind == .function && X.env.kindOf n == some .cell) then (n,sG) else (n,k)).lookup x=some .cell\/(scope.names.map λ(n,k)=>if (k == iK && X.env.scope.kind == .function && X.env.kindOf n == some .cell) then (n,sG) else (n,k)).lookup x=some .free:=hx
  have:(x,iK)∈scope.names:=by
   rcases hx with hx | hx
   ·exact qT hx (.inl rfl) Sc.nocell
   ·exact qT hx (.inr rfl) Sc.nocell
  exact hall _ this rfl
 ·obtain⟨f0,f1,f2,f3,f4,f5⟩:=hf b hb
  exact⟨bH (bR (hlt b hb) hC),λx c e=>f4 x c (hcl x c e)⟩
 ·obtain⟨f0,f1,f2,f3,f4,f5⟩:=hf b hb
  rcases f3 with z | z
  ·exact I.ok.noex b o e z
  ·have h1:=(aU e)
   have h2:=I.ok.bsz
   exact absurd (bR h1 (fO h2 z)) (hV _)
 ·obtain⟨f0,f1,f2,f3,f4,f5⟩:=hf b hb
  rcases aK.mp (I.stkSub b hfs) with e | e
  ·exact f1 e
  ·exact f2 e
def SY (σ:St) (k:Nat) (ix:List Nat):St:=eM k none++ix.map λi=>(σ[i]?).join
theorem Il (I:Inv X pins σ H s) (Sc:CScope X scope) (hcl:∀x c,cl.lookup x=some c->X.env.cells.lookup x=some c) (hall:∀y∈scope.names,y.2 = .free->∃c,cl.lookup y.1=some c)
  {s4:aG} {m:Str->Option aD} {k:Nat} {ix:List Nat} {ys:List Str} (hC:s.heap.objs.size<=C) (hf:∀b∈fp,OU X pins H b) (hlt:∀b∈fp,b<s.heap.objs.size)
  (hk4:∀b o,s.heap.get? b=some o->s4.heap.get? b=some o) (hos:s4.os=s.os) (hb:AllBare s4.gens) (hns:s4.heap.Ns C m)
  (hN:N.length=k+ys.length) (hdrop:N.drop k=ys) (hix:ix.length=ys.length) (hiy:∀(j:Nat) (y:Str) (i:Nat),ys[j]? = some y->ix[j]? = some i->X.N[i]? = some y/\(y,iK)∈scope.names)
  (hkind:∀y∈ys,(relabel scope X.env).names.lookup y=some .cell\/(relabel scope X.env).names.lookup y=some .free) :
  Inv (oC X scope N cl C s H fp) [] (SY σ k ix) H s4:=by
 have hfr:H C=none:=I.hok.fresh hC
 refine⟨Nc I Sc hcl hall hC hf hlt,hos,hb,Un.kept hk4,⟨m,hns,λi x v e1 e2 e3=>?_⟩,λx c e=>?_,hfr,λx c e=>I.freeC x c (hcl x c e),λp hp=>absurd (show p∈([]:List (Addr × Obj)) from hp) (by simp),I.hok.kept hk4,?_⟩
 ·unfold SY at e2
  by_cases hik:i<k
  ·rw[cO (by simpa using hik),iT,if_pos hik] at e2
   cases e2
  ·rw[cW (by simpa using hik),lB,bJ] at e2
   cases eo:ix[i-k]? with
   | none=>rw[eo] at e2;cases e2
   | some o =>
    rw[eo] at e2
    have e2:some ((σ[o]?).join)=some (some v):=e2
    have e2':σ[o]? = some (some v):=by
     cases q:σ[o]? with
     | none=>rw[q] at e2;cases e2
     | some z=>rw[q] at e2;cases e2;rfl
    have ey:ys[i-k]? = some x:=by
     rw[<-hdrop,DV]
     rw[show k+(i-k)=i by lia]
     exact e1
    obtain⟨h1,h2⟩:=hiy _ _ _ ey eo
    have hv:Vis X.env.scope x:=by
     rcases Sc.frees _ h2 rfl with q | q
     ·exact .inr (.inl q)
     ·exact .inr (.inr q)
    obtain⟨m0,hn0,hl0⟩:=I.loc
    obtain⟨u,ru,lu⟩:=hl0 o x v h1 e2' hv
    refine⟨u,ru,.inr ⟨hkind x (eY ey),?_⟩⟩
    obtain⟨c,hc⟩:=hall _ h2 rfl
    refine⟨c,hc,?_⟩
    rcases lu with ⟨q,_⟩ | ⟨_,c',hc',hcell⟩
    ·rcases Sc.frees _ h2 rfl with z | z
     ·rw[z] at q;cases q
     ·rw[z] at q;cases q
    ·have:=hcl x c hc
     rw[this] at hc';cases hc'
     obtain⟨oc,ho,hd⟩:=hcell
     exact⟨oc,hk4 _ _ ho,hd⟩
 ·obtain⟨v,oc,ho,hd⟩:=I.cell x c (hcl x c e)
  exact⟨v,oc,hk4 _ _ ho,hd⟩
 ·unfold SY
  show _=N.length
  rw[dI,lB,cI,hix,hN]
end
abbrev Rj (ifs:List Expr) (env:Env):Sem Bool:=forIn ifs true λc r=>if r=true then do let ok <-isTrue c env (eval c env);pure (JR ok) else pure (JR r)
theorem Ep {prog:bV} {w:dE} {A:dF} {R:Result->aG->Prop} {s:aG} {elt target iter:Expr} {ifs:List Expr} {scope:Scope} {pos:Pos} {it acc:aD} {env:Env} (I:Nat->aG->Prop)
  (turn:∀n s,I n s->∀E:aD->aG->Prop,wpAny (model prog w) A (pyNext it) (λr s₁=>match r with
   | none=>R (.ok .next) s₁
   | some v=>wpAny (model prog w) A (letOwnedTupleGo target it v) (λ_ s₁=>wpAny (model prog w) A (assign target env v) (λ_ s₂=>wpAny (model prog w) A (Rj ifs env) (λok s₂=>if ok=true then wpAny (model prog w) A (eval elt env) (λx s₃ =>
     wpAny (model prog w) A (call (.builtin "list.append") [acc,x]) (λ_ s₄=>∃m,m<n/\I m s₄) E s₃) E s₂ else ∃m,m<n/\I m s₂) E s₂) E s₁) E s₁) E s)
  (n:Nat) (h:I n s):codeAny (model prog w) A (.compLoop (.ListComp elt [⟨target,iter,ifs,0⟩] scope pos) 0 it acc env) R s:=by
 refine codeAny_loop rfl I (λn s hI=>?_) n h
 show wpAny _ _ ((compTurn (.ListComp elt [⟨target,iter,ifs,0⟩] scope pos) 0 it acc env).onRaise (λx=>do noteFrame x env;theTreesLotGoes x)) _ _ s
 refine wpAny_noted ?_
 rw[compTurn_list]
 refine aA (DK (aA (jL (turn n s hI _) (λr s₁ h₁=>?_) λ_ _ h'=>h')))
 cases r with
 | none=>exact aI h₁
 | some v =>
  refine aA (jL h₁ (λ_ s₁' h₁'=>aA (jL h₁' (λ_ s₂ h₂=>aA (jL h₂ (λok s₃ h₃=>?_) λ_ _ h'=>h')) λ_ _ h'=>h')) λ_ _ h'=>h')
  cases ok with
  | false=>exact aI ⟨rfl,h₃⟩
  | true=>exact aA (aA (jL h₃ (λx s₄ h₄=>aA (jL h₄ (λ_ s₅ h₅=>aI (aI ⟨rfl,h₅⟩)) λ_ _ h'=>h')) λ_ _ h'=>h'))
def Ms (X:Cx) (ifs:List Expr) (t:RT):Prop:=∀(pins:List (Addr × Obj)) (s:aG) (σ:St) (H:Hp) (Q:Bool->Hp->Prop),Inv X pins σ H s->liftT X t σ H Q->wpAny (model X.prog X.w) X.A (Rj ifs X.env) (TP X pins σ Q) X.xe s
def Ls:RT:=λ_ Q=>Q true
theorem VU {X:Cx}:Ms X [] Ls:=λpins s σ H Q I ⟨ρ,P,st,q,k⟩=>wpAny_tests_nil ⟨H,I,k true H q (Same.refl H)⟩
def GB (g:RG) (te:RE):List D->En->List D->(List D->Prop)->Prop
 | [],_,acc,Q=>Q acc
 | x::xs,ρ,acc,Q=>g x ρ λρ'=>te ρ' λd=>GB g te xs ρ' (acc++[d]) Q
def oB (g:RG) (tt:RT) (te:RE):List D->En->List D->(List D->Prop)->Prop
 | [],_,acc,Q=>Q acc
 | x::xs,ρ,acc,Q=>g x ρ λρ'=>tt ρ' λb=>if b=true then te ρ' λd=>oB g tt te xs ρ' (acc++[d]) Q else oB g tt te xs ρ' acc Q
theorem QU {g:RG} {te:RE}:∀{xs:List D} {ρ:En} {acc:List D} {Q:List D->Prop},oB g Ls te xs ρ acc Q=GB g te xs ρ acc Q
 | [],_,_,_=>rfl
 | x::xs,ρ,acc,Q=>by
  show (g x ρ λρ'=>if true=true then te ρ' λd=>oB g Ls te xs ρ' (acc++[d]) Q else oB g Ls te xs ρ' acc Q)=g x ρ λρ'=>te ρ' λd=>GB g te xs ρ' (acc++[d]) Q
  congr 1
  funext ρ'
  rw[if_pos rfl]
  congr 1
  funext d
  exact QU
def VD (ρ:En) (i:Nat):Option S:=match ρ[i]? with
 | some (some (.d d))=>some (.d d)
 | _=>none
def EI (ρ:En) (k:Nat) (ix:List Nat):En:=eM k none++ix.map (VD ρ)
theorem Sa {X X':Cx} {ρ:En} {σ:St} {H:Hp} {k:Nat} {ix:List Nat} (so:StOk X ρ σ H) (hK:X'.K=X.K) (hH:X'.H₀=H):StOk X' (EI ρ k ix) (SY σ k ix) H:=by
 have own:∀(i:Nat) (x:S),(EI ρ k ix)[i]? = some (some x)->∃d,x = .d d:=λi x e=>by
  unfold EI at e
  by_cases hik:i<k
  ·rw[cO (by simpa using hik),iT,if_pos hik] at e;cases e
  ·rw[cW (by simpa using hik),bJ] at e
   cases eo:ix[i-(eM k (none:Option S)).length]? with
   | none=>rw[eo] at e;cases e
   | some o =>
    rw[eo] at e
    have e:some (VD ρ o)=some (some x):=e
    have e:=dN e
    unfold VD at e
    split at e <;> cases e
    exact⟨_,rfl⟩
 refine⟨by simp[EI,SY],by rw[hH];exact Same.refl H,λi x e=>?_,λi j x y v u a e1 _ _ _ o _=>by
  obtain⟨d,rfl⟩:=own i x e1
  exact o.elim,by rw[hK,hH];exact so.tabs⟩
 unfold EI at e
 by_cases hik:i<k
 ·rw[cO (by simpa using hik),iT,if_pos hik] at e;cases e
 ·rw[cW (by simpa using hik),bJ,lB] at e
  cases eo:ix[i-k]? with
  | none=>rw[eo] at e;cases e
  | some o =>
   rw[eo] at e
   have e:some (VD ρ o)=some (some x):=e
   have e:=dN e
   unfold VD at e
   split at e
   ·rename_i d ed
    cases e
    obtain⟨v,h1,h2⟩:=so.rel o _ ed
    refine⟨v,?_,by rw[hK];exact h2⟩
    unfold SY
    rw[cW (by simpa using hik),bJ,lB,eo,nF,h1];rfl
   ·cases e
section
variable {X:Cx} {pins:List (Addr × Obj)} {σ:St} {H:Hp} {s2:aG} {scope:Scope} {N:List Str} {cl:List (Str × Addr)} {fp:List Addr} {it:Addr} {tn:Nat->Heap->Prop} {J:It} {xs:List D} {ρ:En}
 {elt target iter:Expr} {ifs:List Expr} {pos:Pos} {g:RG} {tt:RT} {te:RE} {k:Nat} {ix:List Nat} {ys:List Str} {P:List D->Prop}
theorem _root_.L2.Inv.track {s s':aG} {H H':Hp} {a:Addr} {vs:List V} {its:List aD} {n:Nat} (I:Inv X pins σ H s) (I':Inv X pins σ H' s') (ha:s.heap.objs.size<=a) (hn:H' a=none)
  (e:s'.heap.get? a=some { cls:=.type "list",data:=.seq its.toArray n }) (rv:Vals vs its) (hz:vs.length<=sizeLine):Inv X pins σ (upd H' a (.lst vs)) s':=by
 have hL:X.env.locals≠a:=bH (bR I.lt ha)
 have hcell:∀x c,X.env.cells.lookup x=some c->c≠a:=λx c q z=>by
  obtain⟨v,hv⟩:=I.cell x c q
  exact absurd (bR hv.lt (by rw[z];exact ha)) (hV _)
 have hs0:∀{b:Addr} {o:Obj},X.s₀.heap.get? b=some o->b≠a:=λ{b o} q=>bH (bR (aU q) (fO I.sz ha))
 refine⟨I'.ok,I'.os,I'.bare,⟨I'.base.keep,I'.base.slot,λb o q n hx=>?_,I'.base.there,λb ys q=>?_,λb o u q=>?_,λb ps q=>?_⟩,I'.loc,I'.cell,?_,λx c q=>?_,λp hp=>?_,λb u q=>?_,I'.len⟩
 ·rw[cT (hs0 q)];exact I'.base.free b o q n hx
 ·rw[cT (eT (I'.base.tups b ys q) hn)];exact I'.base.tups b ys q
 ·rw[cT (eT (I'.base.frzs b o u q) hn)];exact I'.base.frzs b o u q
 ·obtain⟨m,q2⟩:=I'.base.tbls b ps q
  exact⟨m,by rw[cT (eT q2 hn)];exact q2⟩
 ·rw[cT hL];exact I'.free
 ·rw[cT (hcell x c q)];exact I'.freeC x c q
 ·obtain⟨q1,q2,q3,q4,q5⟩:=I'.pin p hp
  have hp1:p.1≠a:=bH (bR (aU (I.pin p hp).1) ha)
  exact⟨q1,by rw[cT hp1];exact q2,q3,q4,q5⟩
 ·by_cases hb:b=a
  ·subst hb
   rw[fK] at q;cases q
   exact⟨hz,its,n,rv,e⟩
  ·rw[cT hb] at q
   exact (I'.hok b u q).stay (λc v _ w=>w) (λc w=>by rw[cT (eT w hn)];exact w) λc ys w=>by rw[cT (eT w hn)];exact w
theorem QV (hc:X.calm=true) (Sc:CScope X scope) (hcl:∀x c,cl.lookup x=some c->X.env.cells.lookup x=some c) (hall:∀y∈scope.names,y.2 = .free->∃c,cl.lookup y.1=some c)
  (hN:N.length=k+ys.length) (hdrop:N.drop k=ys) (hix:ix.length=ys.length) (hiy:∀(j:Nat) (y:Str) (i:Nat),ys[j]? = some y->ix[j]? = some i->X.N[i]? = some y/\(y,iK)∈scope.names)
  (hkind:∀y∈ys,(relabel scope X.env).names.lookup y=some .cell\/(relabel scope X.env).names.lookup y=some .free)
  (hg:∀C s H fp,DG (oC X scope N cl C s H fp) target g) (hif:∀C s H fp,Ms (oC X scope N cl C s H fp) ifs tt) (he:∀C s H fp,DE (oC X scope N cl C s H fp) elt te)
  (I2:Inv X pins σ H s2) (so:StOk X ρ σ H) (T:Turn X.prog X.w X.K target J fp it tn) (st:tn 0 s2.heap) (hf:∀b∈fp,OU X pins H b) (ok:Hs X J xs H) (hz:xs.length<=sizeLine)
  (hP:oB g tt te xs (EI ρ k ix) [] P) {RR:aD->Addr->Result->aG->Prop} {E:aD->aG->Prop}
  (post:∀(ds:List D) (vs:List V) (its:List aD) (n:Nat) (C:Addr) (s':aG) (H':Hp),P ds->Same H H'->H' s2.heap.objs.size=none->Reps X.K H' ds vs->Vals vs its->vs.length<=sizeLine ->
   s'.heap.get? s2.heap.objs.size=some { cls:=.type "list",data:=.seq its.toArray n }->Inv X pins σ H' s'->(∃m,s'.heap.Ns C m)->s2.heap.objs.size<C->H' C=none->RR (.ref s2.heap.objs.size) C (.ok .next) s') :
  wpAny (model X.prog X.w) X.A (newList []) (λacc s₃=>wpAny (model X.prog X.w) X.A (newFunctionEnv scope X.env.globals cl [] X.env.qual none .none (some X.env)) (λcenv s₄ =>
   codeAny (model X.prog X.w) X.A (.compStart (.ListComp elt [⟨target,iter,ifs,0⟩] scope pos) 0 (.ref it) acc { cenv with scope:=relabel scope X.env }) (RR acc cenv.locals) s₄) E s₃) E s2:=by
 refine fE (wpAny_newFunctionEnv Sc.nocell (by intro y hy;simp at hy) (λh₁ hns₁ hsb₁=>?_) Sc.kind)
 dsimp only at hns₁ hsb₁ ⊢
 generalize hH2:s2.heap.push { cls:=.type "list",dict:=none,data:=.seq ([]:List aD).toArray } = HP2 at hns₁ hsb₁ ⊢
 have hCs:HP2.objs.size=s2.heap.objs.size+1:=by rw[<-hH2,gD]
 have hltC:s2.heap.objs.size<HP2.objs.size:=by rw[hCs];exact mE _
 have hlt:∀b∈fp,b<s2.heap.objs.size:=λb hb=>by
  obtain⟨o,ho,_⟩:=T.obj 0 _ st b hb
  exact aU ho
 have old:∀b o,s2.heap.get? b=some o->h₁.get? b=some o:=λb o e =>
  hsb₁.extBut b o (bH (qP (aU e) hltC)) (aN _ (hH2 ▸ aN _ e))
 have hacc:h₁.get? s2.heap.objs.size=some { cls:=.type "list",data:=.seq ([]:List aD).toArray 0 } :=
  hsb₁.extBut _ _ (bH hltC) (aN _ (hH2 ▸ bI _ rfl))
 have hfr:H s2.heap.objs.size=none:=I2.hok.fresh (bK _)
 let X':=oC X scope N cl HP2.objs.size s2 H fp
 have J0:Inv X' [] (SY σ k ix) H { s2 with heap:=h₁,toks:=s2.toks+([]:List (Str × aD)).length } :=
  Il I2 Sc hcl hall (mT hltC) hf hlt old rfl I2.bare hns₁ hN hdrop hix hiy hkind
 have S0:StOk X' (EI ρ k ix) (SY σ k ix) H:=Sa so rfl rfl
 have hD0fs:s2.heap.objs.size ∉ X'.fs:=λhb=>by
  have hb:s2.heap.objs.size∈frs X.stack:=hb
  rcases aK.mp (I2.stkSub _ hb) with e | e
  ·exact absurd (show X.env.locals<X.env.locals from Nat.lt_of_lt_of_eq I2.lt e) (hV _)
  ·exact I2.nofs (bK _) e
 have fpok:∀{H':Hp} {o:Obj},(∀b∈fp,H' b=none)->∀b∈fp,OU X' [(s2.heap.objs.size,o)] H' b:=λ{H' o} hn b hb=>by
  obtain⟨f0,f1,f2,f3,f4,f5⟩:=hf b hb
  refine⟨hn b hb,bH (qP (hlt b hb) hltC),λhfs=>?_,.inl hb,λx c e=>f4 x c (hcl x c e),λp hp=>?_⟩
  ·rcases aK.mp (I2.stkSub b hfs) with e | e
   ·exact f1 e
   ·exact f2 e
  ·have:p=(s2.heap.objs.size,o):=by simpa [X',oC] using hp
   subst this
   exact eB (hlt b hb)
 have pinD:∀{σ':St} {H':Hp} {s':aG} {its:List aD} {n:Nat},Inv X' [] σ' H' s'->H' s2.heap.objs.size=none->s'.heap.get? s2.heap.objs.size=some { cls:=.type "list",data:=.seq its.toArray n }->Inv X' [(s2.heap.objs.size,{ cls:=.type "list",data:=.seq its.toArray n })] σ' H' s':=λI' hn e =>
  I'.pins_of λp hp=>by
   have:=dU.mp hp
   subst this
   exact⟨e,hn,bH hltC,hD0fs,λv z=>by cases z⟩
 have loop:∀s₃:aG,s₃ = { s2 with heap:=h₁,toks:=s2.toks+([]:List (Str × aD)).length } ->
   codeAny (model X.prog X.w) X.A (.compLoop (.ListComp elt [⟨target,iter,ifs,0⟩] scope pos) 0 (.ref it) (.ref s2.heap.objs.size) (compEnvC scope cl HP2.objs.size X.env)) (RR (.ref s2.heap.objs.size) HP2.objs.size) s₃:=by
  rintro s₃ rfl
  refine Ep (λm s'=>∃(i:Nat) (ρ':En) (σ':St) (H':Hp) (ds:List D) (vs:List V) (its:List aD) (n:Nat),m=xs.length-i/\i<=xs.length/\Inv X' [] σ' H' s'/\StOk X' ρ' σ' H'/\tn i s'.heap/\(∀b∈fp,H' b=none) /\
   H' s2.heap.objs.size=none/\s'.heap.get? s2.heap.objs.size=some { cls:=.type "list",data:=.seq its.toArray n }/\Reps X.K H' ds vs/\Vals vs its/\vs.length<=i/\oB g tt te (xs.drop i) ρ' ds P) ?_ xs.length
   ⟨0,EI ρ k ix,SY σ k ix,H,[],[],[],0,rfl,gL _,J0,S0,T.keep _ _ _ st (λb hb o e=>old b o e),λb hb=>(hf b hb).1,hfr,hacc,.nil,.nil,bK _,by simpa using hP⟩
  rintro m s' ⟨i,ρ',σ',H',ds,vs,its,n,rfl,hi,I',S',st',fr',hn',e',rr,rv,hl,hD⟩ E'
  obtain⟨o1,o2⟩:=ok i H' (.of S'.same)
  have I1:=pinD I' hn' e'
  by_cases hlt':i<xs.length
  ·have e:xs.drop i=xs[i]::xs.drop (i+1):=gM hlt'
   rw[e] at hD
   obtain⟨go,yl⟩:=o1 xs[i] (aF hlt')
   refine thn (T.item X' rfl rfl rfl hc i _ s' σ' H' E' I1 (fpok fr') st' go) λr s4 ⟨u,hr,h4⟩=>?_
   subst hr
   refine thn h4 λ_ s5 ⟨x,H5,I5,r5,y5,st5,fr5⟩=>?_
   obtain⟨s45,rx5⟩:=yl x H5 y5
   have I5':=I5.pinned (fpok fr5) (T.obj _ _ st5)
   refine jL (hg _ _ _ _ _ s5 σ' H5 x u (λσ6 H6=>∃ρ6,tt ρ6 (λb=>if b=true then te ρ6 (λd=>oB g tt te (xs.drop (i+1)) ρ6 (ds++[d]) P) else oB g tt te (xs.drop (i+1)) ρ6 ds P)/\Keep H5 H6/\StOk X' ρ6 σ6 H6) I5' r5 ⟨xs[i],ρ',_,rx5,S'.ext s45,hD,λρ6 σ6 H6 q6 k6 s6=>⟨ρ6,q6,k6,s6⟩⟩) (λ_ s6' ⟨σ6,H6',I6',ρ6,q6',k6',S6'⟩=>?_) λ_ _ z=>z.elim
   refine jL (hif _ _ _ _ _ s6' σ6 H6' (λb H6=>(if b=true then te ρ6 (λd=>oB g tt te (xs.drop (i+1)) ρ6 (ds++[d]) P) else oB g tt te (xs.drop (i+1)) ρ6 ds P)/\Same H6' H6) I6' ⟨ρ6,_,S6',q6',λb H6 hb s6=>⟨hb,s6⟩⟩) (λokb s6 ⟨H6,I6,q6,s66⟩=>?_) λ_ _ z=>z.elim
   have k6:Keep H5 H6:=k6'.trans (.of s66)
   have S6:StOk X' ρ6 σ6 H6:=S6'.ext s66
   cases okb with
   | false =>
    have q6:oB g tt te (xs.drop (i+1)) ρ6 ds P:=q6
    show ∃m,m<xs.length-i/\_
    obtain⟨e7,n7,_,_,_⟩:=I6.pin (s2.heap.objs.size,_) (bT _ (gK _ cF))
    refine⟨xs.length-(i+1),by lia,i+1,ρ6,σ6,H6,ds,vs,its,n,rfl,hlt',I6.pins_of λp hp=>absurd hp (by simp),S6,?_,λb hb=>?_,n7,e7,rr.keep ((Keep.of s45).trans k6),rv,Nat.le_succ_of_le hl,q6⟩
    ·exact T.keep _ _ _ st5 λb hb o q=>(I6.pin (b,o) (bT _ (bT _ (sA hb q)))).1
    ·obtain⟨o,q,_⟩:=T.obj _ _ st5 b hb
     exact (I6.pin (b,o) (bT _ (bT _ (sA hb q)))).2.1
   | true =>
   have q6:te ρ6 (λd=>oB g tt te (xs.drop (i+1)) ρ6 (ds++[d]) P):=q6
   show wpAny _ _ (eval elt _) _ _ s6
   refine jL (he _ _ _ _ _ s6 σ6 H6 (λv H7=>∃d,oB g tt te (xs.drop (i+1)) ρ6 (ds++[d]) P/\Same H6 H7/\Rep X.K H7 d v) I6 ⟨ρ6,_,S6,q6,λd v H7 q7 s7 r7=>⟨d,q7,s7,r7⟩⟩) (λu7 s7 ⟨v7,H7,I7,rv7,d,q7,s67,r7⟩=>?_) λ_ _ z=>z.elim
   obtain⟨e7,n7,_,_,_⟩:=I7.pin (s2.heap.objs.size,_) (bT _ (gK _ cF))
   have hsz:its.toArray.size+1<=sizeLine:=by
    rw[bD,<-rv.length]
    lia
   refine xN F.slot_list_append ⟨_,e7,rfl⟩ F.entry_list_append (F.args_list_append_2 _ _) (FV s2.heap.objs.size its.toArray n u7 (by lia)) ⟨e7,?_⟩
   have e8:=HZ e7 (λa=>a.push u7)
   have I8:Inv X' [] σ6 H7 s7:=I7.pins_of λp hp=>absurd hp (by simp)
   have upd8:∀b o,b≠s2.heap.objs.size->s7.heap.get? b=some o->(s7.heap.update s2.heap.objs.size (dH λa=>a.push u7)).get? b=some o:=λb o hb q=>(cE s7.heap _ (Ne.symm hb)).trans q
   have I9:Inv X' [] σ6 H7 { s7 with heap:=s7.heap.update s2.heap.objs.size (dH λa=>a.push u7) } :=
    I8.turned (t':=s7.toks) upd8 n7 (bH hltC) (.inr (bK _)) (λx c q z=>by
     obtain⟨v,hv⟩:=I2.cell x c (hcl x c q)
     exact absurd hv.lt (by rw[z];exact hV _)) (λp hp=>absurd (show p∈([]:List (Addr × Obj)) from hp) (by simp))
   have k57:Keep H5 H7:=k6.trans (.of s67)
   have k':Keep H' H7:=(Keep.of s45).trans k57
   refine⟨xs.length-(i+1),by lia,i+1,ρ6,σ6,H7,ds++[d],vs++[v7],its++[u7],_,rfl,hlt',I9,S6.ext s67,?_,λb hb=>?_,n7,by simpa using e8,(rr.keep k').append (.cons r7 .nil),rv.append (.cons rv7 .nil),by rw[dI];exact HW hl,q7⟩
   ·refine T.keep _ _ _ st5 λb hb o q=>?_
    have q7':=(I7.pin (b,o) (bT _ (bT _ (sA hb q)))).1
    exact upd8 b o (bH (hlt b hb)) q7'
   ·obtain⟨o,q,_⟩:=T.obj _ _ st5 b hb
    exact (I7.pin (b,o) (bT _ (bT _ (sA hb q)))).2.1
  ·have hie:i=xs.length:=by lia
   subst hie
   rw[HN] at hD
   refine thn (T.done X' rfl rfl rfl hc _ _ s' σ' H' E' I1 (fpok fr') st' (o2 (bK _))) λr s4 ⟨hr,I4⟩=>?_
   subst hr
   obtain⟨e4,n4,_,_,_⟩:=I4.pin (s2.heap.objs.size,_) (bT _ cF)
   obtain⟨m4,hn4,_⟩:=I4.loc
   have I5:Inv X pins σ H' s4:=I2.call' (ch:=fp) I4.os I4.base I4.hok I4.bare λb hb=>by
    obtain⟨f0,f1,f2,f3,f4,f5⟩:=hf b hb
    exact⟨f3,f1,f4,f5⟩
   exact post ds vs its n HP2.objs.size s4 H' hD S'.same n4 rr rv (fO hl hz) e4 I5 ⟨m4,hn4⟩ hltC I4.free
 exact codeAny_compStart_list (loop _ rfl) (T.self X.A 0 _ _ _ (T.keep _ _ _ st λb hb o e=>old b o e) (loop _ rfl))
end
def QT (X:Cx) (scope:Scope) (N:List Str) (k:Nat) (ix:List Nat):Bool :=
 scope.kind == .function && scope.names.all (λy=>y.2 != .cell) && scope.names.all (λy=>y.2 != .local || scope.names.lookup y.1 == some .local) &&
 scope.names.all (λy=>y.2 != .free || X.env.kindOf y.1 == some .cell || X.env.kindOf y.1 == some .free) &&
 N.length == k+ix.length && ((N.drop k).zip ix).all (λp=>X.N[p.2]? == some p.1 && scope.names.contains (p.1,.free)) &&
 (N.drop k).all (λy=>(relabel scope X.env).names.lookup y == some .cell || (relabel scope X.env).names.lookup y == some .free)
structure CompF (X:Cx) (scope:Scope) (N:List Str) (k:Nat) (ix:List Nat):Prop where
 sc:CScope X scope
 hN:N.length=k+(N.drop k).length
 hix:ix.length=(N.drop k).length
 hiy:∀(j:Nat) (y:Str) (i:Nat),(N.drop k)[j]? = some y->ix[j]? = some i->X.N[i]? = some y/\(y,iK)∈scope.names
 hkind:∀y∈N.drop k,(relabel scope X.env).names.lookup y=some .cell\/(relabel scope X.env).names.lookup y=some .free
theorem VG {X:Cx} {scope:Scope} {N:List Str} {k:Nat} {ix:List Nat} (h:QT X scope N k ix=true):CompF X scope N k ix:=by
 unfold QT at h
 simp only[fC,jH,bne_iff_ne,ne_eq,pO,beq_iff_eq] at h
 obtain⟨⟨⟨⟨⟨⟨h1,h2⟩,h3⟩,h4⟩,h5⟩,h6⟩,h7⟩:=h
 have hl:(N.drop k).length=ix.length:=by rw[mC];lia
 refine⟨⟨h1,h2,λy hy e=>?_,λy hy e=>?_⟩,by lia,hl.symm,λj y i e1 e2=>?_,h7⟩
 ·rcases h3 y hy with q | q
  ·exact absurd e q
  ·exact q
 ·rcases h4 y hy with (q | q) | q
  ·exact absurd e q
  ·exact .inl q
  ·exact .inr q
 ·have hm:(y,i)∈(N.drop k).zip ix:=by
   refine eY (i:=j) ?_
   rw[lF]
   exact⟨e1,e2⟩
  obtain⟨q1,q2⟩:=h6 _ hm
  exact⟨q1,List.contains_iff_mem.mp q2⟩
def yL (ti:RA) (k:Nat) (ix:List Nat) (g:RG) (te:RE):RA:=λρ Q=>ti ρ λxs=>Sz xs.length/\GB g te xs (EI ρ k ix) [] Q
def UM (ti:RA) (k:Nat) (ix:List Nat) (g:RG) (tt:RT) (te:RE):RA:=λρ Q=>ti ρ λxs=>Sz xs.length/\oB g tt te xs (EI ρ k ix) [] Q
theorem RX {ti:RA} {k:Nat} {ix:List Nat} {g:RG} {te:RE}:UM ti k ix g Ls te=yL ti k ix g te:=by
 funext ρ Q
 unfold UM yL
 congr 1
 funext xs
 rw[QU]
section
variable {X:Cx} {scope:Scope} {elt target iter:Expr} {ifs:List Expr} {pos:Pos} {g:RG} {tt:RT} {te:RE} {ti:RA}
theorem JH {pins:List (Addr × Obj)} {σ:St} {H H':Hp} {s s':aG} {C:Addr} {h':Heap} {t':Nat} (I2:Inv X pins σ H s) {σ':St} (I':Inv X pins σ' H' s') (hC:s.heap.objs.size<=C) (hn:H' C=none) (hs:mN C s'.heap h') :
  Inv X pins σ' H' { s' with heap:=h',toks:=t' } :=
 I'.turned (λb o hb e=>(hs.2 b hb).trans e) hn (eB (bR I2.lt hC)) (.inr (fO I2.sz hC)) (λx c e z=>by
  obtain⟨v,hv⟩:=I2.cell x c e
  exact absurd (bR hv.lt (by rw[z];exact hC)) (hV _)) λp hp z=>absurd (bR (aU (I2.pin p hp).1) (by rw[z];exact hC)) (hV _)
theorem Jj (N:List Str) (k:Nat) (ix:List Nat) (hi:DI X target iter ti) (hg:∀cl C s H fp,DG (oC X scope N cl C s H fp) target g) (hif:∀cl C s H fp,Ms (oC X scope N cl C s H fp) ifs tt) (he:∀cl C s H fp,DE (oC X scope N cl C s H fp) elt te)
  (hc:X.calm=true:=by rfl) (hB:QT X scope N k ix=true:=by rfl) (hs:∀x,foldedSetIterable iter X.env x=pure x:=by intro _;rfl):DO X (.ListComp elt [⟨target,iter,ifs,0⟩] scope pos) (UM ti k ix g tt te):=by
 intro pins s σ H Q I hh_0
 obtain⟨ρ,P,so,q,kk⟩:=hh_0
 have F:=VG hB
 obtain⟨cl,hclos,hcl,hall⟩:=MK (scope:=scope) (env:=X.env) λy hy hf=>I.ok.has _ (F.sc.frees y hy hf)
 rw[eval_ListComp]
 refine vV (use:=none) rfl hs hclos F.sc.kind F.sc.locs (thn (hi pins s σ H (λJ H'=>∃xs,Same H H'/\Hs X J xs H'/\xs.length<=sizeLine/\oB g tt te xs (EI ρ k ix) [] P) I ⟨ρ,_,so,q,λxs J H' hx s1 ok=>⟨xs,s1,ok,hx.1.ok,hx.2⟩⟩) λv s1 h1=>thn h1 λitv s2 h2=>?_)
 obtain⟨it,fp,tn,J,H',rfl,I2,T,st,hf,xs,s01,ok,hz,hD⟩:=h2
 refine QV (RR:=λacc C=>compPost (model X.prog X.w) X.A X.xe none (EP X pins σ Q) acc C) hc F.sc hcl hall F.hN rfl F.hix F.hiy F.hkind (hg cl) (hif cl) (he cl) I2 (so.ext s01) T st hf ok hz hD ?_
 intro ds vs its n C s' H2 hP s12 hn rr rv hl e I' ⟨m,hns⟩ hltC hnC
 refine⟨m,hns,λh' hs'=>?_⟩
 have I3:Inv X pins σ H2 { s' with heap:=h' }:=JH (t':=s'.toks) I2 I' (mT hltC) hnC hs'
 have e3:h'.get? s2.heap.objs.size=some { cls:=.type "list",data:=.seq its.toArray n }:=(hs'.2 _ (bH hltC)).trans e
 exact⟨.ref s2.heap.objs.size,_,I2.track I3 (bK _) hn e3 rv hl,rfl,kk ds _ vs H2 hP (s01.trans s12) hn rr⟩
theorem Jm {i:Nat} {y:Str} {pos' spos:Pos} (N:List Str) (k:Nat) (ix:List Nat) (hN:X.N.Nodup) (hi:DI X target iter ti) (hg:∀cl C s H fp,DG (oC X scope N cl C s H fp) target g) (hif:∀cl C s H fp,Ms (oC X scope N cl C s H fp) ifs tt) (he:∀cl C s H fp,DE (oC X scope N cl C s H fp) elt te)
  (hy:X.N[i]? = some y:=by rfl) (hx:X.env.scope.names.lookup y=some .local:=by rfl) (hc:X.calm=true:=by rfl) (hB:QT X scope N k ix=true:=by rfl) (hs:∀x,foldedSetIterable iter X.env x=pure x:=by intro _;rfl)
  (hsw:swapsWith (.ListComp elt [⟨target,iter,ifs,0⟩] scope pos) (some (.Name y pos')) spos.line X.env=pure true:=by rfl) :
  DS X (.Assign [.Name y pos'] (.ListComp elt [⟨target,iter,ifs,0⟩] scope pos) spos) (sZ i (UM ti k ix g tt te)):=by
 intro pins s σ H De I hh_0
 obtain⟨ρ,E,so,q,nn,rt,bk,ct⟩:=hh_0
 have F:=VG hB
 obtain⟨cl,hclos,hcl,hall⟩:=MK (scope:=scope) (env:=X.env) λy hy hf=>I.ok.has _ (F.sc.frees y hy hf)
 rw[exec_Assign_Name_used _ _ _ _ hsw]
 refine aA (DK (aA ?_))
 show wpAny _ X.A (do let _ <-comprehension (.ListComp elt [⟨target,iter,ifs,0⟩] scope pos) scope X.env _ (newList []) false (eval iter X.env) (some (assign (.Name y pos') X.env))) _ _ s
 refine aA (jL (vV (use:=some (assign (.Name y pos') X.env)) (Q:=λ_ s'=>SP X pins De .next s') rfl hs hclos F.sc.kind F.sc.locs
  (thn (hi pins s σ H (λJ H'=>∃xs,Same H H'/\Hs X J xs H'/\xs.length<=sizeLine/\oB g tt te xs (EI ρ k ix) [] (λds=>E.nx (ρ.set i (some (.own ds))))) I ⟨ρ,_,so,q,λxs J H' hx s1 ok=>⟨xs,s1,ok,hx.1.ok,hx.2⟩⟩) λv s1 h1=>thn h1 λitv s2 h2=>?_)) (λ_ s' hq=>aI (aI hq)) λ_ _ e=>e)
 obtain⟨it,fp,tn,J,H',rfl,I2,T,st,hf,xs,s01,ok,hz,hD⟩:=h2
 refine QV (RR:=λacc C=>compPost (model X.prog X.w) X.A X.xe (some (assign (.Name y pos') X.env)) (λ_ s'=>SP X pins De .next s') acc C) hc F.sc hcl hall F.hN rfl F.hix F.hiy F.hkind (hg cl) (hif cl) (he cl) I2 (so.ext s01) T st hf ok hz hD ?_
 intro ds vs its n C s' H2 hP s12 hn rr rv hl e I' ⟨m,hns⟩ hltC hnC
 have I3:=I2.track I' (bK _) hn e rv hl
 have hneC:s2.heap.objs.size≠C:=bH hltC
 have so3:StOk X (ρ.set i (some (.own ds))) (σ.set i (some (.ref s2.heap.objs.size))) (upd H2 s2.heap.objs.size (.lst vs)):=(so.ext (s01.trans s12)).set_own hn rr
 have k3:Keep H (upd H2 s2.heap.objs.size (.lst vs)):=(Keep.of (s01.trans s12)).trans (.ofF λb o h=>by rw[cT (eT h hn)];exact h)
 show wpAny (model X.prog X.w) X.A (assign (.Name y pos') X.env (.ref s2.heap.objs.size)) _ _ s'
 refine HI (SF I3 hN hy (.inl hx) (v:=.ref s2.heap.objs.size) rfl (λs4 I4 ⟨a,sb,ha⟩=>?_) (.inr hx))
 have hCa:C≠a:=by
  rcases ha with rfl | ha
  ·exact eB (qP I2.lt hltC)
  ·obtain⟨v,hv⟩:=I2.cell _ a ha
   exact eB (qP hv.lt hltC)
 refine⟨m,hns.sameBut sb hCa,λh' hs'=>⟨_,_,JH (t':=s4.toks) I2 I4 (mT hltC) (by rw[cT (Ne.symm hneC)];exact hnC) hs',nn _ _ _ hP k3 so3⟩⟩
theorem Cv (N:List Str) (k:Nat) (ix:List Nat) (hi:DI X target iter ti) (hg:∀cl C s H fp,DG (oC X scope N cl C s H fp) target g) (he:∀cl C s H fp,DE (oC X scope N cl C s H fp) elt te)
  (hc:X.calm=true:=by rfl) (hB:QT X scope N k ix=true:=by rfl) (hs:∀x,foldedSetIterable iter X.env x=pure x:=by intro _;rfl):DO X (.ListComp elt [⟨target,iter,[],0⟩] scope pos) (yL ti k ix g te):=by
 rw[<-RX];exact Jj N k ix hi hg (λ_ _ _ _ _=>VU) he hc hB hs
theorem TF {i:Nat} {y:Str} {pos' spos:Pos} (N:List Str) (k:Nat) (ix:List Nat) (hN:X.N.Nodup) (hi:DI X target iter ti) (hg:∀cl C s H fp,DG (oC X scope N cl C s H fp) target g) (he:∀cl C s H fp,DE (oC X scope N cl C s H fp) elt te)
  (hy:X.N[i]? = some y:=by rfl) (hx:X.env.scope.names.lookup y=some .local:=by rfl) (hc:X.calm=true:=by rfl) (hB:QT X scope N k ix=true:=by rfl) (hs:∀x,foldedSetIterable iter X.env x=pure x:=by intro _;rfl)
  (hsw:swapsWith (.ListComp elt [⟨target,iter,[],0⟩] scope pos) (some (.Name y pos')) spos.line X.env=pure true:=by rfl) :
  DS X (.Assign [.Name y pos'] (.ListComp elt [⟨target,iter,[],0⟩] scope pos) spos) (sZ i (yL ti k ix g te)):=by
 rw[<-RX];exact Jm N k ix hN hi hg (λ_ _ _ _ _=>VU) he hy hx hc hB hs hsw
end
section
variable {X:Cx} {e a b:Expr} {pos apos cpos npos:Pos} {te:RE} {x:Str}
def vB (i:Nat) (te:RE):RS:=λE ρ=>match ρ[i]? with
 | some (some (.own xs))=>te ρ λd=>Sz (xs.length+1)/\E.nx (ρ.set i (some (.own (xs++[d]))))
 | _=>False
theorem qA (i:Nat) (he:DE X e te) (hN:X.N[i]? = some x:=by rfl) (hv:Vis X.env.scope x:=by walk_at "vis") (hd:(x == ("__debug__":Str))=false:=by decide) (hcd:(x == ("__classdict__":Str))=false:=by decide)
  (hbase:attributeBase (.Name x npos) "append" X.env (eval (.Name x npos) X.env)=eval (.Name x npos) X.env:=by rfl)
  (hfew:((backTo cpos (starEach [e] X.env)).all (λx=>!x.1) && (backToKw cpos (keywordEach [] X.env)).all (λx=>x.1.isSome) && decide (([e]:List Expr).length+([]:List BC).length+(if ([]:List BC).isEmpty then 0 else 1)<30))=true:=by rfl)
  (hline:(apos.endLine == cpos.line)=true:=by rfl) (hs:starEach [e] X.env=[(false,eval e X.env)]:=by rfl) (hn:starEach [] X.env=[]:=by rfl) (hsw:swapsWith (.Call (.Attribute (.Name x npos) "append" apos) [e] [] cpos) none pos.line X.env=pure false:=by rfl) :
  DS X (.Expr (.Call (.Attribute (.Name x npos) "append" apos) [e] [] cpos) pos) (vB i te):=by
 refine PS.mono (UI (Rt mF PySem.F.slot_list_append PySem.F.type_list_append Ga (pv i hN hv hd hcd) (vS he hs hn) hbase hfew hline (by rw[hs,hn]) (by rw[hn];rfl)) hsw) λDe σ H hh=>rW hh λρ E so q n r bk ct=>?_
 unfold vB at q
 split at q
 ·rename_i xs ex
  obtain⟨v,h1,p,vs,ev,hp,h0,rr⟩:=so.rel i _ ex
  subst ev
  refine⟨.ref p,h1,.inl ⟨rfl,vs,SqL.of hp⟩,ρ,_,so,q,λd v H1 hd s1 rd=>?_⟩
  have hp1:=s1.get _ _ hp trivial
  obtain⟨so2,k2⟩:=(so.ext s1).upd_own ex h1 hp1 h0 ((rr.keep (.of s1)).append (.cons rd .nil))
  have hsz:xs.length+1<=sizeLine:=hd.1.ok
  exact⟨p,vs,v,rfl,rfl,hp1,by rw[<-rr.length];lia,n _ _ _ hd.2 ((Keep.of s1).trans k2) so2⟩
 ·exact q.elim
def Dv (i:Nat):RS:=λE ρ=>match ρ[i]? with
 | some (some (.own xs))=>xs≠[]/\E.nx (ρ.set i (some (.own xs.dropLast)))
 | _=>False
theorem Sf (i:Nat) (hN:X.N[i]? = some x:=by rfl) (hv:Vis X.env.scope x:=by walk_at "vis") (hd:(x == ("__debug__":Str))=false:=by decide) (hcd:(x == ("__classdict__":Str))=false:=by decide)
  (hbase:attributeBase (.Name x npos) "pop" X.env (eval (.Name x npos) X.env)=eval (.Name x npos) X.env:=by rfl)
  (hline:(apos.endLine == cpos.line)=true:=by rfl) (hsw:swapsWith (.Call (.Attribute (.Name x npos) "pop" apos) [] [] cpos) none pos.line X.env=pure false:=by rfl) :
  DS X (.Expr (.Call (.Attribute (.Name x npos) "pop" apos) [] [] cpos) pos) (Dv i):=by
 refine PS.mono (UI (Lc mF PySem.F.slot_list_pop PySem.F.type_list_pop Tc (pv i hN hv hd hcd) hbase hline) hsw) λDe σ H hh=>rW hh λρ E so q n r bk ct=>?_
 unfold Dv at q
 split at q
 ·rename_i xs ex
  obtain⟨v,h1,p,vs,ev,hp,h0,rr⟩:=so.rel i _ ex
  subst ev
  have hl:=rr.length
  have hne:0<xs.length:=kD.mpr q.1
  have hg:vs[vs.length-1]? = some (vs[vs.length-1]'(by lia)):=aF _
  obtain⟨so2,k2⟩:=so.upd_own ex h1 hp h0 rr.dropLast
  exact⟨.ref p,h1,.inl ⟨rfl,vs,SqL.of hp⟩,p,vs,_,rfl,rfl,hp,hg,n _ _ _ q.2 k2 so2⟩
 ·exact q.elim
def Ud (i:Nat) (te tk:RE):RS:=λE ρ=>match ρ[i]? with
 | some (some (.own xs))=>te ρ λd=>tk ρ λkd=>match kd with
  | .int k=>match ixN xs.length k with
   | some j=>E.nx (ρ.set i (some (.own (xs.set j d))))
   | none=>False
  | _=>False
 | _=>False
end
section
variable {X:Cx} {e a b:Expr} {pos p:Pos}
theorem Pc:OpR X (binaryOp .Add) (λx y H Q=>∃l b xs zs,x = .ref l/\y = .ref b/\SqL X.K H l xs/\SqL X.K H b zs/\xs.length+zs.length<=sizeLine/\∀p,H p=none->Q (.ref p) (upd H p (.lst (xs++zs)))):=by
 intro pins s σ H x y v u Q I rx ry h
 obtain⟨l,b,xs,zs,rfl,rfl,hH,hB,hz,q⟩:=h
 cases rx
 cases ry
 obtain⟨its,r,⟨o,n,e,hc,hd,hs⟩,hl⟩:=I.list hH
 obtain⟨its2,r2,⟨o2,n2,e2,hc2,hd2,hs2⟩,hl2⟩:=I.list hB
 obtain⟨c,d,dt,sl⟩:=o
 obtain⟨c2,d2,dt2,sl2⟩:=o2
 dsimp only at hc hs hd hc2 hs2 hd2
 subst hc hs hd hc2 hs2 hd2
 have hl1:=r.length
 have hl2:=r2.length
 refine GC (T:="list") (id:="list.__add__") ⟨_,e,rfl⟩ ⟨_,e2,rfl⟩ (by kernel_rfl) (by kernel_rfl) PySem.F.slot_list_add PySem.F.entry_list_add (PySem.F.args_list_add_2 _ _)
  (list_addW l b its.toArray its2.toArray n n2 none none sl sl2 (by rw[bD,bD];lia)) ⟨e,e2,?_⟩
 have ea:its.toArray++its2.toArray=(its++its2).toArray:=by simp
 rw[ea]
 exact⟨.ref _,_,I.lnew (t':=s.toks) (r.append r2) (by rw[dI];lia),rfl,q _ I.fresh⟩
def FzQ (X:Cx) (Q:VK):VK:=λv H'=>Q v H'\/∃p vs H1,v = .ref p/\H'=upd H1 p (.lst vs)/\H1 p=none/\∀H2,Same H1 H2->FzL X.K H2 p vs->Q v H2
theorem Rf {pins:List (Addr × Obj)} {σ:St} {Q:VK} {u:aD} {s:aG} (h:EP X pins σ (FzQ X Q) u s):EP X pins σ Q u s:=by
 obtain⟨v,H',I,rv,q | ⟨p,vs,H1,rfl,rfl,hn,q⟩⟩:=h
 ·exact⟨v,H',I,rv,q⟩
 ·obtain⟨o,I2⟩:=Inv.freeze I (a:=p) (xs:=vs) fK
  exact⟨.ref p,_,I2,rv,q _ (.fn λb u e=>by rw[cT (eT e hn),cT (eT e hn)];exact e) (.inl ⟨o,fK⟩)⟩
theorem PE.frz {t:TE} (h:PE X e t):PE X e (λσ H Q=>t σ H (FzQ X Q)):=λpins s σ H Q I q=>thn (h pins s σ H _ I q) λ_ _=>Rf
theorem OpR.frz {f:aD->aD->Sem aD} {r:R2} (h:OpR X f r):OpR X f (λx y H Q=>r x y H (FzQ X Q)):=λpins s σ H x y v u Q I rx ry q=>thn (h pins s σ H x y v u _ I rx ry q) λ_ _=>Rf
def CC:R22:=λx y Q=>match x,y with
 | .int i,.int j=>Q (.int (i+j))
 | .lst xs,.lst ys=>Sz (xs.length+ys.length)/\Q (.lst (xs++ys))
 | .tup xs,.tup ys=>xs≠[]/\Sz (xs.length+ys.length)/\Q (.tup (xs++ys))
 | _,_=>False
theorem upd_new {H:Hp} {p:Addr} {o:HO} (hp:H p=none):Same H (upd H p o):=Same.fn λb u e=>by rw[cT (eT e hp)];exact e
theorem LQ:OpD X (binaryOp .Add) CC:=by
 intro pins s σ H x y v u Q I rx ry hh_0
 obtain⟨d,e,P,r1,r2,q,k⟩:=hh_0
 unfold CC at q;split at q
 ·exact hE pins s σ H x y v u Q I rx ry ⟨_,_,P,r1,r2,q,k⟩
 ·rename_i xs ys
  obtain⟨a,vs,rfl,ha,ra⟩:=r1.lst
  obtain⟨b,ws,rfl,hb,rb⟩:=r2.lst
  have hsz:xs.length+ys.length<=sizeLine:=q.1.ok
  refine OpR.frz Pc pins s σ H _ _ v u Q I rx ry ⟨a,b,vs,ws,rfl,rfl,ha,hb,by rw[<-ra.length,<-rb.length];exact hsz,λp hp=>.inr ⟨p,_,H,rfl,rfl,hp,λH2 s2 fz=>k _ _ H2 q.2 s2 (.lst fz ((ra.append rb).keep (.of s2)))⟩⟩
 ·rename_i xs ys
  obtain⟨a,vs,rfl,ha,ra⟩:=r1.tup
  obtain⟨b,ws,rfl,hb,rb⟩:=r2.tup
  have hsz:xs.length+ys.length<=sizeLine:=q.2.1.ok
  have hl:=ra.length
  refine Pd pins s σ H _ _ v u Q I rx ry ⟨a,b,vs,ws,rfl,rfl,SqT.of ha,SqT.of hb,λz=>q.1 (wA.mp (by rw[hl,z];rfl)),by rw[<-ra.length,<-rb.length];exact hsz,λz=>?_,λz p hp=>?_⟩
  ·subst z
   cases rb
   have:=k _ (.ref a) H q.2.2 (Same.refl H)
   rw[eV] at this
   exact this (.tup ha ra)
  ·exact k _ _ _ q.2.2 (upd_new hp) (.tup fK ((ra.append rb).keep (.of (upd_new hp))))
 ·exact q.elim
def UN (te:RE) (tl th:RO):RE:=λρ Q=>te ρ λx=>tl ρ λl=>th ρ λu=>match x with
 | .lst ds=>Q (.lst (cutD ds l u))
 | .tup ds=>¬(HT.sIx ds.length 0 l=0/\HT.sIx ds.length ds.length u=ds.length)/\Q (.tup (cutD ds l u))
 | _=>False
theorem VI {K:aH} {H:Hp} {ds:List D} {vs:List V} (l u:Option Int) (rr:Reps K H ds vs):Reps K H (cutD ds l u) (PJ vs l u):=by
 unfold cutD PJ
 rw[<-rr.length]
 exact (rr.drop _).take _
theorem zX {lo hi:Option Expr} {te:RE} {tl th:RO} {p2:Pos} (he:DB X e te) (hl:DP X lo tl) (hu:DP X hi th):DE X (.Subscript e (.Slice lo hi none p2) pos) (UN te tl th):=by
 refine PE.mono (PE.frz (XH (Ea.or Uj) he hl hu)) λσ H Q hh=>iP hh λρ P st q k=>?_
 refine⟨ρ,_,st,q,λd v H1 hd s1 r1=>⟨ρ,_,st.ext s1,hd,λl H2 h2 s2=>⟨ρ,_,(st.ext s1).ext s2,h2,λu H3 h3 s3=>?_⟩⟩⟩
 have s03:=(s1.trans s2).trans s3
 cases d with
 | lst ds =>
  obtain⟨p,vs,rfl,hq,rr⟩:=(r1.same (s2.trans s3)).lst
  exact .inl ⟨p,vs,rfl,hq,λp' hp'=>.inr ⟨p',_,H3,rfl,rfl,hp',λH4 s4 fz=>k _ _ H4 h3 (s03.trans s4) (.lst fz ((VI l u rr).keep (.of s4)))⟩⟩
 | tup ds =>
  obtain⟨p,vs,rfl,hq,rr⟩:=(r1.same (s2.trans s3)).tup
  refine .inr ⟨p,vs,rfl,SqT.of hq,by rw[<-rr.length];exact h3.1,λp' hp'=>.inl ?_⟩
  exact k _ _ _ h3.2 (s03.trans (upd_new hp')) (.tup fK ((VI l u rr).keep (.of (upd_new hp'))))
 | _=>exact h3.elim
variable {te:RE}
def GF:D->(D->Prop)->Prop:=λd Q=>match d with
 | .lst ds=>Q (.lst ds)
 | .tup ds=>Q (.lst ds)
 | _=>False
theorem boot_list:bootBuiltins "list" = some (.type "list"):=by decide +kernel
theorem boot_tuple:bootBuiltins "tuple" = some (.type "tuple"):=by decide +kernel
theorem QZ (hm:X.mg "list" = none) (h:DB X e te) (hg:Gl X "list":=by rfl) (hs:starEach [e] X.env=[(false,eval e X.env)]:=by rfl) (hn:starEach [] X.env=[]:=by rfl):DE X (.Call (.Name "list" p) [e] [] pos) (r1 GF te):=by
 refine PE.mono (PE.frz (IR SX hg hm boot_list (vS h hs hn) (by decide) (by decide) (by rw[hs,hn]) (by rw[hn];rfl))) λσ H Q hh=>iP hh λρ P st q k=>⟨ρ,_,st,q,λd v H1 hd s1 r=>?_⟩
 unfold GF at hd;split at hd
 ·obtain⟨p,vs,rfl,hq,rr⟩:=r.lst
  exact⟨p,vs,rfl,.inl hq,λp' hp'=>.inr ⟨p',_,H1,rfl,rfl,hp',λH4 s4 fz=>k _ _ H4 hd (s1.trans s4) (.lst fz (rr.keep (.of s4)))⟩⟩
 ·obtain⟨p,vs,rfl,hq,rr⟩:=r.tup
  exact⟨p,vs,rfl,.inr (SqT.of hq),λp' hp'=>.inr ⟨p',_,H1,rfl,rfl,hp',λH4 s4 fz=>k _ _ H4 hd (s1.trans s4) (.lst fz (rr.keep (.of s4)))⟩⟩
 ·exact hd.elim
def ML:D->(D->Prop)->Prop:=λd Q=>match d with
 | .lst ds=>Q (.tup ds)
 | .tup ds=>Q (.tup ds)
 | _=>False
theorem VS (hm:X.mg "tuple" = none) (h:DB X e te) (hg:Gl X "tuple":=by rfl) (hs:starEach [e] X.env=[(false,eval e X.env)]:=by rfl) (hn:starEach [] X.env=[]:=by rfl):DE X (.Call (.Name "tuple" p) [e] [] pos) (r1 ML te):=by
 refine PE.mono (IR PF hg hm boot_tuple (vS h hs hn) (by decide) (by decide) (by rw[hs,hn]) (by rw[hn];rfl)) λσ H Q hh=>iP hh λρ P st q k=>⟨ρ,_,st,q,λd v H1 hd s1 r=>?_⟩
 unfold ML at hd;split at hd
 ·obtain⟨p,vs,rfl,hq,rr⟩:=r.lst
  exact⟨p,vs,rfl,.inl ⟨hq,λp' hp'=>k _ _ _ hd (s1.trans (upd_new hp')) (.tup fK (rr.keep (.of (upd_new hp'))))⟩⟩
 ·obtain⟨p,vs,rfl,hq,rr⟩:=r.tup
  exact⟨p,vs,rfl,.inr ⟨SqT.of hq,k _ _ H1 hd s1 (.tup hq rr)⟩⟩
 ·exact hd.elim
theorem zY:∀{ns:List Int} {its:List aD},Vals (ns.map V.int) its->∃xs:List (Int × Tok),its.toArray=intItems xs.toArray/\xs.map Prod.fst=ns
 | [],_,.nil=>⟨[],by simp[intItems],rfl⟩
 | n::ns,_,.cons ⟨t,rfl⟩ r=>by
  obtain⟨xs,h1,h2⟩:=zY r
  refine⟨(n,t)::xs,?_,by simp[h2]⟩
  have h3:=congrArg EW h1
  simp[intItems] at h3 ⊢
  exact h3
theorem BJ {ys:List (Int × Tok)} {ns:List Int} (h:ys.map Prod.fst=ns) {i:Nat} (hi:i<ns.length):numAt ys.toArray i=ns[i]:=by
 subst h
 have hi':i<ys.length:=by simpa using hi
 simp[numAt,hi']
theorem Ej (hc:X.calm=true):yF X (.builtin "max") (λxs H Q=>∃(p:Addr) (ns:List Int),xs=[.ref p]/\SqL X.K H p (ns.map V.int)/\ns≠[]/\∀M,M∈ns->(∀a∈ns,a<=M)->Q (.int M) H):=by
 intro pins s σ H xs us Q I r h
 obtain⟨p,ns,rfl,hq,hne,q⟩:=h
 obtain⟨u,rfl,rx⟩:=vals1 r
 cases rx
 obtain⟨its,r',pl,hz⟩:=I.list hq
 obtain⟨ys,h1,h2⟩:=zY r'
 rw[h1] at pl
 have hl:ys.length=ns.length:=by rw[<-h2];simp
 have hp:0<ns.length:=kD.mpr hne
 refine max_intList (I.ok.hd hc) pl.isList (by simpa [hl] using hp) λv h' tk hv hk=>?_
 obtain⟨t,rfl⟩:=intItems_at hv
 obtain⟨g1,g2⟩:=argBest_gt (numAt ys.toArray) (ys.toArray.size-1)
 have g3:argBest (λi j=>decide (numAt ys.toArray i > numAt ys.toArray j)) (ys.toArray.size-1)<ns.length:=by rw[<-hl];simp at g1 ⊢;lia
 refine⟨.int _,H,I.kept hk,⟨t,rfl⟩,q _ ?_ λa ha=>?_⟩
 ·rw[BJ h2 g3];exact oP g3
 ·obtain⟨j,hj,rfl⟩:=eQ ha
  rw[<-BJ h2 hj]
  exact g2 j (by simp[hl];lia)
theorem El (hc:X.calm=true):yF X (.builtin "min") (λxs H Q=>∃(p:Addr) (ns:List Int),xs=[.ref p]/\SqL X.K H p (ns.map V.int)/\ns≠[]/\∀M,M∈ns->(∀a∈ns,M<=a)->Q (.int M) H):=by
 intro pins s σ H xs us Q I r h
 obtain⟨p,ns,rfl,hq,hne,q⟩:=h
 obtain⟨u,rfl,rx⟩:=vals1 r
 cases rx
 obtain⟨its,r',pl,hz⟩:=I.list hq
 obtain⟨ys,h1,h2⟩:=zY r'
 rw[h1] at pl
 have hl:ys.length=ns.length:=by rw[<-h2];simp
 have hp:0<ns.length:=kD.mpr hne
 refine min_intList (I.ok.hd hc) pl.isList (by simpa [hl] using hp) λv h' tk hv hk=>?_
 obtain⟨t,rfl⟩:=intItems_at hv
 obtain⟨g1,g2⟩:=argBest_lt (numAt ys.toArray) (ys.toArray.size-1)
 have g3:argBest (λi j=>decide (numAt ys.toArray i<numAt ys.toArray j)) (ys.toArray.size-1)<ns.length:=by rw[<-hl];simp at g1 ⊢;lia
 refine⟨.int _,H,I.kept hk,⟨t,rfl⟩,q _ ?_ λa ha=>?_⟩
 ·rw[BJ h2 g3];exact oP g3
 ·obtain⟨j,hj,rfl⟩:=eQ ha
  rw[<-BJ h2 hj]
  exact g2 j (by simp[hl];lia)
def Xy:D->(D->Prop)->Prop:=λd Q=>match d with
 | .lst ds=>∃ns:List Int,ds=ns.map D.int/\Q (.int ns.sum)
 | _=>False
def Jd:D->(D->Prop)->Prop:=λd Q=>match d with
 | .lst ds=>∃ns:List Int,ds=ns.map D.int/\ns≠[]/\∀M,M∈ns->(∀a∈ns,a<=M)->Q (.int M)
 | _=>False
def Je:D->(D->Prop)->Prop:=λd Q=>match d with
 | .lst ds=>∃ns:List Int,ds=ns.map D.int/\ns≠[]/\∀M,M∈ns->(∀a∈ns,M<=a)->Q (.int M)
 | _=>False
theorem boot_max:bootBuiltins "max" = some (.builtin "max"):=by decide +kernel
theorem boot_min:bootBuiltins "min" = some (.builtin "min"):=by decide +kernel
theorem Nm (hm:X.mg "max" = none) (hc:X.calm=true) (h:DB X e te) (hg:Gl X "max":=by rfl) (hs:starEach [e] X.env=[(false,eval e X.env)]:=by rfl) (hn:starEach [] X.env=[]:=by rfl):DE X (.Call (.Name "max" p) [e] [] pos) (r1 Jd te):=by
 refine PE.mono (wM (Ej hc) hg hm boot_max (vS h hs hn) (by decide) (by decide) (by rw[hs,hn]) (by rw[hn];rfl)) λσ H Q hh=>iP hh λρ P st q k=>⟨ρ,_,st,q,λd v H1 hd s1 r=>?_⟩
 unfold Jd at hd;split at hd
 ·obtain⟨ns,rfl,hne,hd⟩:=hd
  obtain⟨p,vs,rfl,hq,rr⟩:=r.lst
  rw[rr.ints_inv] at hq
  exact⟨p,ns,rfl,hq,hne,λM m1 m2=>k _ _ H1 (hd M m1 m2) s1 (.int _)⟩
 ·exact hd.elim
theorem Nn (hm:X.mg "min" = none) (hc:X.calm=true) (h:DB X e te) (hg:Gl X "min":=by rfl) (hs:starEach [e] X.env=[(false,eval e X.env)]:=by rfl) (hn:starEach [] X.env=[]:=by rfl):DE X (.Call (.Name "min" p) [e] [] pos) (r1 Je te):=by
 refine PE.mono (wM (El hc) hg hm boot_min (vS h hs hn) (by decide) (by decide) (by rw[hs,hn]) (by rw[hn];rfl)) λσ H Q hh=>iP hh λρ P st q k=>⟨ρ,_,st,q,λd v H1 hd s1 r=>?_⟩
 unfold Je at hd;split at hd
 ·obtain⟨ns,rfl,hne,hd⟩:=hd
  obtain⟨p,vs,rfl,hq,rr⟩:=r.lst
  rw[rr.ints_inv] at hq
  exact⟨p,ns,rfl,hq,hne,λM m1 m2=>k _ _ H1 (hd M m1 m2) s1 (.int _)⟩
 ·exact hd.elim
end
section
variable {X:Cx} {tg e:Expr} {te:RE} {pos p:Pos}
def Wz (te:RE):RA:=λρ Q=>te ρ λd=>match d with
 | .lst ds=>Q ds.reverse
 | _=>False
theorem boot_reversed:bootBuiltins "reversed" = some (.type "reversed"):=by decide +kernel
end
structure Sub (prog:bV) (w:dE) (I a:Addr) (vs:List aD) (T:Nat->Heap->Prop):Prop where
 stay:∀{k:Nat} {h h':Heap},T k h->(∀o,h.get? I=some o->h'.get? I=some o)->(∀o,h.get? a=some o->h'.get? a=some o)->T k h'
 lt:∀{k:Nat} {h:Heap},T k h->I<h.objs.size/\a<h.objs.size
 item:∀{A:dF} {E:aD->aG->Prop} {s:aG} {k:Nat} {x:aD} {Q:aD->aG->Prop},T k s.heap->vs[k]? = some x->(∀h',T (k+1) h'->mN I s.heap h'->Q x { s with heap:=h' }) ->
  wpAny (model prog w) A (dA (.ref I)) Q E s
 done:∀{A:dF} {E:aD->aG->Prop} {s:aG} {k:Nat} {Q:aD->aG->Prop},A.handled=none->T k s.heap->vs[k]? = none ->
  (∀h' e,IY I s.heap h'->(∃o,h'.get? e=some o/\o.cls = .type "StopIteration")->E (.ref e) { s with heap:=h' })->wpAny (model prog w) A (dA (.ref I)) Q E s
theorem Mi {prog:bV} {w:dE} {I a:Addr} {vs:List aD} (ne:a≠I):Sub prog w I a vs (λk h=>h.IsListIter I a k/\h.IsList a vs.toArray) where
 stay:=λt e1 e2=>⟨t.1.at e1,t.2.at e2⟩
 lt:=λt=>by
  obtain⟨⟨o,e,_⟩,o2,e2,_⟩:=t
  exact⟨aU e,aU e2⟩
 item:=λt e q=>wpAny_nextOf_list_item t.1 t.2 (by simpa using e) λh' t' sb=>q h' ⟨t',t.2.extBut sb.extBut ne⟩ sb
 done:=λhh t e q=>wpAny_nextOf_list_end hh t.1 t.2 (by simpa using e) q
section
variable {prog:bV} {w:dE} {A:dF} {E:aD->aG->Prop} {s:aG}
theorem Ah {I a:Addr} {k:Nat} {vs:List aD} {x:aD} {Q:aD->aG->Prop} (hi:s.heap.IsTupleIter I a k) (ht:s.heap.IsTuple a vs.toArray) (hx:vs[k]? = some x)
  (q:∀h',h'.IsTupleIter I a (k+1)->mN I s.heap h'->Q x { s with heap:=h' }):wpAny (model prog w) A (dA (.ref I)) Q E s:=by
 obtain⟨o,eo,co,dO⟩:=id hi
 obtain⟨t,et,_,nt,dT⟩:=ht
 unfold dA
 apply aA;apply gU (name:=lM "__next__") hi.typeIs F.slot_tuple_iterator_next;apply iE F.slot_tuple_iterator_next hi.typeIs F.entry_tuple_iterator_next ?_ (F.args_tuple_iterator_next_1 _)
 show wpAny _ _ (field (.ref I) 0 >>= _) _ _ s
 apply aA;apply fQ eo dO (x:=.ref a) rfl
 show wpAny _ _ (if (fP a == gH)=true then _ else _) _ _ s
 rw[if_neg (by exact cJ)]
 show wpAny _ _ (field (.ref I) 1 >>= _) _ _ s
 apply aA;apply fQ eo dO (x:=.int k 0) rfl
 show wpAny _ _ (seqItems? (.ref a) >>= _) _ _ s
 have hx':vs.toArray[k]? = some x:=by simpa using hx
 apply aA;apply eO et dT;simp only[nR,hx']
 apply aA;apply AZ eo dO (by simp);apply aI
 refine⟨x,rfl,aI (q _ ⟨_,dQ _ eo (Obj.isFreed_of_fields (EA dO _)),(Obj.cls_mapFields ..).trans co,?_⟩ (gQ ..))⟩
 rw[EA dO];simp[rawInt]
theorem NH {I a:Addr} {k:Nat} {vs:List aD} {Q:aD->aG->Prop} (hh:A.handled=none) (hi:s.heap.IsTupleIter I a k) (ht:s.heap.IsTuple a vs.toArray) (hx:vs[k]? = none)
  (q:∀h' e,IY I s.heap h'->(∃o,h'.get? e=some o/\o.cls = .type "StopIteration")->E (.ref e) { s with heap:=h' }):wpAny (model prog w) A (dA (.ref I)) Q E s:=by
 obtain⟨o,eo,co,dO⟩:=id hi
 obtain⟨t,et,_,nt,dT⟩:=ht
 unfold dA
 apply aA;apply gU (name:=lM "__next__") hi.typeIs F.slot_tuple_iterator_next;apply iE F.slot_tuple_iterator_next hi.typeIs F.entry_tuple_iterator_next ?_ (F.args_tuple_iterator_next_1 _)
 show wpAny _ _ (field (.ref I) 0 >>= _) _ _ s
 apply aA;apply fQ eo dO (x:=.ref a) rfl
 show wpAny _ _ (if (fP a == gH)=true then _ else _) _ _ s
 rw[if_neg (by exact cJ)]
 show wpAny _ _ (field (.ref I) 1 >>= _) _ _ s
 apply aA;apply fQ eo dO (x:=.int k 0) rfl
 show wpAny _ _ (seqItems? (.ref a) >>= _) _ _ s
 have hx':vs.toArray[k]? = none:=by simpa using hx
 apply aA;apply eO et dT;simp only[nR,hx']
 apply aA;apply uR;apply aA;apply AZ eo dO (by simp)
 show wpAny _ _ (newExc (.type "StopIteration") [] >>= _) _ _ _
 apply aA;simp only[newExc,newTuple]
 apply aA;refine fE ?_ (by size_fits)
 refine aA (m:=firstArgMember _ _) ?_
 refine oK (a:=gH) (by first | rfl | (simp only[firstArgMember];rfl)) ?_
 refine fE ?_ (by size_fits)
 simp only[raiseNew]
 apply aA;apply QH
 first | rw[show A.in1.handled=none from hh] | rw[hh]
 apply wpAny_throw
 exact q _ _ (((gQ ..).extBut.push _).push _) ⟨_,bI _ rfl,rfl⟩
end
theorem Qh {prog:bV} {w:dE} {I a:Addr} {vs:List aD} (ne:a≠I):Sub prog w I a vs (λk h=>h.IsTupleIter I a k/\h.IsTuple a vs.toArray) where
 stay:=λt e1 e2=>⟨t.1.at e1,t.2.at e2⟩
 lt:=λt=>by
  obtain⟨⟨o,e,_⟩,o2,e2,_⟩:=t
  exact⟨aU e,aU e2⟩
 item:=λt e q=>Ah t.1 t.2 e λh' t' sb=>q h' ⟨t',t.2.at λo x=>sb.extBut _ o ne x⟩ sb
 done:=λhh t e q=>NH hh t.1 t.2 e q
abbrev pE (h:Heap) (z TI TO:Addr) (f0 f1:aD):Prop:=h.get? z=some { cls:=.type "zip",dict:=none,data:=.fields #[f0,f1,.bool false,.ref TI,.ref TO],slots:=#[] }
def Rw (h:Heap) (z TI TO i1 i2:Addr):Prop:=pE h z TI TO .none (.bool false)\/∃(T:Addr) (b:Bool) (o:Obj),pE h z TI TO (rawInt T) (.bool b)/\(h.get? T=some o/\o.cls = .type "tuple")/\T≠z/\T≠i1/\T≠i2
structure ZipAp (z TI TO i1 i2 a1 a2:Addr):Prop where
 TIz:TI≠z
 TOz:TO≠z
 i1z:i1≠z
 i2z:i2≠z
 a1z:a1≠z
 a2z:a2≠z
 IO:TI≠TO
 I1:TI≠i1
 I2:TI≠i2
 O1:TO≠i1
 O2:TO≠i2
 i12:i1≠i2
 a1O:a1≠TO
 a2O:a2≠TO
 a1i1:a1≠i1
 a1i2:a1≠i2
 a2i1:a2≠i1
 a2i2:a2≠i2
section
variable {prog:bV} {w:dE} {A:dF} {E:aD->aG->Prop} {s:aG} {z TI TO i1 i2 a1 a2:Addr} {vs us:List aD} {T1 T2:Nat->Heap->Prop}
structure ZipSt (z TI TO i1 i2:Addr) (T1 T2:Nat->Heap->Prop) (k:Nat) (h:Heap):Prop where
 out:Rw h z TI TO i1 i2
 its:IsPair h TI (.ref i1) (.ref i2)
 own:∃a b,IsPair h TO a b
 one:T1 k h
 two:T2 k h
theorem OS (D:ZipAp z TI TO i1 i2 a1 a2) (S1:Sub prog w i1 a1 vs T1) (S2:Sub prog w i2 a2 us T2) {k:Nat} {x y a b:aD} {Q:aD->aG->Prop} (hz:pE s.heap z TI TO .none (.bool false)) (hI:IsPair s.heap TI (.ref i1) (.ref i2)) (hO:IsPair s.heap TO a b)
  (t1:T1 k s.heap) (t2:T2 k s.heap) (ex:vs[k]? = some x) (ey:us[k]? = some y)
  (q:∀h',ZipSt z TI TO i1 i2 T1 T2 (k+1) h'->IsPair h' s.heap.objs.size x y->h'.objs.size=s.heap.objs.size+1->(∀c o,c≠z->c≠TO->c≠i1->c≠i2->s.heap.get? c=some o->h'.get? c=some o)->Q (.ref s.heap.objs.size) { s with heap:=h' }) :
  wpAny (model prog w) A (Builtin.«zip.__next__» ⟨[.ref z],[]⟩) (λfin s'=>∃v,fin = .done (.ret v)/\Q v s') E s:=by
 show wpAny _ _ (field (.ref z) 2 >>= _) _ _ _
 apply aA;apply fQ hz rfl (x:=.bool false) rfl
 show wpAny _ _ (field (.ref z) 3 >>= _) _ _ _
 apply aA;apply fQ hz rfl (x:=.ref TI) rfl;apply aA;apply eO hI rfl
 show wpAny _ _ (dZ (.ref z) >>= _) _ _ _
 apply aA;unfold dZ
 apply aA;apply fQ hz rfl (x:=.none) rfl;apply aI
 simp only[if_true]
 apply aA;apply uR;apply aA;apply fQ hz rfl (x:=.ref TO) rfl
 apply aA;refine jM hz (by simp) λh₁ hz1 sb1=>?_
 replace hz1:pE h₁ z TI TO .ellipsis (.bool false):=hz1
 apply aA;simp only[HU,JU,nB,uE]
 apply aA;apply aA;apply vW
 show wpAny _ _ (dA (.ref i1) >>= _) _ _ _
 apply aA;refine S1.item (S1.stay t1 (λo e=>sb1.extBut _ o D.i1z e) λo e=>sb1.extBut _ o D.a1z e) ex λh₂ t12 sb2=>aI ?_
 have hO2:IsPair h₂ TO a b:=sb2.extBut _ _ D.O1 (sb1.extBut _ _ D.TOz hO)
 apply aA;apply eO hO2 rfl;apply aA;refine sN hO2 λh₃ hO3 sb3=>?_
 replace hO3:IsPair h₃ TO x b:=hO3
 apply aA;apply jD;apply aI
 apply aA;apply aA;apply vW
 show wpAny _ _ (dA (.ref i2) >>= _) _ _ _
 have keep3:∀c o,c≠z->c≠i1->c≠TO->s.heap.get? c=some o->h₃.get? c=some o:=λc o c1 c2 c3 e=>sb3.extBut _ _ c3 (sb2.extBut _ _ c2 (sb1.extBut _ _ c1 e))
 apply aA;refine S2.item (S2.stay t2 (λo e=>keep3 _ o D.i2z D.i12.symm D.O2.symm e) λo e=>keep3 _ o D.a2z D.a2i1 D.a2O e) ey λh₄ t24 sb4=>aI ?_
 have hO4:IsPair h₄ TO x b:=sb4.extBut _ _ D.O2 hO3
 apply aA;apply eO hO4 rfl;apply aA;refine sN hO4 λh₅ hO5 sb5=>?_
 replace hO5:IsPair h₅ TO x y:=hO5
 apply aA;apply jD;apply aI;apply aI
 apply aA;apply eO hO5 rfl;apply aA;refine AY ?_
 have z5:h₅.objs.size=s.heap.objs.size:=by rw[sb5.1,sb4.1,sb3.1,sb2.1,sb1.1]
 have hz5:pE h₅ z TI TO .ellipsis (.bool false):=sb5.extBut _ _ D.TOz.symm (sb4.extBut _ _ D.i2z.symm (sb3.extBut _ _ D.TOz.symm (sb2.extBut _ _ D.i1z.symm hz1)))
 have keep5:∀c o,c≠z->c≠TO->c≠i1->c≠i2->s.heap.get? c=some o->h₅.get? c=some o:=λc o c1 c2 c3 c4 e=>sb5.extBut _ _ c2 (sb4.extBut _ _ c4 (keep3 c o c1 c3 c2 e))
 have t15:T1 (k+1) h₅:=S1.stay t12 (λo e=>sb5.extBut _ _ D.O1.symm (sb4.extBut _ _ D.i12 (sb3.extBut _ _ D.O1.symm e))) λo e=>sb5.extBut _ _ D.a1O (sb4.extBut _ _ D.a1i2 (sb3.extBut _ _ D.a1O e))
 have t25:T2 (k+1) h₅:=S2.stay t24 (λo e=>sb5.extBut _ _ D.O2.symm e) λo e=>sb5.extBut _ _ D.a2O e
 have zl:z<h₅.objs.size:=aU hz5
 show wpAny _ _ (pB (.ref z) (.ref h₅.objs.size) >>= _) _ _ _
 apply aA;unfold pB
 have hz6:pE (h₅.push { cls:=.type "tuple",data:=.seq #[x,y] }) z TI TO .ellipsis (.bool false):=aN _ hz5
 apply aA;refine jM hz6 (by simp) λh₇ hz7 sb7=>?_
 replace hz7:pE h₇ z TI TO (rawInt h₅.objs.size) (.bool false):=hz7
 refine jM hz7 (by simp) λh₈ hz8 sb8=>?_
 replace hz8:pE h₈ z TI TO (rawInt h₅.objs.size) (.bool false):=hz8
 have up:∀c o,c≠z->h₅.get? c=some o->h₈.get? c=some o:=λc o c1 e=>sb8.extBut _ _ c1 (sb7.extBut _ _ c1 (aN _ e))
 have hT8:IsPair h₈ h₅.objs.size x y:=sb8.extBut _ _ (eB zl) (sb7.extBut _ _ (eB zl) (bI _ rfl))
 have s8:h₈.objs.size=h₅.objs.size+1:=by rw[sb8.1,sb7.1,gD]
 apply aI;refine⟨_,rfl,?_⟩
 show Q (.ref h₅.objs.size) _
 rw[z5] at hT8 s8 hz8 ⊢
 exact q h₈ ⟨.inr ⟨_,_,_,hz8,⟨hT8,rfl⟩,eB (aU hz),eB (S1.lt t1).1,eB (S2.lt t2).1⟩,up _ _ D.TIz (keep5 _ _ D.TIz D.IO D.I1 D.I2 hI),⟨_,_,up _ _ D.TOz hO5⟩,S1.stay t15 (λo e=>up _ o D.i1z e) (λo e=>up _ o D.a1z e),S2.stay t25 (λo e=>up _ o D.i2z e) λo e=>up _ o D.a2z e⟩ hT8 s8 λc o c1 c2 c3 c4 e=>up c o c1 (keep5 c o c1 c2 c3 c4 e)
theorem Rx {a:Addr} {o:Obj} {Q:Option Obj->aG->Prop} (e:s.heap.get? a=some o) (q:Q (some o) s):wpAny (model prog w) A (loadIfAlive a) Q E s:=by
 have q':Q (s.heap.get? a) s:=e ▸ q
 exact λ_ _ _=>q'
theorem SI {T:Addr} {b:Bool} {o:Obj} {Q:Bool->aG->Prop} (hz:pE s.heap z TI TO (rawInt T) (.bool b)) (hT:s.heap.get? T=some o)
  (q:∀h',pE h' z TI TO (rawInt T) (.bool true)->mN z s.heap h'->Q false { s with heap:=h' }):wpAny (model prog w) A (dZ (.ref z)) Q E s:=by
 unfold dZ
 apply aA;apply fQ hz rfl (x:=rawInt T) rfl
 show wpAny _ _ (loadIfAlive ((T:Int).toNat) >>= _) _ _ _
 apply aA;refine Rx (a:=((T:Int).toNat)) (o:=o) (by simpa using hT) ?_
 show wpAny _ _ (field (.ref z) 1 >>= _) _ _ _
 apply aA;apply fQ hz rfl (x:=.bool b) rfl
 cases b with
 | false =>
  show wpAny _ _ (setField (.ref z) 1 (.bool true) >>= _) _ _ _
  apply aA;refine jM hz (by simp) λh₁ hz1 sb1=>aI (q h₁ hz1 sb1)
 | true =>
  show wpAny _ _ (pure false) _ _ _
  exact aI (q s.heap hz ⟨rfl,λ_ _=>rfl⟩)
theorem OT (D:ZipAp z TI TO i1 i2 a1 a2) (S1:Sub prog w i1 a1 vs T1) (S2:Sub prog w i2 a2 us T2) {k:Nat} {T:Addr} {f:Bool} {o:Obj} {x y a b:aD} {Q:aD->aG->Prop} (hz:pE s.heap z TI TO (rawInt T) (.bool f)) (hT:s.heap.get? T=some o/\o.cls = .type "tuple")
  (hTz:T≠z) (hT1:T≠i1) (hT2:T≠i2) (hI:IsPair s.heap TI (.ref i1) (.ref i2)) (hO:IsPair s.heap TO a b) (t1:T1 k s.heap) (t2:T2 k s.heap) (ex:vs[k]? = some x) (ey:us[k]? = some y)
  (q:∀h',ZipSt z TI TO i1 i2 T1 T2 (k+1) h'->IsPair h' s.heap.objs.size x y->h'.objs.size=s.heap.objs.size+1->(∀c o,c≠z->c≠TO->c≠i1->c≠i2->s.heap.get? c=some o->h'.get? c=some o)->Q (.ref s.heap.objs.size) { s with heap:=h' }) :
  wpAny (model prog w) A (Builtin.«zip.__next__» ⟨[.ref z],[]⟩) (λfin s'=>∃v,fin = .done (.ret v)/\Q v s') E s:=by
 show wpAny _ _ (field (.ref z) 2 >>= _) _ _ _
 apply aA;apply fQ hz rfl (x:=.bool false) rfl
 show wpAny _ _ (field (.ref z) 3 >>= _) _ _ _
 apply aA;apply fQ hz rfl (x:=.ref TI) rfl;apply aA;apply eO hI rfl
 show wpAny _ _ (dZ (.ref z) >>= _) _ _ _
 apply aA;refine SI hz hT.1 λh₁ hz1 sb1=>?_
 simp only[aM,if_false]
 rw[<-pR]
 apply aA;simp only[nB,uE]
 apply aA;apply aA;apply fL
 show wpAny _ _ (dA (.ref i1) >>= _) _ _ _
 apply aA;refine S1.item (S1.stay t1 (λo e=>sb1.extBut _ o D.i1z e) λo e=>sb1.extBut _ o D.a1z e) ex λh₂ t12 sb2=>aI ?_
 apply aI
 apply aA;apply aA;apply fL
 show wpAny _ _ (dA (.ref i2) >>= _) _ _ _
 have keep2:∀c o,c≠z->c≠i1->s.heap.get? c=some o->h₂.get? c=some o:=λc o c1 c2 e=>sb2.extBut _ _ c2 (sb1.extBut _ _ c1 e)
 apply aA;refine S2.item (S2.stay t2 (λo e=>keep2 _ o D.i2z D.i12.symm e) λo e=>keep2 _ o D.a2z D.a2i1 e) ey λh₃ t23 sb3=>aI ?_
 apply aI;apply aI
 have keep3:∀c o,c≠z->c≠i1->c≠i2->s.heap.get? c=some o->h₃.get? c=some o:=λc o c1 c2 c3 e=>sb3.extBut _ _ c3 (keep2 c o c1 c2 e)
 have z3:h₃.objs.size=s.heap.objs.size:=by rw[sb3.1,sb2.1,sb1.1]
 have hz3:pE h₃ z TI TO (rawInt T) (.bool true):=sb3.extBut _ _ D.i2z.symm (sb2.extBut _ _ D.i1z.symm hz1)
 show wpAny _ _ (newTuple [x,y] >>= _) _ _ _
 apply aA;refine AY ?_
 apply aI;refine⟨_,rfl,?_⟩
 show Q (.ref h₃.objs.size) _
 have up:∀c o,h₃.get? c=some o->(h₃.push { cls:=.type "tuple",data:=.seq #[x,y] }).get? c=some o:=λc o e=>aN _ e
 have hp:IsPair (h₃.push { cls:=.type "tuple",data:=.seq #[x,y] }) h₃.objs.size x y:=bI _ rfl
 have sz:(h₃.push { cls:=.type "tuple",data:=.seq #[x,y] }).objs.size=h₃.objs.size+1:=gD ..
 have zs:ZipSt z TI TO i1 i2 T1 T2 (k+1) (h₃.push { cls:=.type "tuple",data:=.seq #[x,y] }):=⟨.inr ⟨T,true,o,up _ _ hz3,⟨up _ _ (keep3 _ _ hTz hT1 hT2 hT.1),hT.2⟩,hTz,hT1,hT2⟩,up _ _ (keep3 _ _ D.TIz D.I1 D.I2 hI),⟨_,_,up _ _ (keep3 _ _ D.TOz D.O1 D.O2 hO)⟩,
  S1.stay t12 (λo e=>up _ o (sb3.extBut _ _ D.i12 e)) (λo e=>up _ o (sb3.extBut _ _ D.a1i2 e)),S2.stay t23 (λo e=>up _ o e) λo e=>up _ o e⟩
 rw[z3] at hp sz ⊢
 exact q _ zs hp sz λc o c1 c2 c3 c4 e=>up c o (keep3 c o c1 c3 c4 e)
theorem Mo (D:ZipAp z TI TO i1 i2 a1 a2) (S1:Sub prog w i1 a1 vs T1) (S2:Sub prog w i2 a2 us T2) {k:Nat} {x y:aD} {Q:Option aD->aG->Prop} (st:ZipSt z TI TO i1 i2 T1 T2 k s.heap) (ex:vs[k]? = some x) (ey:us[k]? = some y)
  (q:∀h',ZipSt z TI TO i1 i2 T1 T2 (k+1) h'->IsPair h' s.heap.objs.size x y->h'.objs.size=s.heap.objs.size+1->(∀c o,c≠z->c≠TO->c≠i1->c≠i2->s.heap.get? c=some o->h'.get? c=some o)->Q (some (.ref s.heap.objs.size)) { s with heap:=h' }) :
  wpAny (model prog w) A (pyNext (.ref z)) Q E s:=by
 obtain⟨a,b,hO⟩:=st.own
 have ty:s.TypeIs (.ref z) "zip":=by rcases st.out with hz | ⟨T,f,o,hz,_⟩ <;> exact⟨_,hz,rfl⟩
 unfold pyNext
 apply aA;apply vU;apply gU (name:=lM "__next__") ty F.slot_zip_next;refine iE F.slot_zip_next ty F.entry_zip_next ?_ (F.args_zip_next_1 _)
 rcases st.out with hz | ⟨T,f,o,hz,hT,n1,n2,n3⟩
 ·exact OS D S1 S2 hz st.its hO st.one st.two ex ey λh' b1 b2 b3 b4=>aI (q h' b1 b2 b3 b4)
 ·exact OT D S1 S2 hz hT n1 n2 n3 st.its hO st.one st.two ex ey λh' b1 b2 b3 b4=>aI (q h' b1 b2 b3 b4)
theorem Mq (hh:A.handled=none) (D:ZipAp z TI TO i1 i2 a1 a2) (S1:Sub prog w i1 a1 vs T1) (S2:Sub prog w i2 a2 us T2) {k:Nat} {Q:Fin->aG->Prop} (st:ZipSt z TI TO i1 i2 T1 T2 k s.heap) (ee:vs[k]? = none\/us[k]? = none)
  (q:∀h' e,(∀c o,c≠z->c≠TO->c≠i1->c≠i2->s.heap.get? c=some o->h'.get? c=some o)->(∃o,h'.get? e=some o/\o.cls = .type "StopIteration")->E (.ref e) { s with heap:=h' }) :
  wpAny (model prog w) A (Builtin.«zip.__next__» ⟨[.ref z],[]⟩) Q E s:=by
 obtain⟨a,b,hO⟩:=st.own
 have t1:=st.one
 have t2:=st.two
 have hI:=st.its
 rcases st.out with hz | ⟨T,f,o,hz,hT,n1,n2,n3⟩
 ·show wpAny _ _ (field (.ref z) 2 >>= _) _ _ _
  apply aA;apply fQ hz rfl (x:=.bool false) rfl
  show wpAny _ _ (field (.ref z) 3 >>= _) _ _ _
  apply aA;apply fQ hz rfl (x:=.ref TI) rfl;apply aA;apply eO hI rfl
  show wpAny _ _ (dZ (.ref z) >>= _) _ _ _
  apply aA;unfold dZ
  apply aA;apply fQ hz rfl (x:=.none) rfl;apply aI
  simp only[if_true]
  apply aA;apply uR;apply aA;apply fQ hz rfl (x:=.ref TO) rfl
  apply aA;refine jM hz (by simp) λh₁ hz1 sb1=>?_
  replace hz1:pE h₁ z TI TO .ellipsis (.bool false):=hz1
  apply aA;simp only[HU,JU,nB,uE]
  apply aA;apply aA;apply vW
  show wpAny _ _ (dA (.ref i1) >>= _) _ _ _
  have t11:=S1.stay t1 (λo e=>sb1.extBut _ o D.i1z e) λo e=>sb1.extBut _ o D.a1z e
  cases ex:vs[k]? with
  | none =>
   apply aA;refine S1.done (s:={ s with heap:=h₁ }) hh t11 ex λh₂ e xb he=>?_
   obtain⟨oe,h2,ce⟩:=he
   have hz2:pE h₂ z TI TO .ellipsis (.bool false):=xb _ _ D.i1z.symm hz1
   have nez:e≠z:=λy=>by subst y;rw[hz2] at h2;cases h2;simp at ce
   refine jM hz2 (by simp) λh₃ _ sb3=>q h₃ e (λc o c1 _ c3 _ y=>sb3.extBut _ _ c1 (xb _ _ c3 (sb1.extBut _ _ c1 y))) ⟨oe,sb3.extBut _ _ nez h2,ce⟩
  | some x =>
   have ey:us[k]? = none:=by rcases ee with h | h;rw[ex] at h;cases h;exact h
   apply aA;refine S1.item t11 ex λh₂ t12 sb2=>aI ?_
   have hO2:IsPair h₂ TO a b:=sb2.extBut _ _ D.O1 (sb1.extBut _ _ D.TOz hO)
   apply aA;apply eO hO2 rfl;apply aA;refine sN hO2 λh₃ hO3 sb3=>?_
   apply aA;apply jD;apply aI
   apply aA;apply aA;apply vW
   show wpAny _ _ (dA (.ref i2) >>= _) _ _ _
   have keep3:∀c o,c≠z->c≠i1->c≠TO->s.heap.get? c=some o->h₃.get? c=some o:=λc o c1 c2 c3 e=>sb3.extBut _ _ c3 (sb2.extBut _ _ c2 (sb1.extBut _ _ c1 e))
   apply aA;refine S2.done (s:={ s with heap:=h₃ }) hh (S2.stay t2 (λo e=>keep3 _ o D.i2z D.i12.symm D.O2.symm e) λo e=>keep3 _ o D.a2z D.a2i1 D.a2O e) ey λh₄ e xb he=>?_
   obtain⟨oe,h2,ce⟩:=he
   have hz4:pE h₄ z TI TO .ellipsis (.bool false):=xb _ _ D.i2z.symm (sb3.extBut _ _ D.TOz.symm (sb2.extBut _ _ D.i1z.symm hz1))
   have nez:e≠z:=λy=>by subst y;rw[hz4] at h2;cases h2;simp at ce
   refine jM hz4 (by simp) λh₅ _ sb5=>q h₅ e (λc o c1 c2 c3 c4 y=>sb5.extBut _ _ c1 (xb _ _ c4 (keep3 c o c1 c3 c2 y))) ⟨oe,sb5.extBut _ _ nez h2,ce⟩
 ·show wpAny _ _ (field (.ref z) 2 >>= _) _ _ _
  apply aA;apply fQ hz rfl (x:=.bool false) rfl
  show wpAny _ _ (field (.ref z) 3 >>= _) _ _ _
  apply aA;apply fQ hz rfl (x:=.ref TI) rfl;apply aA;apply eO hI rfl
  show wpAny _ _ (dZ (.ref z) >>= _) _ _ _
  apply aA;refine SI hz hT.1 λh₁ hz1 sb1=>?_
  simp only[aM,if_false]
  rw[<-pR]
  apply aA;simp only[nB,uE]
  apply aA;apply aA;apply fL
  show wpAny _ _ (dA (.ref i1) >>= _) _ _ _
  have t11:=S1.stay t1 (λo e=>sb1.extBut _ o D.i1z e) λo e=>sb1.extBut _ o D.a1z e
  cases ex:vs[k]? with
  | none =>
   apply aA;exact S1.done (s:={ s with heap:=h₁ }) hh t11 ex λh₂ e xb he=>q h₂ e (λc o c1 _ c3 _ y=>xb _ _ c3 (sb1.extBut _ _ c1 y)) he
  | some x =>
   have ey:us[k]? = none:=by rcases ee with h | h;rw[ex] at h;cases h;exact h
   apply aA;refine S1.item t11 ex λh₂ t12 sb2=>aI ?_
   apply aI
   apply aA;apply aA;apply fL
   show wpAny _ _ (dA (.ref i2) >>= _) _ _ _
   have keep2:∀c o,c≠z->c≠i1->s.heap.get? c=some o->h₂.get? c=some o:=λc o c1 c2 e=>sb2.extBut _ _ c2 (sb1.extBut _ _ c1 e)
   apply aA;exact S2.done (s:={ s with heap:=h₂ }) hh (S2.stay t2 (λo e=>keep2 _ o D.i2z D.i12.symm e) λo e=>keep2 _ o D.a2z D.a2i1 e) ey λh₃ e xb he=>q h₃ e (λc o c1 c2 c3 c4 y=>xb _ _ c4 (keep2 c o c1 c3 y)) he
theorem Qu (hh:A.handled=none) (D:ZipAp z TI TO i1 i2 a1 a2) (S1:Sub prog w i1 a1 vs T1) (S2:Sub prog w i2 a2 us T2) {k:Nat} {Q:Option aD->aG->Prop} (st:ZipSt z TI TO i1 i2 T1 T2 k s.heap) (ee:vs[k]? = none\/us[k]? = none)
  (q:∀h',(∀c o,c≠z->c≠TO->c≠i1->c≠i2->s.heap.get? c=some o->h'.get? c=some o)->Q none { s with heap:=h' }):wpAny (model prog w) A (pyNext (.ref z)) Q E s:=by
 have ty:s.TypeIs (.ref z) "zip":=by rcases st.out with hz | ⟨T,f,o,hz,_⟩ <;> exact⟨_,hz,rfl⟩
 unfold pyNext
 apply aA;apply vU;apply gU (name:=lM "__next__") ty F.slot_zip_next;refine iE F.slot_zip_next ty F.entry_zip_next ?_ (F.args_zip_next_1 _)
 refine Mq (A:=A.in1) hh D S1 S2 st ee λh' e kp he=>?_
 obtain⟨o,ho,hc⟩:=he
 apply aA;refine sF (T:="StopIteration") (b:=true) ⟨o,ho,hc⟩ MY ?_
 exact aI (q h' kp)
end
abbrev wJ (c:String) (l:Addr):Obj:={ cls:=.type c,data:=.fields #[.ref l,.int 0 0] }
abbrev zH1 (c:String) (h:Heap) (l:Addr):Heap:=h.push (wJ c l)
abbrev zH2 (c d:String) (h:Heap) (l m:Addr):Heap:=(zH1 c h l).push (wJ d m)
abbrev zH3 (c d:String) (h:Heap) (l m:Addr):Heap:=(zH2 c d h l m).push { cls:=.type "tuple",data:=.seq #[.ref h.objs.size,.ref (zH1 c h l).objs.size] }
abbrev zH4 (c d:String) (h:Heap) (l m:Addr):Heap:=(zH3 c d h l m).push { cls:=.type "tuple",data:=.seq #[.none,.none] }
abbrev zH5 (c d:String) (h:Heap) (l m:Addr):Heap:=(zH4 c d h l m).push { cls:=.type "zip",data:=.fields #[.none,.bool false,.bool false,.ref (zH2 c d h l m).objs.size,.ref (zH3 c d h l m).objs.size] }
abbrev Eh (c d:String) (l m:Addr) (P:Heap->Prop):Prop:=Meets (Builtin.«zip.__new__» ⟨[.type "zip",.ref l,.ref m],[]⟩) (λ_ R s=>P s.heap/\R (.ok (.ret (.ref (zH4 c d s.heap l m).objs.size))) { s with heap:=zH5 c d s.heap l m })
theorem Qv (l m:Addr) (xs ys:Array aD):Eh "list_iterator" "list_iterator" l m (λh=>h.IsList l xs/\h.IsList m ys) :=
 .of_wp λprog w A R s h=>by
  obtain⟨hp,g,d,tk,os⟩:=s;obtain⟨⟨e1,e2⟩,h⟩:=h
  have sz:=UT
  have f1:zF (lK ⟨hp,g,d,tk,os⟩) l xs:=e1
  have f2:zF (lK ⟨hp.push (wJ "list_iterator" l),g,d,tk,os⟩) m ys:=e2.at λo e=>aN _ e
  wp_walk using jX f1,jX f2
  exact⟨_,rfl,h⟩
theorem Qy (l m:Addr) (xs ys:Array aD):Eh "tuple_iterator" "tuple_iterator" l m (λh=>h.IsTuple l xs/\h.IsTuple m ys) :=
 .of_wp λprog w A R s h=>by
  obtain⟨hp,g,d,tk,os⟩:=s;obtain⟨⟨e1,e2⟩,h⟩:=h
  have sz:=UT
  have f1:xB (lK ⟨hp,g,d,tk,os⟩) l xs:=e1
  have f2:xB (lK ⟨hp.push (wJ "tuple_iterator" l),g,d,tk,os⟩) m ys:=e2.at λo e=>aN _ e
  wp_walk using kX f1,kX f2
  exact⟨_,rfl,h⟩
theorem Qx (l m:Addr) (xs ys:Array aD):Eh "tuple_iterator" "list_iterator" l m (λh=>h.IsTuple l xs/\h.IsList m ys) :=
 .of_wp λprog w A R s h=>by
  obtain⟨hp,g,d,tk,os⟩:=s;obtain⟨⟨e1,e2⟩,h⟩:=h
  have sz:=UT
  have f1:xB (lK ⟨hp,g,d,tk,os⟩) l xs:=e1
  have f2:zF (lK ⟨hp.push (wJ "tuple_iterator" l),g,d,tk,os⟩) m ys:=e2.at λo e=>aN _ e
  wp_walk using kX f1,jX f2
  exact⟨_,rfl,h⟩
theorem Qw (l m:Addr) (xs ys:Array aD):Eh "list_iterator" "tuple_iterator" l m (λh=>h.IsList l xs/\h.IsTuple m ys) :=
 .of_wp λprog w A R s h=>by
  obtain⟨hp,g,d,tk,os⟩:=s;obtain⟨⟨e1,e2⟩,h⟩:=h
  have sz:=UT
  have f1:zF (lK ⟨hp,g,d,tk,os⟩) l xs:=e1
  have f2:xB (lK ⟨hp.push (wJ "list_iterator" l),g,d,tk,os⟩) m ys:=e2.at λo e=>aN _ e
  wp_walk using jX f1,kX f2
  exact⟨_,rfl,h⟩
theorem Hm {n l m:Addr} (h1:l<n) (h2:m<n):ZipAp (n+4) (n+2) (n+3) n (n+1) l m:=by
 constructor <;> (intro e;first | lia | (simp only[Addr] at *;lia))
section
variable {prog:bV} {w:dE} {A:dF} {E:aD->aG->Prop} {s:aG}
theorem Eo {c d:String} {l m:Addr} {P:Heap->Prop} {Q:aD->aG->Prop} (Z:Eh c d l m P) (hP:P s.heap)
  (q:∀h',pE h' (s.heap.objs.size+4) (s.heap.objs.size+2) (s.heap.objs.size+3) .none (.bool false)->IsPair h' (s.heap.objs.size+2) (.ref s.heap.objs.size) (.ref (s.heap.objs.size+1))->IsPair h' (s.heap.objs.size+3) .none .none ->
   h'.get? s.heap.objs.size=some (wJ c l)->h'.get? (s.heap.objs.size+1)=some (wJ d m)->h'.objs.size=s.heap.objs.size+5->(∀b o,s.heap.get? b=some o->h'.get? b=some o)->Q (.ref (s.heap.objs.size+4)) { s with heap:=h' }) :
  wpAny (model prog w) A (call (.type "zip") [.ref l,.ref m]) Q E s:=by
 refine callType_new F.called_zip (by decide) (F.typeCall_zip_2 _ _) (F.newCall_zip_2 _ _) (λobj=>F.args_object_init_3 obj _ _) F.entry_zip_new Z ⟨hP,?_⟩
 have z1:(zH1 c s.heap l).objs.size=s.heap.objs.size+1:=gD ..
 have z2:(zH2 c d s.heap l m).objs.size=s.heap.objs.size+2:=by rw[gD,z1]
 have z3:(zH3 c d s.heap l m).objs.size=s.heap.objs.size+3:=by rw[gD,z2]
 have z4:(zH4 c d s.heap l m).objs.size=s.heap.objs.size+4:=by rw[gD,z3]
 have z5:(zH5 c d s.heap l m).objs.size=s.heap.objs.size+5:=by rw[gD,z4]
 have up:∀{h:Heap} {o:Obj} {b:Addr} {u:Obj},h.get? b=some u->(h.push o).get? b=some u:=λe=>aN _ e
 have g5:(zH5 c d s.heap l m).get? (zH4 c d s.heap l m).objs.size=some _:=bI _ rfl
 have g4:(zH5 c d s.heap l m).get? (zH3 c d s.heap l m).objs.size=some _:=up (bI _ rfl)
 have g3:(zH5 c d s.heap l m).get? (zH2 c d s.heap l m).objs.size=some _:=up (up (bI _ rfl))
 have g2:(zH5 c d s.heap l m).get? (zH1 c s.heap l).objs.size=some _:=up (up (up (bI _ rfl)))
 have g1:(zH5 c d s.heap l m).get? s.heap.objs.size=some _:=up (up (up (up (bI _ rfl))))
 show _/\_
 rw[z2,z3,z4] at g5
 rw[z1,z2] at g3
 rw[z3] at g4
 rw[z1] at g2
 rw[z4]
 exact⟨⟨_,g5,rfl⟩,q _ g5 g3 g4 g1 g2 z5 λb o x=>up (up (up (up (up x))))⟩
theorem MR {R:Result->aG->Prop} {S I:Addr} {n:Nat} {J F:List aD->Heap->Prop} {s0:aG} (res:aD) (hn:n<=sizeLine)
  (stay:∀acc h h',J acc h->(∃o,h.get? S=some o/\o.cls = .type "list")->h'.objs.size=h.objs.size->(∀b o,b≠S->h.get? b=some o->h'.get? b=some o)->J acc h')
  (item:∀acc (s:aG) (o:Obj) (Q:Option aD->aG->Prop) (E:aD->aG->Prop),acc.length<n->J acc s.heap->s.heap.get? S=some o->(∀v h',J (acc++[v]) h'->h'.get? S=some o->Q (some v) { s with heap:=h' })->wpAny (model prog w) A.in1 (pyNext (.ref I)) Q E s)
  (done:∀acc (s:aG) (o:Obj) (Q:Option aD->aG->Prop) (E:aD->aG->Prop),acc.length=n->J acc s.heap->s.heap.get? S=some o->(∀h',F acc h'->h'.get? S=some o->Q none { s with heap:=h' })->wpAny (model prog w) A.in1 (pyNext (.ref I)) Q E s)
  (hR:∀h' acc c,acc.size=n->F acc.toList h'->h'.get? S=some { cls:=.type "list",dict:=none,data:=.seq acc c,slots:=#[] }->R (.ok (.ret res)) { s0 with heap:=h' }) :
  ∀(k:Nat) (acc:Array aD) (h:Heap) (c:Nat),k=n-acc.size->acc.size<=n->J acc.toList h->h.get? S=some { cls:=.type "list",dict:=none,data:=.seq acc c,slots:=#[] } ->
   codeAny (model prog w) A (.builtin "list.extend.loop" ⟨[.ref S,.ref I,res],[]⟩) R { s0 with heap:=h }:=by
 intro k
 induction k with
 | zero =>
  intro acc h c hk hle hJ hS
  refine fT uU ?_
  rw[eS iF _]
  show wpAny _ A.in1 (pyNext (.ref I) >>= _) _ _ _
  apply aA;refine done acc.toList { s0 with heap:=h } _ _ _ (by simp;lia) hJ hS λh' hF hS'=>?_
  exact aI (hR h' acc c (by lia) hF hS')
 | succ k ih =>
  intro acc h c hk hle hJ hS
  refine fT uU ?_
  rw[eS iF _]
  show wpAny _ A.in1 (pyNext (.ref I) >>= _) _ _ _
  apply aA;refine item acc.toList { s0 with heap:=h } _ _ _ (by simp;lia) hJ hS λv h' hJ' hS'=>?_
  show wpAny _ A.in1 (updateSeq S (·.push v) >>= _) _ _ _
  have hs2:acc.size<n:=by lia
  have e1:(acc.push v).size=acc.size+1:=Array.size_push ..
  apply aA;refine gC hS' rfl ?_ (by lia) (by show (acc.push v).size<=sizeLine+1;lia)
  apply aI;refine⟨gJ iF _,?_⟩
  refine ih (acc.push v) _ _ (by lia) (by lia) (stay _ _ _ (by simpa using hJ') ⟨_,hS',rfl⟩ (gQ ..).1 λb o hb e=>(cE _ _ (Ne.symm hb)).trans e) (dQ _ hS' rfl)
end
theorem Bs:typeLookup (.type "zip") "__len__" = pure none:=by rw[pQ,lC];kernel_rfl
theorem YQ:typeLookup (.type "zip") "__length_hint__" = pure none:=by rw[pQ,lC];kernel_rfl
section
variable {prog:bV} {w:dE} {A:dF} {E:aD->aG->Prop} {s:aG} {z TI TO i1 i2 a1 a2:Addr} {vs us:List aD} {T1 T2:Nat->Heap->Prop}
structure ZipGot (z TI TO i1 i2:Addr) (T1 T2:Nat->Heap->Prop) (vs us:List aD) (N:Nat) (fixed:Heap) (S:Addr) (acc:List aD) (h:Heap):Prop where
 st:ZipSt z TI TO i1 i2 T1 T2 acc.length h
 size:h.objs.size=N+acc.length
 refs:∀j,j<acc.length->acc[j]? = some (.ref (N+j))
 got:∀j,j<acc.length->∀x y,vs[j]? = some x->us[j]? = some y->IsPair h (N+j) x y
 kept:∀b o,b≠z->b≠TO->b≠i1->b≠i2->b≠S->fixed.get? b=some o->h.get? b=some o
structure ZipHad (z TO i1 i2:Addr) (vs us:List aD) (N:Nat) (fixed:Heap) (S:Addr) (acc:List aD) (h:Heap):Prop where
 refs:∀j,j<acc.length->acc[j]? = some (.ref (N+j))
 got:∀j,j<acc.length->∀x y,vs[j]? = some x->us[j]? = some y->IsPair h (N+j) x y
 kept:∀b o,b≠z->b≠TO->b≠i1->b≠i2->b≠S->fixed.get? b=some o->h.get? b=some o
theorem PB (hh:A.handled=none) (D:ZipAp z TI TO i1 i2 a1 a2) (S1:∀{prog w},Sub prog w i1 a1 vs T1) (S2:∀{prog w},Sub prog w i2 a2 us T2) (hl:vs.length=us.length) (hn:vs.length<=sizeLine) (st:ZipSt z TI TO i1 i2 T1 T2 0 s.heap) {Q:aD->aG->Prop}
  (q:∀h' acc c,acc.size=vs.length->ZipHad z TO i1 i2 vs us (s.heap.objs.size+1) s.heap s.heap.objs.size acc.toList h'->h'.get? s.heap.objs.size=some { cls:=.type "list",dict:=none,data:=.seq acc c,slots:=#[] }->Q (.ref s.heap.objs.size) { s with heap:=h' }) :
  wpAny (model prog w) A (call (.type "list") [.ref z]) Q E s:=by
 have zl:z<s.heap.objs.size:=by rcases st.out with hz | ⟨T,f,o,hz,_⟩ <;> exact aU hz
 have TIl:TI<s.heap.objs.size:=aU st.its
 have TOl:TO<s.heap.objs.size:=by obtain⟨a,b,h⟩:=st.own;exact aU h
 obtain⟨i1l,a1l⟩:=(S1 (prog:=prog) (w:=w)).lt st.one
 obtain⟨i2l,a2l⟩:=(S2 (prog:=prog) (w:=w)).lt st.two
 refine MJ (Q₁:=λobj s₁=>obj = .ref s.heap.objs.size/\s₁ = { s with heap:=s.heap.push { cls:=.type "list",data:=.seq #[] } }) F.called_list (F.typeCall_list_1 _) F.entry_list_init (PH _ ⟨rfl,rfl⟩) λobj s₁ h₁=>?_
 obtain⟨rfl,rfl⟩:=h₁
 have hS:(s.heap.push { cls:=.type "list",data:=.seq #[] }).get? s.heap.objs.size=some { cls:=.type "list",data:=.seq #[] }:=bI _ rfl
 refine⟨⟨_,hS,rfl⟩,F.args_list_init_2 _ _,?_⟩
 show wpAny _ _ (do let old <-mL (.ref s.heap.objs.size);pY (.ref s.heap.objs.size) (λ_=>#[]);letGo old.toList.reverse;fI (.ref s.heap.objs.size) (.ref z) .none) _ _ _
 apply aA;unfold mL
 apply aA;apply eO hS rfl;apply aI
 show wpAny _ _ (updateSeq s.heap.objs.size (λ_=>#[]) >>= λ_=>letGo (#[]:Array aD).toList.reverse >>= λ_=>fI (.ref s.heap.objs.size) (.ref z) .none) _ _ _
 apply aA;refine gC hS rfl ?_
 have hS2:=dQ (dH (λ_=>(#[]:Array aD))) hS rfl
 have up2:∀b o,b≠s.heap.objs.size->s.heap.get? b=some o->((s.heap.push { cls:=.type "list",data:=.seq #[] }).update s.heap.objs.size (dH (λ_=>(#[]:Array aD)))).get? b=some o :=
  λb o hb e=>(cE _ _ (Ne.symm hb)).trans (aN _ e)
 have z2:((s.heap.push { cls:=.type "list",data:=.seq #[] }).update s.heap.objs.size (dH (λ_=>(#[]:Array aD)))).objs.size=s.heap.objs.size+1:=by rw[(gQ ..).1,gD]
 generalize (s.heap.push { cls:=.type "list",data:=.seq #[] }).update s.heap.objs.size (dH (λ_=>(#[]:Array aD)))=h2 at hS2 up2 z2
 apply aA;apply jD
 have move:∀{h3:Heap},(∀b o,b≠s.heap.objs.size->s.heap.get? b=some o->h3.get? b=some o)->ZipSt z TI TO i1 i2 T1 T2 0 h3:=λ{h3} up=>by
  have ne:∀{b:Addr},b<s.heap.objs.size->b≠s.heap.objs.size:=λh=>bH h
  obtain⟨a,b,hO⟩:=st.own
  refine⟨?_,up _ _ (ne TIl) st.its,⟨a,b,up _ _ (ne TOl) hO⟩,(S1 (prog:=prog) (w:=w)).stay st.one (λo e=>up _ o (ne i1l) e) (λo e=>up _ o (ne a1l) e),(S2 (prog:=prog) (w:=w)).stay st.two (λo e=>up _ o (ne i2l) e) λo e=>up _ o (ne a2l) e⟩
  rcases st.out with hz | ⟨T,f,o,hz,hT,n1,n2,n3⟩
  ·exact .inl (up _ _ (ne zl) hz)
  ·exact .inr ⟨T,f,o,up _ _ (ne zl) hz,⟨up _ _ (ne (aU hT.1)) hT.1,hT.2⟩,n1,n2,n3⟩
 have ty2:∀{h3:Heap} {g d t os},(∀b o,b≠s.heap.objs.size->s.heap.get? b=some o->h3.get? b=some o)->CB ⟨h3,g,d,t,os⟩ (.ref z) "zip":=λ{h3 g d t os} up=>by
  rcases (move up).out with hz | ⟨T,f,o,hz,_⟩ <;> exact⟨_,hz,rfl⟩
 unfold fI
 apply aA;refine rA (T:="zip") (ty2 up2) ?_
 have g1:iJ (.ref s.heap.objs.size) (.ref z)=false:=by simp[iJ,eB zl]
 have g2:(iG "zip" == iG "list")=false:=by decide
 have g3:(iG "zip" == iG "tuple")=false:=by decide
 simp only[g1,g2,g3,vJ,aM,if_false]
 have self:∀{s':aG} {Q':aD->aG->Prop} {E':aD->aG->Prop} {A':dF},s'.TypeIs (.ref z) "zip"->Q' (.ref z) s'->wpAny (model prog w) A' (pyIter (.ref z)) Q' E' s':=λ{s' Q' E' A'} ty h=>by
  refine HJ ty F.slot_zip_iter (iE F.slot_zip_iter ty F.entry_zip_iter ?_ (F.args_zip_iter_1 _))
  show wpAny _ _ (ret (.ref z)) _ _ s'
  exact aI ⟨_,rfl,"zip",_,ty,F.slot_zip_next.lookup,h⟩
 apply aA;refine self (ty2 up2) ?_
 apply aA;apply fL;unfold iV
 apply aA;refine nH (ty2 up2) Bs ?_
 show wpAny _ _ (specialOf (fP z) (lM "__length_hint__") >>= _) _ _ _
 apply aA;refine nH (ty2 up2) YQ ?_
 apply aI
 show wpAny _ _ (rule "list.extend.makes-room" >>= λ_=>Builtin.List.listTouch (.ref s.heap.objs.size) >>= λ_=>again (.builtin "list.extend.loop" ⟨[.ref s.heap.objs.size,.ref z,.none],[]⟩)) _ _ _
 apply aA;apply uR;apply aA
 show wpAny _ _ (updateSeq s.heap.objs.size (·.push .none) >>= λ_=>updateSeq s.heap.objs.size (·.pop)) _ _ _
 apply aA;refine gC hS2 rfl ?_
 have hS3:=dQ (dH (·.push gH)) hS2 rfl
 refine gC (hz:=by seq_fits) hS3 rfl ?_
 have hS4:=dQ (dH (·.pop)) hS3 rfl
 have up4:∀b o,b≠s.heap.objs.size->s.heap.get? b=some o->((h2.update s.heap.objs.size (dH (·.push gH))).update s.heap.objs.size (dH (·.pop))).get? b=some o :=
  λb o hb e=>(cE _ _ (Ne.symm hb)).trans ((cE _ _ (Ne.symm hb)).trans (up2 b o hb e))
 have z4:((h2.update s.heap.objs.size (dH (·.push gH))).update s.heap.objs.size (dH (·.pop))).objs.size=s.heap.objs.size+1:=by rw[(gQ ..).1,(gQ ..).1,z2]
 generalize (h2.update s.heap.objs.size (dH (·.push gH))).update s.heap.objs.size (dH (·.pop))=h4 at hS4 up4 z4
 apply aI;refine⟨gJ iF _,?_⟩
 refine MR (n:=vs.length) (J:=ZipGot z TI TO i1 i2 T1 T2 vs us (s.heap.objs.size+1) s.heap s.heap.objs.size) (F:=ZipHad z TO i1 i2 vs us (s.heap.objs.size+1) s.heap s.heap.objs.size) .none hn ?_ ?_ ?_ (λh' acc c hsz hF hS'=>⟨rfl,q h' acc c hsz hF hS'⟩) vs.length #[] h4 _ rfl (gL _) ?_ hS4
 ·intro acc h h' J hSo hz up
  have ne:∀{b:Addr},b<s.heap.objs.size->b≠s.heap.objs.size:=λh=>bH h
  obtain⟨a,b,hO⟩:=J.st.own
  refine⟨⟨?_,up _ _ (ne TIl) J.st.its,⟨a,b,up _ _ (ne TOl) hO⟩,(S1 (prog:=prog) (w:=w)).stay J.st.one (λo e=>up _ o (ne i1l) e) (λo e=>up _ o (ne a1l) e),(S2 (prog:=prog) (w:=w)).stay J.st.two (λo e=>up _ o (ne i2l) e) λo e=>up _ o (ne a2l) e⟩,hz.trans J.size,J.refs,λj hj x y e1 e2=>up _ _ (by intro e;simp only[Addr] at *;lia) (J.got j hj x y e1 e2),λb o n1 n2 n3 n4 n5 e=>up b o n5 (J.kept b o n1 n2 n3 n4 n5 e)⟩
  rcases J.st.out with hz | ⟨T,f,o,hz,hT,n1,n2,n3⟩
  ·exact .inl (up _ _ (ne zl) hz)
  ·have hTS:T≠s.heap.objs.size:=λe=>by
    obtain⟨u,hu,cu⟩:=hSo
    rw[<-e,hT.1] at hu;cases hu
    rw[hT.2] at cu;simp at cu
   exact .inr ⟨T,f,o,up _ _ (ne zl) hz,⟨up _ _ hTS hT.1,hT.2⟩,n1,n2,n3⟩
 ·intro acc s' o Q' E' hlt J hSo k
  have e1:vs[acc.length]? = some (vs[acc.length]'hlt):=aF _
  have e2:us[acc.length]? = some (us[acc.length]'(by lia)):=aF _
  refine Mo D S1 S2 J.st e1 e2 λh' st' hp hz kp=>?_
  have hz':=J.size
  refine k _ h' ⟨by simpa using st',by simp;lia,λj hj=>?_,λj hj x y f1 f2=>?_,λb o n1 n2 n3 n4 n5 e=>kp b o n1 n2 n3 n4 (J.kept b o n1 n2 n3 n4 n5 e)⟩ (kp _ _ (eB zl) (eB TOl) (eB i1l) (eB i2l) hSo)
  ·simp only[dI,bZ,eW] at hj
   by_cases h:j<acc.length
   ·rw[cO h];exact J.refs j h
   ·have:j=acc.length:=by lia
    subst this
    rw[cW (bK _),hz'];simp
  ·simp only[dI,bZ,eW] at hj
   by_cases h:j<acc.length
   ·refine kp _ _ ?_ ?_ ?_ ?_ (J.got j h x y f1 f2) <;> (intro e;simp only[Addr] at *;lia)
   ·have:j=acc.length:=by lia
    subst this
    rw[e1] at f1;rw[e2] at f2;cases f1;cases f2
    rw[<-hz'];exact hp
 ·intro acc s' o Q' E' hlen J hSo k
  refine Qu (A:=A.in1.in1) hh D S1 S2 J.st (.inl (gR (by lia))) λh' kp=>?_
  refine k h' ⟨J.refs,λj hj x y f1 f2=>kp _ _ ?_ ?_ ?_ ?_ (J.got j hj x y f1 f2),λb o n1 n2 n3 n4 n5 e=>kp b o n1 n2 n3 n4 (J.kept b o n1 n2 n3 n4 n5 e)⟩ (kp _ _ (eB zl) (eB TOl) (eB i1l) (eB i2l) hSo) <;> (intro e;simp only[Addr] at *;lia)
 ·exact⟨move up4,by simpa using z4,by simp,by simp,λb o n1 n2 n3 n4 n5 e=>up4 b o n5 e⟩
end
section
variable {X:Cx} {pins:List (Addr × Obj)} {σ:St}
theorem _root_.L2.Inv.trackO {s s':aG} {H H':Hp} {a:Addr} {w:HO} (I:Inv X pins σ H s) (I':Inv X pins σ H' s') (ha:s.heap.objs.size<=a) (hn:H' a=none) (new:ObjOk X.prog X.w (upd H' a w) s'.heap a w):Inv X pins σ (upd H' a w) s':=by
 have nL:X.env.locals≠a:=bH (bR I.lt ha)
 have nC:∀x c,X.env.cells.lookup x=some c->c≠a:=λx c q z=>by
  obtain⟨v,hv⟩:=I.cell x c q
  exact absurd (bR hv.lt (by rw[z];exact ha)) (hV _)
 have n0:∀{b:Addr} {o:Obj},X.s₀.heap.get? b=some o->b≠a:=λ{b o} q=>bH (bR (aU q) (fO I.sz ha))
 refine⟨I'.ok,I'.os,I'.bare,⟨I'.base.keep,I'.base.slot,λb o q n hx=>by rw[cT (n0 q)];exact I'.base.free b o q n hx,I'.base.there,λb ys q=>by rw[cT (eT (I'.base.tups b ys q) hn)];exact I'.base.tups b ys q,λb o u q=>by rw[cT (eT (I'.base.frzs b o u q) hn)];exact I'.base.frzs b o u q,λb ps q=>?_⟩,I'.loc,I'.cell,by rw[cT nL];exact I'.free,λx c q=>by rw[cT (nC x c q)];exact I'.freeC x c q,λp hp=>?_,λb u q=>?_,I'.len⟩
 ·obtain⟨m,q2⟩:=I'.base.tbls b ps q
  exact⟨m,by rw[cT (eT q2 hn)];exact q2⟩
 ·obtain⟨q1,q2,q3,q4,q5⟩:=I'.pin p hp
  have hp1:p.1≠a:=bH (bR (aU (I.pin p hp).1) ha)
  exact⟨q1,by rw[cT hp1];exact q2,q3,q4,q5⟩
 ·by_cases hb:b=a
  ·subst hb
   rw[fK] at q;cases q
   exact new
  ·rw[cT hb] at q
   exact (I'.hok b u q).stay (λc v _ w=>w) (λc w=>by rw[cT (eT w hn)];exact w) λc ys w=>by rw[cT (eT w hn)];exact w
def JI (H:Hp):Nat->List (V × V)->Hp
 | _,[]=>H
 | N,p::ps=>JI (upd H N (.tup [p.1,p.2])) (N+1) ps
theorem ND:∀(ps:List (V × V)) (H:Hp) (N:Nat),(∀a,N<=a->H a=none)->Same H (JI H N ps)/\(∀a,N+ps.length<=a->JI H N ps a=none)/\∀j p,ps[j]? = some p->JI H N ps (N+j)=some (.tup [p.1,p.2])
 | [],H,N,hn=>⟨Same.refl H,λa ha=>hn a (by simpa using ha),λj p e=>by simp at e⟩
 | p::ps,H,N,hn=>by
  have hn':∀a,N+1<=a->upd H N (.tup [p.1,p.2]) a=none:=λa ha=>by rw[cT (eB ha)];exact hn a (FR ha)
  obtain⟨s1,s2,s3⟩:=ND ps (upd H N (.tup [p.1,p.2])) (N+1) hn'
  refine⟨Same.trans (Same.fn λb o e=>by rw[cT (eT e (hn N (bK _)))];exact e) s1,λa ha=>s2 a (by simp at ha;lia),λj q e=>?_⟩
  cases j with
  | zero=>simp at e;subst e;exact s1.get _ _ fK trivial
  | succ j =>
   have:=s3 j q (by simpa using e)
   rw[show N+(j+1)=N+1+j by lia];exact this
theorem _root_.L2.Inv.lays {s s':aG} {H:Hp} (I:Inv X pins σ H s):∀(ps:List (V × V)) (us:List (aD × aD)) (H':Hp) (N:Nat),Inv X pins σ H' s'->s.heap.objs.size<=N->(∀a,N<=a->H' a=none)->ps.length=us.length ->
  (∀j p u,ps[j]? = some p->us[j]? = some u->RelV p.1 u.1/\RelV p.2 u.2/\IsPair s'.heap (N+j) u.1 u.2)->Inv X pins σ (JI H' N ps) s'
 | [],_,H',N,I',_,_,_,_=>I'
 | p::ps,[],H',N,I',_,_,hl,_=>by simp at hl
 | p::ps,u::us,H',N,I',hN,hn,hl,hh=>by
  obtain⟨r1,r2,hp⟩:=hh 0 p u rfl rfl
  have I2:Inv X pins σ (upd H' N (.tup [p.1,p.2])) s':=I.trackO I' hN (hn N (bK _)) ⟨by show 2<=sizeLine;decide,[u.1,u.2],.cons r1 (.cons r2 .nil),⟨_,hp,rfl,_,rfl⟩⟩
  refine Inv.lays I ps us _ (N+1) I2 (by lia) (λa ha=>by rw[cT (eB ha)];exact hn a (FR ha)) (by simpa using hl) λj q v e1 e2=>?_
  obtain⟨q1,q2,q3⟩:=hh (j+1) q v (by simpa using e1) (by simpa using e2)
  exact⟨q1,q2,by rw[show N+1+j=N+(j+1) by lia];exact q3⟩
end
def Hd:D->Option (List D)
 | .lst xs=>some xs
 | .tup xs=>some xs
 | _=>none
def Bg (ta tb:RE):RA:=λρ Q=>ta ρ λx=>tb ρ λy=>∃xs ys,Hd x=some xs/\Hd y=some ys/\xs.length=ys.length/\Q (xs.zipWith (λa b=>D.tup [a,b]) ys)
theorem Qr {K:aH} {H:Hp} {N:Nat}:∀{xs ys:List D} {vs us:List V} {ps:List (V × V)} (n:Nat),ps=vs.zip us->Reps K H xs vs->Reps K H ys us->xs.length=ys.length->(∀j p,ps[j]? = some p->H (N+(n+j))=some (.tup [p.1,p.2])) ->
  Reps K H (xs.zipWith (λa b=>D.tup [a,b]) ys) ((dM ps.length).map λj=>V.ref (N+(n+j))):=by
 intro xs
 induction xs with
 | nil =>
  intro ys vs us ps n e r1 r2 hl _
  cases r1
  cases r2 with
  | nil=>subst e;exact .nil
  | cons _ _=>simp at hl
 | cons x xs ih =>
  intro ys vs us ps n e r1 r2 hl hh
  cases r1 with
  | @cons _ v _ vs r1 t1 =>
   cases r2 with
   | nil=>simp at hl
   | @cons y u ys us r2 t2 =>
    subst e
    have h0:=hh 0 (v,u) rfl
    have ih:=ih (n:=n+1) (ps:=vs.zip us) rfl t1 t2 (by simpa using hl) λj p e=>by
     have:=hh (j+1) p (by simpa using e)
     rw[show n+1+j=n+(j+1) by lia];exact this
    simp only[mS,bZ,xG,aT,dD,qN]
    refine .cons (.tup h0 (.cons r1 (.cons r2 .nil))) ?_
    have e2:((λj=>V.ref (N+(n+j))) ∘ Nat.succ)=λj=>V.ref (N+(n+1+j)):=by
     funext j;simp only[vL,Nat.succ_eq_add_one];congr 2;lia
    rw[e2];exact ih
theorem boot_zip:bootBuiltins "zip" = some (.type "zip"):=by decide +kernel
structure Src (h:Heap) (a:Addr) (its:List aD) (c:String) (P:Heap->Prop) (T:Addr->Nat->Heap->Prop):Prop where
 here:P h
 lt:a<h.objs.size
 stay:∀{h1 h2:Heap},P h1->(∀o,h1.get? a=some o->h2.get? a=some o)->P h2
 sub:∀{prog:bV} {w:dE} {I:Addr},a≠I->Sub prog w I a its (T I)
 start:∀{h1:Heap} {I:Addr},h1.get? I=some (wJ c a)->P h1->T I 0 h1
theorem src_list {h:Heap} {a:Addr} {its:List aD} (p:h.IsList a its.toArray):Src h a its "list_iterator" (λh=>h.IsList a its.toArray) (λI k h=>h.IsListIter I a k/\h.IsList a its.toArray) :=
 ⟨p,by obtain⟨o,e,_⟩:=p;exact aU e,λq e=>q.at e,λne=>Mi ne,λe q=>⟨⟨_,e,rfl,rfl⟩,q⟩⟩
theorem LT {h:Heap} {a:Addr} {its:List aD} (p:h.IsTuple a its.toArray):Src h a its "tuple_iterator" (λh=>h.IsTuple a its.toArray) (λI k h=>h.IsTupleIter I a k/\h.IsTuple a its.toArray) :=
 ⟨p,by obtain⟨o,e,_⟩:=p;exact aU e,λq e=>q.at e,λne=>Qh ne,λe q=>⟨⟨_,e,rfl,rfl⟩,q⟩⟩
section
variable {X:Cx} {a b:Expr} {ta tb:RE} {p pz pos posz:Pos}
theorem MM (hml:X.mg "list" = none) (hmz:X.mg "zip" = none) (hc:X.calm=true) (ha:DB X a ta) (hb:DB X b tb) (hgl:Gl X "list":=by rfl) (hgz:Gl X "zip":=by rfl)
  (hs:starEach [.Call (.Name "zip" pz) [a,b] [] posz] X.env=[(false,eval (.Call (.Name "zip" pz) [a,b] [] posz) X.env)]:=by rfl) (hn:starEach [] X.env=[]:=by rfl) (h2:starEach [a,b] X.env=(false,eval a X.env)::starEach [b] X.env:=by rfl) (h1:starEach [b] X.env=[(false,eval b X.env)]:=by rfl) :
  DO X (.Call (.Name "list" p) [.Call (.Name "zip" pz) [a,b] [] posz] [] pos) (Bg ta tb):=by
 intro pins s σ H Q I hh_0
 obtain⟨ρ,P,st,q,k⟩:=hh_0
 refine hU (vQ I hgl hml boot_list ?_)
 refine fY ?_ (by rw[hs,hn]) (by rw[hn];rfl)
 rw[hs]
 show wpAny _ _ (spliced ((false,eval (.Call (.Name "zip" pz) [a,b] [] posz) X.env)::backTo pos [])) _ _ s
 refine pS (hU (vQ I hgz hmz boot_zip ?_))
 refine fY (thn (xZ ha (xZ hb NO (by rw[h1,hn])) h2 posz pins s σ H (λvs H1=>∃x y xs ys v u,vs=[v,u]/\Same H H1/\RepB X.K H1 x v/\RepB X.K H1 y u/\Hd x=some xs/\Hd y=some ys/\xs.length=ys.length/\P (xs.zipWith (λa b=>D.tup [a,b]) ys)) I
  ⟨ρ,_,st,q,λx v H1 hx s1 r1=>⟨ρ,_,st.ext s1,hx,λy u H2 hy s2 r2=>?_⟩⟩) λus s1 ⟨vs,H1,I1,r1,q1⟩=>?_) h2 (by rw[h1];rfl)
 ·obtain⟨xs,ys,e1,e2,e3,e4⟩:=hy
  exact⟨x,y,xs,ys,v,u,rfl,s1.trans s2,r1.same s2,r2,e1,e2,e3,e4⟩
 obtain⟨x,y,xs,ys,v,u,rfl,s01,rx,ry,ex,ey,hl,hP⟩:=q1
 obtain⟨w1,w2,rfl,rv,ru⟩:=vals2 r1
 have src:∀{x:D} {xs:List D} {v:V} {u:aD},RepB X.K H1 x v->Hd x=some xs->RelV v u->∃(l:Addr) (vs:List V) (its:List aD),u = .ref l/\Reps X.K H1 xs vs/\Vals vs its/\vs.length<=sizeLine/\(s1.heap.IsList l its.toArray\/s1.heap.IsTuple l its.toArray):=λ{x xs v u} r e rv=>by
  cases x with
  | lst ds =>
   cases e
   obtain⟨l,vs,rfl,hq,rr⟩:=r.lst
   cases rv
   obtain⟨its,rw',pl,hz⟩:=I1.list hq
   exact⟨l,vs,its,rfl,rr,rw',hz,.inl pl.isList⟩
  | tup ds =>
   cases e
   obtain⟨l,vs,rfl,hq,rr⟩:=r.tup
   cases rv
   obtain⟨its,rw',pl,hz⟩:=I1.tuple (SqT.of hq)
   exact⟨l,vs,its,rfl,rr,rw',hz,.inr pl⟩
  | _=>cases e
 obtain⟨l,vs,its,rfl,rr1,rv1,hz1,k1⟩:=src rx ex rv
 obtain⟨m,us,jts,rfl,rr2,rv2,hz2,k2⟩:=src ry ey ru
 have lv:vs.length=us.length:=by rw[<-rr1.length,<-rr2.length,hl]
 have li:=rv1.length
 have lj:=rv2.length
 have fin:∀{c d:String} {P1 P2:Heap->Prop} {T1 T2:Addr->Nat->Heap->Prop},Eh c d l m (λh=>P1 h/\P2 h)->Src s1.heap l its c P1 T1->Src s1.heap m jts d P2 T2 ->
   wpAny (model X.prog X.w) X.A (call (.type "zip") [.ref l,.ref m]) (λu s₁=>wpAny (model X.prog X.w) X.A (spliced (backTo pos [])) (λvs s₂=>wpAny (model X.prog X.w) X.A (call (.type "list") (u::vs)) (EP X pins σ Q) X.xe s₂) X.xe s₁) X.xe s1:=by
  intro c d P1 P2 T1 T2 Z S1 S2
  refine Eo Z ⟨S1.here,S2.here⟩ λh' hz hI hO g1 g2 hsz kp=>?_
  have lt1:=S1.lt
  have lt2:=S2.lt
  have D:=Hm lt1 lt2
  refine qG ?_
  have p1:=S1.stay S1.here λo e=>kp l o e
  have p2:=S2.stay S2.here λo e=>kp m o e
  refine PB (A:=X.A) (I1.ok.hd hc) D (λ{_ _}=>S1.sub (bH lt1)) (λ{_ _}=>S2.sub (by simp only[Addr] at *;lia)) (by lia) (by lia) ⟨.inl hz,hI,⟨_,_,hO⟩,S1.start g1 p1,S2.start g2 p2⟩ λh2 acc cc ha hd hS=>?_
  have hsz':(lK { s1 with heap:=h' }).objs.size=s1.heap.objs.size+5:=hsz
  rw[hsz'] at hd hS ⊢
  have kp2:∀b o,s1.heap.get? b=some o->h2.get? b=some o:=λb o e=>by
   have lb:=aU e
   refine hd.kept b o ?_ ?_ ?_ ?_ ?_ (kp b o e) <;> (intro z;simp only[Addr] at *;lia)
  have I2:Inv X pins σ H1 { s1 with heap:=h2 }:=I1.kept (t':=s1.toks) kp2
  have free:∀x,s1.heap.objs.size+5+1<=x->H1 x=none:=λx hx=>I1.hok.fresh (by lia)
  have I3:=I1.lays (s':={ s1 with heap:=h2 }) (vs.zip us) (its.zip jts) H1 (s1.heap.objs.size+5+1) I2 (by lia) free (by simp;lia) λj pp uu e1 e2=>by
   have e1':=lF.mp e1
   have e2':=lF.mp e2
   obtain⟨w1,f1,f2⟩:=rv1.get e1'.1
   obtain⟨w2,f3,f4⟩:=rv2.get e1'.2
   rw[e2'.1] at f1;rw[e2'.2] at f3;cases f1;cases f3
   refine⟨f2,f4,hd.got j ?_ _ _ e2'.1 e2'.2⟩
   have:=(aX.mp e2'.1).1
   simp;lia
  obtain⟨sm,fr,at'⟩:=ND (vs.zip us) H1 (s1.heap.objs.size+5+1) free
  generalize hH:JI H1 (s1.heap.objs.size+5+1) (vs.zip us)=H3 at I3 sm fr at'
  have hS0:H3 (s1.heap.objs.size+5)=none:=by
   rw[<-hH]
   have:∀(ps:List (V × V)) (G:Hp) (M:Nat),s1.heap.objs.size+5<M->JI G M ps (s1.heap.objs.size+5)=G (s1.heap.objs.size+5):=λps=>by
    induction ps with
    | nil=>intro G M _;rfl
    | cons p ps ih=>intro G M hM;rw[JI,ih _ _ (by lia),cT (bH hM)]
   rw[this _ _ _ (by lia)]
   exact I1.hok.fresh (by lia)
  have accL:acc.toList=(dM (vs.zip us).length).map λj=>fP (s1.heap.objs.size+5+1+(0+j)):=by
   apply qL
   intro j
   have hla:acc.toList.length=vs.length:=by simp;lia
   by_cases hj:j<vs.length
   ·rw[hd.refs j (by lia),bJ,sV (by simp;lia)];simp
   ·rw[gR (by lia),gR (by simp;lia)]
  have RR:=Qr (N:=s1.heap.objs.size+5+1) 0 rfl (rr1.keep (.of sm)) (rr2.keep (.of sm)) hl λj pp e=>by
   have:=at' j pp e
   rw[tL];exact this
  have VV:Vals ((dM (vs.zip us).length).map λj=>V.ref (s1.heap.objs.size+5+1+(0+j))) acc.toList:=by
   rw[accL]
   generalize dM (vs.zip us).length=rs
   induction rs with
   | nil=>exact .nil
   | cons r rs ih=>exact .cons rfl ih
  have I4:=I1.trackO (a:=s1.heap.objs.size+5) (w:=.lst ((dM (vs.zip us).length).map λj=>V.ref (s1.heap.objs.size+5+1+(0+j)))) I3 (by lia) hS0 ⟨by simp;lia,acc.toList,cc,VV,by simpa using hS⟩
  exact⟨.ref (s1.heap.objs.size+5),_,I4,rfl,k _ _ _ H3 hP (s01.trans sm) hS0 RR⟩
 rcases k1 with k1 | k1 <;> rcases k2 with k2 | k2
 ·exact fin (Qv l m its.toArray jts.toArray) (src_list k1) (src_list k2)
 ·exact fin (Qw l m its.toArray jts.toArray) (src_list k1) (LT k2)
 ·exact fin (Qx l m its.toArray jts.toArray) (LT k1) (src_list k2)
 ·exact fin (Qy l m its.toArray jts.toArray) (LT k1) (LT k2)
end
section
variable {X:Cx} {a b:Expr} {ta tb:RE} {pos p:Pos} {elts:List Expr} {k:Nat} {tp:Pos}
def Xa (ta tb:RE):RA:=λρ Q=>ta ρ λx=>tb ρ λy=>match x,y with
 | .lst xs,.lst ys=>Q (xs.zipWith (λa b=>D.tup [a,b]) ys)
 | _,_=>False
end
section
variable {prog:bV} {w:dE} {A:dF} {E:aD->aG->Prop} {s:aG}
theorem Fz {I l S:Addr} {items:Array aD} {bt:Nat->Nat->Bool} {G:Heap->Prop} {R:Result->aG->Prop} {os0:aG} (hh:A.handled=none) (hl:l≠I) (hSI:S≠I) (hSl:S≠l)
  (cmp:∀(i j:Nat) (u v:aD) (s:aG) (Q:aD->aG->Prop) (E:aD->aG->Prop),items[i]? = some u->items[j]? = some v->G s.heap->Q (.bool (bt i j)) s->wpAny (model prog w) A.in1 (richCompare .Lt u v) Q E s)
  (gs:∀h h',G h->(∀b o,b≠I->b≠S->h.get? b=some o->h'.get? b=some o)->G h') :
  ∀(k j:Nat) (s:aG) (vb:aD) (c:Nat),items.size-(j+1)=k->j+1<=items.size->s.heap.IsListIter I l (j+1)->s.heap.IsList l items->items[argBest bt j]? = some vb->G s.heap ->
   s.heap.get? S=some { cls:=.type "list",dict:=none,data:=.seq #[vb,vb] c,slots:=#[] } ->
   (∀v h' tk,items[argBest bt (items.size-1)]? = some v->(∀b o,b≠I->b≠S->s.heap.get? b=some o->h'.get? b=some o)->R (.ok (.ret v)) { s with heap:=h',toks:=tk }) ->
   codeAny (model prog w) A (.builtin "min.loop" ⟨[.ref I,.none,.ref S],[]⟩) R s:=by
 have nm:(toString "min" ++ toString ".loop":String) = "min.loop":=by decide
 have W:=ME (prog:=prog) (w:=w) (A:=A.in1) hh I l hl items
 have wr:∀{b:Addr},b≠I->b ∉ [I]:=λh=>by simpa using h
 intro k
 induction k with
 | zero =>
  intro j s vb c hk hj hi hL hb hG hS q
  refine fT F.entry_min_loop ?_;rw[eS F.plain_min_loop _]
  show wpAny _ A.in1 (seqItems? (.ref S) >>= _) _ _ s
  apply aA;apply eO hS rfl
  show wpAny _ A.in1 (tryCatch (pyNext (.ref I)) _ >>= _) _ _ s
  apply aA;apply kY;refine W.done s _ _ (by rw[show items.size=j+1 by lia];exact⟨hi,hL⟩) λh' tk kp=>?_
  have hS':=kp S _ (wr hSI) hS
  show wpAny _ A.in1 (updateSeq S (λ_=>#[]) >>= _) _ _ _
  apply aA;refine gC hS' rfl ?_;apply aA;apply jD;apply aI
  exact q vb _ tk (by rw[show items.size-1=j by lia];exact hb) λb o b1 b2 e=>(cE _ _ (Ne.symm b2)).trans (kp b o (wr b1) e)
 | succ k ih =>
  intro j s vb c hk hj hi hL hb hG hS q
  refine fT F.entry_min_loop ?_;rw[eS F.plain_min_loop _]
  show wpAny _ A.in1 (seqItems? (.ref S) >>= _) _ _ s
  apply aA;apply eO hS rfl
  show wpAny _ A.in1 (tryCatch (pyNext (.ref I)) _ >>= _) _ _ s
  apply aA;apply kY;refine W.item (j+1) s _ _ (by lia) ⟨hi,hL⟩ λv h' tk hv st' kp=>?_
  have hS':=kp S _ (wr hSI) hS
  have hG':G h':=gs _ _ hG λb o b1 _ e=>kp b o (wr b1) e
  show wpAny _ A.in1 (tryCatch (holding [v,v] (richCompare .Lt v vb >>= _)) _ >>= _) _ _ _
  apply aA;apply kY;apply fL;apply aA;refine cmp (j+1) (argBest bt j) v vb _ _ _ hv hb hG' ?_
  apply aA;apply fL;apply jY;apply aA;apply jD;apply aI
  cases hbt:bt (j+1) (argBest bt j) with
  | true =>
   simp only[if_true]
   apply aA;refine gC hS' rfl ?_;apply aA;apply jD;rw[nm];apply aI
   have up:∀b o,b≠S->h'.get? b=some o->(h'.update S (dH λ_=>#[v,v])).get? b=some o:=λb o b2 e=>(cE _ _ (Ne.symm b2)).trans e
   refine⟨gJ F.plain_min_loop _,ih (j+1) _ v _ (by lia) (by lia) (st'.1.at λo e=>up _ o hSI.symm e) (st'.2.at λo e=>up _ o hSl.symm e) (by simp only[argBest,hbt,if_true];exact hv) (gs _ _ hG' λb o _ b2 e=>up b o b2 e) (dQ _ hS' rfl) λv' h'' tk'' e kk=>?_⟩
   exact q v' h'' tk'' e λb o b1 b2 e=>kk b o b1 b2 (up b o b2 (kp b o (wr b1) e))
  | false =>
   simp only[aM,if_false]
   apply aA;apply jD;rw[nm];apply aI
   refine⟨gJ F.plain_min_loop _,ih (j+1) _ vb c (by lia) (by lia) st'.1 st'.2 (by simp only[argBest,hbt,aM,if_false];exact hb) hG' hS' λv' h'' tk'' e kk=>?_⟩
   exact q v' h'' tk'' e λb o b1 b2 e=>kk b o b1 b2 (kp b o (wr b1) e)
theorem Ek {l:Addr} {items:Array aD} {bt:Nat->Nat->Bool} {G:Heap->Prop} {Q:aD->aG->Prop} (hh:A.handled=none) (hL:s.heap.IsList l items) (hne:0<items.size)
  (cmp:∀(i j:Nat) (u v:aD) (s:aG) (Q:aD->aG->Prop) (E:aD->aG->Prop),items[i]? = some u->items[j]? = some v->G s.heap->Q (.bool (bt i j)) s->wpAny (model prog w) A.in1 (richCompare .Lt u v) Q E s)
  (gs:∀h',(∀b o,s.heap.get? b=some o->h'.get? b=some o)->G h') (q:∀v h' tk,items[argBest bt (items.size-1)]? = some v->(∀b o,s.heap.get? b=some o->h'.get? b=some o)->Q v { s with heap:=h',toks:=tk }) :
  wpAny (model prog w) A (call (.builtin "min") [.ref l]) Q E s:=by
 have nm:(toString "min" ++ toString ".loop":String) = "min.loop":=by decide
 have lt:l<s.heap.objs.size:=by obtain⟨_,e,_⟩:=hL;exact aU e
 refine EH F.kind_min F.plain_min F.entry_min (F.args_min1 _) ?_
 show wpAny _ A.in1 (kH "min" ["key","default"] 0 ⟨[],[]⟩ >>= _) _ _ s
 apply aA;refine oK (show kH "min" ["key","default"] 0 ⟨[],[]⟩=pure [none,none] from rfl) ?_
 apply aA;apply aI;apply aA;refine jX hL ?_
 apply aA;refine fE ?_;rw[nm];apply aI
 have sz1:(s.heap.push (wJ "list_iterator" l)).objs.size=s.heap.objs.size+1:=gD ..
 generalize hp:s.heap.push (wJ "list_iterator" l)=h1 at sz1
 have hI:h1.IsListIter s.heap.objs.size l 0:=by rw[<-hp];exact⟨_,bI _ rfl,rfl,rfl⟩
 have k1:∀b o,s.heap.get? b=some o->h1.get? b=some o:=λb o e=>by rw[<-hp];exact aN _ e
 refine⟨gJ F.plain_min_loop _,?_⟩
 show codeAny _ A (.builtin "min.loop" ⟨[.ref s.heap.objs.size,.none,.ref h1.objs.size],[]⟩) _ { s with heap:=h1.push { cls:=.type "list",dict:=none,data:=.seq ([]:List aD).toArray } }
 rw[sz1]
 have hS:(h1.push { cls:=.type "list",dict:=none,data:=.seq ([]:List aD).toArray }).get? (s.heap.objs.size+1)=some { cls:=.type "list",dict:=none,data:=.seq #[] 0,slots:=#[] }:=by rw[<-sz1];exact bI _ rfl
 have k2:∀b o,h1.get? b=some o->(h1.push { cls:=.type "list",dict:=none,data:=.seq ([]:List aD).toArray }).get? b=some o:=λb o e=>aN _ e
 generalize h1.push { cls:=.type "list",dict:=none,data:=.seq ([]:List aD).toArray } = h2 at hS k2
 have neI:∀{b:Addr} {o:Obj},s.heap.get? b=some o->b≠s.heap.objs.size/\b≠s.heap.objs.size+1:=λe=>⟨bH (aU e),bH (gI (aU e))⟩
 have W:=ME (prog:=prog) (w:=w) (A:=A.in1) hh s.heap.objs.size l (bH lt) items
 refine fT F.entry_min_loop ?_;rw[eS F.plain_min_loop _]
 show wpAny _ A.in1 (seqItems? (.ref (s.heap.objs.size+1)) >>= _) _ _ _
 apply aA;apply eO hS rfl
 show wpAny _ A.in1 (tryCatch (pyNext (.ref s.heap.objs.size)) _ >>= _) _ _ _
 have hL2:h2.IsList l items:=hL.at λo e=>k2 _ o (k1 _ o e)
 apply aA;apply kY;refine W.item 0 _ _ _ hne ⟨hI.at λo e=>k2 _ o e,hL2⟩ λv h' tk hv st' kp=>?_
 have wr:∀{b:Addr},b≠s.heap.objs.size->b ∉ [s.heap.objs.size]:=λh=>by simpa using h
 have hS':=kp (s.heap.objs.size+1) _ (wr (oR _)) hS
 show wpAny _ A.in1 (updateSeq (s.heap.objs.size+1) (λ_=>#[v,v]) >>= _) _ _ _
 apply aA;refine gC hS' rfl ?_;rw[nm];apply aI
 have up:∀b o,b≠s.heap.objs.size+1->h'.get? b=some o->(h'.update (s.heap.objs.size+1) (dH λ_=>#[v,v])).get? b=some o:=λb o b2 e=>(cE _ _ (Ne.symm b2)).trans e
 have old:∀b o,s.heap.get? b=some o->(h'.update (s.heap.objs.size+1) (dH λ_=>#[v,v])).get? b=some o:=λb o e=>up b o (neI e).2 (kp b o (wr (neI e).1) (k2 b o (k1 b o e)))
 have hS'':=dQ (dH λ_=>#[v,v]) hS' rfl
 refine⟨gJ F.plain_min_loop _,?_⟩
 refine Fz (A:=A) (G:=λh=>∀b o,s.heap.get? b=some o->h.get? b=some o) (bt:=bt) (items:=items) (I:=s.heap.objs.size) (l:=l) (S:=s.heap.objs.size+1) (os0:=s) hh (bH lt) (oR _) (eB (gI lt)) (λi j u v s' Q' E' e1 e2 g c=>cmp i j u v s' Q' E' e1 e2 (gs _ g) c)
  (λh3 h4 g kk b o e=>kk b o (neI e).1 (neI e).2 (g b o e)) (items.size-1) 0 _ v _ (by lia) (by lia) (st'.1.at λo e=>up _ o (bH (mE _)) e) (st'.2.at λo e=>up _ o (bH (gI lt)) e) (by simpa [argBest] using hv) old hS'' λv' h'' tk'' e kk=>?_
 exact q v' h'' tk'' e λb o e=>kk b o (neI e).1 (neI e).2 (old b o e)
theorem Af {I l S:Addr} {items:Array aD} {bt:Nat->Nat->Bool} {G:Heap->Prop} {R:Result->aG->Prop} {os0:aG} (hh:A.handled=none) (hl:l≠I) (hSI:S≠I) (hSl:S≠l)
  (cmp:∀(i j:Nat) (u v:aD) (s:aG) (Q:aD->aG->Prop) (E:aD->aG->Prop),items[i]? = some u->items[j]? = some v->G s.heap->Q (.bool (bt i j)) s->wpAny (model prog w) A.in1 (richCompare .Lt u v) Q E s)
  (gs:∀h h',G h->(∀b o,b≠I->b≠S->h.get? b=some o->h'.get? b=some o)->G h') :
  ∀(k j:Nat) (s:aG) (vb:aD) (c:Nat),items.size-(j+1)=k->j+1<=items.size->s.heap.IsTupleIter I l (j+1)->s.heap.IsTuple l items->items[argBest bt j]? = some vb->G s.heap ->
   s.heap.get? S=some { cls:=.type "list",dict:=none,data:=.seq #[vb,vb] c,slots:=#[] } ->
   (∀v h' tk,items[argBest bt (items.size-1)]? = some v->(∀b o,b≠I->b≠S->s.heap.get? b=some o->h'.get? b=some o)->R (.ok (.ret v)) { s with heap:=h',toks:=tk }) ->
   codeAny (model prog w) A (.builtin "min.loop" ⟨[.ref I,.none,.ref S],[]⟩) R s:=by
 have nm:(toString "min" ++ toString ".loop":String) = "min.loop":=by decide
 have W:=Walks.tuple (prog:=prog) (w:=w) (A:=A.in1) hh I l hl items
 have wr:∀{b:Addr},b≠I->b ∉ [I]:=λh=>by simpa using h
 intro k
 induction k with
 | zero =>
  intro j s vb c hk hj hi hL hb hG hS q
  refine fT F.entry_min_loop ?_;rw[eS F.plain_min_loop _]
  show wpAny _ A.in1 (seqItems? (.ref S) >>= _) _ _ s
  apply aA;apply eO hS rfl
  show wpAny _ A.in1 (tryCatch (pyNext (.ref I)) _ >>= _) _ _ s
  apply aA;apply kY;refine W.done s _ _ (by rw[show items.size=j+1 by lia];exact⟨hi,hL⟩) λh' tk kp=>?_
  have hS':=kp S _ (wr hSI) hS
  show wpAny _ A.in1 (updateSeq S (λ_=>#[]) >>= _) _ _ _
  apply aA;refine gC hS' rfl ?_;apply aA;apply jD;apply aI
  exact q vb _ tk (by rw[show items.size-1=j by lia];exact hb) λb o b1 b2 e=>(cE _ _ (Ne.symm b2)).trans (kp b o (wr b1) e)
 | succ k ih =>
  intro j s vb c hk hj hi hL hb hG hS q
  refine fT F.entry_min_loop ?_;rw[eS F.plain_min_loop _]
  show wpAny _ A.in1 (seqItems? (.ref S) >>= _) _ _ s
  apply aA;apply eO hS rfl
  show wpAny _ A.in1 (tryCatch (pyNext (.ref I)) _ >>= _) _ _ s
  apply aA;apply kY;refine W.item (j+1) s _ _ (by lia) ⟨hi,hL⟩ λv h' tk hv st' kp=>?_
  have hS':=kp S _ (wr hSI) hS
  have hG':G h':=gs _ _ hG λb o b1 _ e=>kp b o (wr b1) e
  show wpAny _ A.in1 (tryCatch (holding [v,v] (richCompare .Lt v vb >>= _)) _ >>= _) _ _ _
  apply aA;apply kY;apply fL;apply aA;refine cmp (j+1) (argBest bt j) v vb _ _ _ hv hb hG' ?_
  apply aA;apply fL;apply jY;apply aA;apply jD;apply aI
  cases hbt:bt (j+1) (argBest bt j) with
  | true =>
   simp only[if_true]
   apply aA;refine gC hS' rfl ?_;apply aA;apply jD;rw[nm];apply aI
   have up:∀b o,b≠S->h'.get? b=some o->(h'.update S (dH λ_=>#[v,v])).get? b=some o:=λb o b2 e=>(cE _ _ (Ne.symm b2)).trans e
   refine⟨gJ F.plain_min_loop _,ih (j+1) _ v _ (by lia) (by lia) (st'.1.at λo e=>up _ o hSI.symm e) (st'.2.at λo e=>up _ o hSl.symm e) (by simp only[argBest,hbt,if_true];exact hv) (gs _ _ hG' λb o _ b2 e=>up b o b2 e) (dQ _ hS' rfl) λv' h'' tk'' e kk=>?_⟩
   exact q v' h'' tk'' e λb o b1 b2 e=>kk b o b1 b2 (up b o b2 (kp b o (wr b1) e))
  | false =>
   simp only[aM,if_false]
   apply aA;apply jD;rw[nm];apply aI
   refine⟨gJ F.plain_min_loop _,ih (j+1) _ vb c (by lia) (by lia) st'.1 st'.2 (by simp only[argBest,hbt,aM,if_false];exact hb) hG' hS' λv' h'' tk'' e kk=>?_⟩
   exact q v' h'' tk'' e λb o b1 b2 e=>kk b o b1 b2 (kp b o (wr b1) e)
theorem ZB {l:Addr} {items:Array aD} {bt:Nat->Nat->Bool} {G:Heap->Prop} {Q:aD->aG->Prop} (hh:A.handled=none) (hL:s.heap.IsTuple l items) (hne:0<items.size)
  (cmp:∀(i j:Nat) (u v:aD) (s:aG) (Q:aD->aG->Prop) (E:aD->aG->Prop),items[i]? = some u->items[j]? = some v->G s.heap->Q (.bool (bt i j)) s->wpAny (model prog w) A.in1 (richCompare .Lt u v) Q E s)
  (gs:∀h',(∀b o,s.heap.get? b=some o->h'.get? b=some o)->G h') (q:∀v h' tk,items[argBest bt (items.size-1)]? = some v->(∀b o,s.heap.get? b=some o->h'.get? b=some o)->Q v { s with heap:=h',toks:=tk }) :
  wpAny (model prog w) A (call (.builtin "min") [.ref l]) Q E s:=by
 have nm:(toString "min" ++ toString ".loop":String) = "min.loop":=by decide
 have lt:l<s.heap.objs.size:=by obtain⟨_,e,_⟩:=hL;exact aU e
 refine EH F.kind_min F.plain_min F.entry_min (F.args_min1 _) ?_
 show wpAny _ A.in1 (kH "min" ["key","default"] 0 ⟨[],[]⟩ >>= _) _ _ s
 apply aA;refine oK (show kH "min" ["key","default"] 0 ⟨[],[]⟩=pure [none,none] from rfl) ?_
 apply aA;apply aI;apply aA;refine kX hL ?_
 apply aA;refine fE ?_;rw[nm];apply aI
 have sz1:(s.heap.push (wJ "tuple_iterator" l)).objs.size=s.heap.objs.size+1:=gD ..
 generalize hp:s.heap.push (wJ "tuple_iterator" l)=h1 at sz1
 have hI:h1.IsTupleIter s.heap.objs.size l 0:=by rw[<-hp];exact⟨_,bI _ rfl,rfl,rfl⟩
 have k1:∀b o,s.heap.get? b=some o->h1.get? b=some o:=λb o e=>by rw[<-hp];exact aN _ e
 refine⟨gJ F.plain_min_loop _,?_⟩
 show codeAny _ A (.builtin "min.loop" ⟨[.ref s.heap.objs.size,.none,.ref h1.objs.size],[]⟩) _ { s with heap:=h1.push { cls:=.type "list",dict:=none,data:=.seq ([]:List aD).toArray } }
 rw[sz1]
 have hS:(h1.push { cls:=.type "list",dict:=none,data:=.seq ([]:List aD).toArray }).get? (s.heap.objs.size+1)=some { cls:=.type "list",dict:=none,data:=.seq #[] 0,slots:=#[] }:=by rw[<-sz1];exact bI _ rfl
 have k2:∀b o,h1.get? b=some o->(h1.push { cls:=.type "list",dict:=none,data:=.seq ([]:List aD).toArray }).get? b=some o:=λb o e=>aN _ e
 generalize h1.push { cls:=.type "list",dict:=none,data:=.seq ([]:List aD).toArray } = h2 at hS k2
 have neI:∀{b:Addr} {o:Obj},s.heap.get? b=some o->b≠s.heap.objs.size/\b≠s.heap.objs.size+1:=λe=>⟨bH (aU e),bH (gI (aU e))⟩
 have W:=Walks.tuple (prog:=prog) (w:=w) (A:=A.in1) hh s.heap.objs.size l (bH lt) items
 refine fT F.entry_min_loop ?_;rw[eS F.plain_min_loop _]
 show wpAny _ A.in1 (seqItems? (.ref (s.heap.objs.size+1)) >>= _) _ _ _
 apply aA;apply eO hS rfl
 show wpAny _ A.in1 (tryCatch (pyNext (.ref s.heap.objs.size)) _ >>= _) _ _ _
 have hL2:h2.IsTuple l items:=hL.at λo e=>k2 _ o (k1 _ o e)
 apply aA;apply kY;refine W.item 0 _ _ _ hne ⟨hI.at λo e=>k2 _ o e,hL2⟩ λv h' tk hv st' kp=>?_
 have wr:∀{b:Addr},b≠s.heap.objs.size->b ∉ [s.heap.objs.size]:=λh=>by simpa using h
 have hS':=kp (s.heap.objs.size+1) _ (wr (oR _)) hS
 show wpAny _ A.in1 (updateSeq (s.heap.objs.size+1) (λ_=>#[v,v]) >>= _) _ _ _
 apply aA;refine gC hS' rfl ?_;rw[nm];apply aI
 have up:∀b o,b≠s.heap.objs.size+1->h'.get? b=some o->(h'.update (s.heap.objs.size+1) (dH λ_=>#[v,v])).get? b=some o:=λb o b2 e=>(cE _ _ (Ne.symm b2)).trans e
 have old:∀b o,s.heap.get? b=some o->(h'.update (s.heap.objs.size+1) (dH λ_=>#[v,v])).get? b=some o:=λb o e=>up b o (neI e).2 (kp b o (wr (neI e).1) (k2 b o (k1 b o e)))
 have hS'':=dQ (dH λ_=>#[v,v]) hS' rfl
 refine⟨gJ F.plain_min_loop _,?_⟩
 refine Af (A:=A) (G:=λh=>∀b o,s.heap.get? b=some o->h.get? b=some o) (bt:=bt) (items:=items) (I:=s.heap.objs.size) (l:=l) (S:=s.heap.objs.size+1) (os0:=s) hh (bH lt) (oR _) (eB (gI lt)) (λi j u v s' Q' E' e1 e2 g c=>cmp i j u v s' Q' E' e1 e2 (gs _ g) c)
  (λh3 h4 g kk b o e=>kk b o (neI e).1 (neI e).2 (g b o e)) (items.size-1) 0 _ v _ (by lia) (by lia) (st'.1.at λo e=>up _ o (bH (mE _)) e) (st'.2.at λo e=>up _ o (bH (gI lt)) e) (by simpa [argBest] using hv) old hS'' λv' h'' tk'' e kk=>?_
 exact q v' h'' tk'' e λb o e=>kk b o (neI e).1 (neI e).2 (old b o e)
end
abbrev nQ (ns:List Int):D:=.tup (ns.map .int)
theorem AD:∀{a b c:List Int},HT.lexLt a b=true->HT.lexLt b c=true->HT.lexLt a c=true
 | [],[],_,h,_=>by cases h
 | [],_::_,[],_,h=>by cases h
 | [],_::_,_::_,_,_=>rfl
 | _::_,[],_,h,_=>by cases h
 | _::_,_::_,[],_,h=>by cases h
 | x::xs,y::ys,z::zs,h1,h2=>by
  rw[HT.lexLt_cons] at *
  by_cases e1:x=y
  ·subst e1
   rw[if_pos rfl] at h1
   by_cases e2:x=z
   ·rw[if_pos e2] at h2 ⊢;exact AD h1 h2
   ·rw[if_neg e2] at h2 ⊢;exact h2
  ·rw[if_neg e1] at h1
   by_cases e2:y=z
   ·subst e2;rw[if_neg e1];exact h1
   ·rw[if_neg e2] at h2
    simp only[decide_eq_true_eq] at h1 h2
    rw[if_neg (by lia)];simp only[decide_eq_true_eq];lia
theorem II:∀(a:List Int),HT.lexLt a a=false
 | []=>rfl
 | x::xs=>by rw[HT.lexLt_cons,if_pos rfl];exact II xs
theorem zT {bt:Nat->Nat->Bool} (tr:∀i j k,bt i j=true->bt j k=true->bt i k=true) (ir:∀i,bt i i=false):∀k,argBest bt k<=k/\∀j,j<=k->bt j (argBest bt k)=false
 | 0=>⟨bK _,λj hj=>by rw[Nat.le_zero.mp hj];exact ir 0⟩
 | k+1=>by
  obtain⟨h1,h2⟩:=zT tr ir k
  cases hb:bt (k+1) (argBest bt k) with
  | true =>
   simp only[argBest,hb,if_true]
   refine⟨bK _,λj hj=>?_⟩
   by_cases e:j=k+1
   ·subst e;exact ir _
   ·cases hc:bt j (k+1) with
    | false=>rfl
    | true =>
     have:=tr j (k+1) _ hc hb
     rw[h2 j (by lia)] at this;cases this
  | false =>
   simp only[argBest,hb,aM,if_false]
   refine⟨by lia,λj hj=>?_⟩
   by_cases e:j=k+1
   ·subst e;exact hb
   ·exact h2 j (by lia)
theorem Reps.tupI_inv {K:aH} {H:Hp} {ns:List Int} {v:V} (r:Rep K H (nQ ns) v):∃a,v = .ref a/\H a=some (.tup (ns.map V.int)):=by
 cases r with
 | tup h rr=>rw[rr.ints_inv] at h;exact⟨_,rfl,h⟩
section
variable {X:Cx} {e a b:Expr} {te ta tb:RE} {p pos:Pos}
def Nj:R22:=λx y Q=>∃ns ms:List Int,x=nQ ns/\y=nQ ms/\Q (.bl (HT.lexLt ns ms))
theorem Kv {k:Nat} (hr:Room k X.A):OpD X (compareOp .Lt) Nj:=by
 intro pins s σ H x y v u Q I rx ry hh_0
 obtain⟨d,e,P,r1,r2,q,kk⟩:=hh_0
 obtain⟨ns,ms,e1,e2,q⟩:=q
 subst e1 e2
 obtain⟨a,vs,rfl,h1,t1⟩:=r1.tup
 obtain⟨b,us,rfl,h2,t2⟩:=r2.tup
 rw[t1.ints_inv] at h1;rw[t2.ints_inv] at h2
 exact Tj (X:=X) (by have:=hr.un;lia) pins s σ H _ _ v u Q I rx ry ⟨a,b,ns,ms,rfl,rfl,SqT.of h1,SqT.of h2,kk _ _ H q (Same.refl H) (.bl _)⟩
def Co:D->(D->Prop)->Prop:=λd Q=>match d with
 | .lst ds=>∃nss:List (List Int),ds=nss.map nQ/\nss≠[]/\∀M,M∈nss->(∀x∈nss,HT.lexLt x M=false)->Q (nQ M)
 | .tup ds=>∃nss:List (List Int),ds=nss.map nQ/\nss≠[]/\∀M,M∈nss->(∀x∈nss,HT.lexLt x M=false)->Q (nQ M)
 | _=>False
theorem Cp {k:Nat} (hr:Room k X.A) (hm:X.mg "min" = none) (hc:X.calm=true) (h:DB X e te) (hg:Gl X "min":=by rfl) (hs:starEach [e] X.env=[(false,eval e X.env)]:=by rfl) (hn:starEach [] X.env=[]:=by rfl) :
  DE X (.Call (.Name "min" p) [e] [] pos) (r1 Co te):=by
 have call:yF X (.builtin "min") (λxs H Q=>∃(d:D) (v:V) (P:D->Prop),xs=[v]/\RepB X.K H d v/\Co d P/\∀z w,P z->Rep X.K H z w->Q w H):=by
  intro pins s σ H xs us Q I rs hq
  obtain⟨d,v,P,rfl,rb,hd,kk⟩:=hq
  cases d with
  | lst ds =>
   obtain⟨nss,rfl,hne,hd⟩:=hd
   obtain⟨l,vs,rfl,hq,rr⟩:=rb.lst
   obtain⟨u,rfl,rx⟩:=vals1 rs
   cases rx
   obtain⟨its,rv,pl,hz⟩:=I.list hq
   have l1:=rr.length
   have l2:=rv.length
   have hpos:0<nss.length:=kD.mpr hne
   rw[cI] at l1
   have each:∀(i:Nat) (u:aD),its[i]? = some u->∃ns a ts,nss[i]? = some ns/\vs[i]? = some (.ref a)/\u = .ref a/\Vals (ns.map V.int) ts/\IsTup s.heap a ts.toArray:=λi u e=>by
    have hi:i<nss.length:=by have:=(aX.mp e).1;lia
    obtain⟨v,e1,e2⟩:=rr.get (i:=i) (d:=nQ nss[i]) (by rw[bJ,aF hi];rfl)
    obtain⟨a,rfl,ha⟩:=Reps.tupI_inv e2
    obtain⟨u',f1,f2⟩:=rv.get e1
    rw[e] at f1;cases f1
    cases f2
    obtain⟨ts,g1,g2,_⟩:=I.tuple (SqT.of (K:=X.K) ha)
    exact⟨_,a,ts,aF hi,e1,rfl,g1,g2⟩
   refine Ek (bt:=λi j=>HT.lexLt (nss.getD i []) (nss.getD j [])) (G:=λh=>∀b o,s.heap.get? b=some o->h.get? b=some o) (I.ok.hd hc) pl.isList (by simp;lia) (λi j u v s' Q' E' e1 e2 g c=>?_) (λh' g=>g) λv h' tk ev kp=>?_
   ·obtain⟨ns,a,ts,n1,_,rfl,g1,g2⟩:=each i u (by simpa using e1)
    obtain⟨ms,b,us,n2,_,rfl,g3,g4⟩:=each j v (by simpa using e2)
    have q1:nss.getD i []=ns:=by rw[dL,n1];rfl
    have q2:nss.getD j []=ms:=by rw[dL,n2];rfl
    rw[q1,q2] at c
    have hu:=hr.un
    have tupAt:∀{a:Addr} {xs:Array aD},IsTup s.heap a xs->IsTup s'.heap a xs:=λ⟨o,e,r⟩=>⟨o,g _ o e,r⟩
    refine HT.lt_tupInts (A:=X.A.in1) (tupAt g2) (tupAt g4) (intsAre_of g1) (intsAre_of g3) (by show X.A.units+1<cLine;lia) c
   ·obtain⟨b1,b2⟩:=zT (bt:=λi j=>HT.lexLt (nss.getD i []) (nss.getD j [])) (λ_ _ _=>AD) (λ_=>II _) (its.toArray.size-1)
    generalize argBest (λi j=>HT.lexLt (nss.getD i []) (nss.getD j [])) (its.toArray.size-1)=m at b1 b2 ev
    obtain⟨ns,a,ts,n1,n2,rfl,g1,g2⟩:=each m v (by simpa using ev)
    have hm:m<nss.length:=(aX.mp n1).1
    refine⟨.ref a,H,I.kept kp,rfl,kk _ _ (hd ns (eY n1) λx hx=>?_) ?_⟩
    ·obtain⟨j,hj,rfl⟩:=eQ hx
     have:=b2 j (by simp;lia)
     have q1:nss.getD j []=nss[j]:=by rw[dL,aF hj];rfl
     have q2:nss.getD m []=ns:=by rw[dL,n1];rfl
     rw[q1,q2] at this;exact this
    ·obtain⟨w,f1,f2⟩:=rr.get (i:=m) (d:=nQ ns) (by rw[bJ,n1];rfl)
     rw[n2] at f1;cases f1;exact f2
  | tup ds =>
   obtain⟨nss,rfl,hne,hd⟩:=hd
   obtain⟨l,vs,rfl,hq,rr⟩:=rb.tup
   obtain⟨u,rfl,rx⟩:=vals1 rs
   cases rx
   obtain⟨its,rv,pl,hz⟩:=I.tuple (SqT.of (K:=X.K) hq)
   have l1:=rr.length
   have l2:=rv.length
   have hpos:0<nss.length:=kD.mpr hne
   rw[cI] at l1
   have each:∀(i:Nat) (u:aD),its[i]? = some u->∃ns a ts,nss[i]? = some ns/\vs[i]? = some (.ref a)/\u = .ref a/\Vals (ns.map V.int) ts/\IsTup s.heap a ts.toArray:=λi u e=>by
    have hi:i<nss.length:=by have:=(aX.mp e).1;lia
    obtain⟨v,e1,e2⟩:=rr.get (i:=i) (d:=nQ nss[i]) (by rw[bJ,aF hi];rfl)
    obtain⟨a,rfl,ha⟩:=Reps.tupI_inv e2
    obtain⟨u',f1,f2⟩:=rv.get e1
    rw[e] at f1;cases f1
    cases f2
    obtain⟨ts,g1,g2,_⟩:=I.tuple (SqT.of (K:=X.K) ha)
    exact⟨_,a,ts,aF hi,e1,rfl,g1,g2⟩
   refine ZB (bt:=λi j=>HT.lexLt (nss.getD i []) (nss.getD j [])) (G:=λh=>∀b o,s.heap.get? b=some o->h.get? b=some o) (I.ok.hd hc) pl (by simp;lia) (λi j u v s' Q' E' e1 e2 g c=>?_) (λh' g=>g) λv h' tk ev kp=>?_
   ·obtain⟨ns,a,ts,n1,_,rfl,g1,g2⟩:=each i u (by simpa using e1)
    obtain⟨ms,b,us,n2,_,rfl,g3,g4⟩:=each j v (by simpa using e2)
    have q1:nss.getD i []=ns:=by rw[dL,n1];rfl
    have q2:nss.getD j []=ms:=by rw[dL,n2];rfl
    rw[q1,q2] at c
    have hu:=hr.un
    have tupAt:∀{a:Addr} {xs:Array aD},IsTup s.heap a xs->IsTup s'.heap a xs:=λ⟨o,e,r⟩=>⟨o,g _ o e,r⟩
    refine HT.lt_tupInts (A:=X.A.in1) (tupAt g2) (tupAt g4) (intsAre_of g1) (intsAre_of g3) (by show X.A.units+1<cLine;lia) c
   ·obtain⟨b1,b2⟩:=zT (bt:=λi j=>HT.lexLt (nss.getD i []) (nss.getD j [])) (λ_ _ _=>AD) (λ_=>II _) (its.toArray.size-1)
    generalize argBest (λi j=>HT.lexLt (nss.getD i []) (nss.getD j [])) (its.toArray.size-1)=m at b1 b2 ev
    obtain⟨ns,a,ts,n1,n2,rfl,g1,g2⟩:=each m v (by simpa using ev)
    have hm:m<nss.length:=(aX.mp n1).1
    refine⟨.ref a,H,I.kept kp,rfl,kk _ _ (hd ns (eY n1) λx hx=>?_) ?_⟩
    ·obtain⟨j,hj,rfl⟩:=eQ hx
     have:=b2 j (by simp;lia)
     have q1:nss.getD j []=nss[j]:=by rw[dL,aF hj];rfl
     have q2:nss.getD m []=ns:=by rw[dL,n1];rfl
     rw[q1,q2] at this;exact this
    ·obtain⟨w,f1,f2⟩:=rr.get (i:=m) (d:=nQ ns) (by rw[bJ,n1];rfl)
     rw[n2] at f1;cases f1;exact f2
  | _=>exact hd.elim
 refine PE.mono (wM call hg hm boot_min (vS h hs hn) (by decide) (by decide) (by rw[hs,hn]) (by rw[hn];rfl)) λσ H Q hh=>iP hh λρ P st q k=>⟨ρ,_,st,q,λd v H1 hd s1 r=>⟨d,v,P,rfl,r,hd,λz w hz rz=>k z w H1 hz s1 rz⟩⟩
def dNe:R22:=λx y Q=>match x,y with
 | .int i,.int j=>Q (.bl !(decide (i=j)))
 | .bl i,.bl j=>Q (.bl !(decide (i=j)))
 | .tup xs,.tup ys=>match eqL (eqF 5) xs ys with
  | some b=>Q (.bl !b)
  | none=>False
 | .non,.non=>Q (.bl false)
 | _,_=>False
theorem Rp {k:Nat} (hr:Room k X.A):OpD X (compareOp .NotEq) dNe:=by
 intro pins s σ H x y v u Q I rx ry hh_0
 obtain⟨d,e,P,r1,r2,q,kk⟩:=hh_0
 have hu:=hr.un
 unfold dNe at q
 split at q
 ·rename_i i j
  rw[r1.int_inv] at rx;rw[r2.int_inv] at ry
  obtain⟨t,rfl⟩:=rx
  obtain⟨t',rfl⟩:=ry
  have e:(!(decide (i=j))) = !(i == j):=by rw[nJ]
  rw[e] at q
  exact SeqAt.RcNeAt.int_int i t j t' _ _ _ _ ⟨.bl _,H,I,rfl,kk _ _ H q (Same.refl H) (.bl _)⟩
 ·rename_i i j
  rw[r1.bl_inv] at rx;rw[r2.bl_inv] at ry
  cases rx;cases ry
  have e:(!(decide (i=j))) = !(i == j):=by rw[nJ]
  rw[e] at q
  exact SeqAt.RcNeAt.bool_bool i j _ _ _ _ ⟨.bl _,H,I,rfl,kk _ _ H q (Same.refl H) (.bl _)⟩
 ·rename_i xs ys
  split at q
  ·rename_i b h
   obtain⟨a,vs,rfl,h1,q1⟩:=r1.tup
   obtain⟨c,ws,rfl,h2,q2⟩:=r2.tup
   cases rx;cases ry
   obtain⟨its,rv,ht,_⟩:=I.tuple (SqT.of h1)
   obtain⟨its2,rv2,ht2,_⟩:=I.tuple (SqT.of h2)
   have l1:xs.length=its.length:=q1.length.trans rv.length
   have l2:ys.length=its2.length:=q2.length.trans rv2.length
   have rc:SeqAt.RcNeAt X.A s (.ref a) (.ref c) (!b):=by
    have:=SeqAt.RcNeAt.tuples (A:=X.A) (s:=s) (e:=λj=>match xs[j]?,ys[j]? with | some x,some y=>(eqF 5 x y).getD false | _,_=>false) ht ht2 (by lia) (λj g1 g2=>?_)
    ·simp only[bD,<-l1,<-l2] at this
     have al:=BH h
     rw[<-al]
     exact this
    ·simp only[bD] at g1 g2
     have e1:xs[j]? = some (xs[j]'(by lia)):=aF _
     have e2:ys[j]? = some (ys[j]'(by lia)):=aF _
     obtain⟨k,hk⟩:=GJ h j _ _ e1 e2
     rw[e1,e2]
     simp only[hk,kO]
     obtain⟨v1,f1,f2⟩:=q1.get e1
     obtain⟨v2,f3,f4⟩:=q2.get e2
     obtain⟨u1,g3,g4⟩:=rv.get f1
     obtain⟨u2,g5,g6⟩:=rv2.get f3
     have a1:its.toArray[j]=u1:=by
      have:=aF g1
      rw[this] at g3
      simpa using dN g3
     have a2:its2.toArray[j]=u2:=by
      have:=aF g2
      rw[this] at g5
      simpa using dN g5
     rw[a1,a2]
     exact (xS I 5 hk f2 f4 g4 g6 (by show X.A.units+1+5<cLine;lia)).2
   exact rc _ _ _ _ ⟨.bl _,H,I,rfl,kk _ _ H q (Same.refl H) (.bl _)⟩
  ·exact q.elim
 ·have non:∀{v:V},RepB X.K H .non v->v = .non:=λr=>by
   rcases r with r | ⟨_,_,_,e,_⟩
   ·cases r;rfl
   ·cases e
  rw[non r1] at rx;rw[non r2] at ry
  cases rx;cases ry
  exact SeqAt.RcNeAt.none_none _ _ _ _ ⟨.bl _,H,I,rfl,kk _ _ H q (Same.refl H) (.bl _)⟩
 ·exact q.elim
def Ir:R22:=λx y Q=>match x with
 | .lst xs=>∃j:Nat,(∃d,xs[j]? = some d/\eqF 6 d y=some true)/\(∀(i:Nat) d,i<j->xs[i]? = some d->eqF 6 d y=some false)/\(∀d∈xs,∃b,eqF 6 d y=some b)/\Q (.int (j:Int))
 | _=>False
theorem RelV.det {v v':V} {u:aD} (h:RelV v u) (h':RelV v' u):v=v':=RelV.inj h h'
end
section
variable {X:Cx} {pins:List (Addr × Obj)} {σ:St} {H:Hp} {s:aG}
theorem RI:∀{ks ks':List Int} {vs vs':List V},ks.length=vs.length->ks'.length=vs'.length->GN ks vs=GN ks' vs'->ks=ks'/\vs=vs'
 | [],[],[],[],_,_,_=>⟨rfl,rfl⟩
 | [],_::_,[],_::_,_,_,h=>by simp[GN] at h
 | _::_,[],_::_,[],_,_,h=>by simp[GN] at h
 | k::ks,k'::ks',v::vs,v'::vs',h1,h2,h=>by
  simp only[GN,qN,iO,eK,Sum.inl.injEq] at h
  obtain⟨rfl,rfl⟩:=RI (ks:=ks) (ks':=ks') (vs:=vs) (vs':=vs') (by simpa using h1) (by simpa using h2) h.2
  obtain⟨⟨rfl,rfl⟩,_⟩:=h
  exact⟨rfl,rfl⟩
theorem NC:∀{ks ks':List (List Int)} {vs vs':List V},ks.length=vs.length->ks'.length=vs'.length->xV ks vs=xV ks' vs'->ks=ks'/\vs=vs'
 | [],[],[],[],_,_,_=>⟨rfl,rfl⟩
 | [],_::_,[],_::_,_,_,h=>by simp[xV] at h
 | _::_,[],_::_,[],_,_,h=>by simp[xV] at h
 | k::ks,k'::ks',v::vs,v'::vs',h1,h2,h=>by
  simp only[xV,qN,iO,eK] at h
  obtain⟨rfl,rfl⟩:=NC (ks:=ks) (ks':=ks') (vs:=vs) (vs':=vs') (by simpa using h1) (by simpa using h2) h.2
  obtain⟨⟨e,rfl⟩,_⟩:=h
  have e':k=k':=by
   have z:=congrArg (uF λx:Key=>match x with | .inl i=>i | .inr _=>0) e
   rw[dD,dD] at z
   simpa [FH] using z
  exact⟨by rw[e'],rfl⟩
theorem JG (I:Inv X pins σ H s) {a:Addr} {o:Obj} {kvs:List (List Key × V)} {vs:List V} (h:H a=some (.frz o (.dT kvs))) (h':FzL X.K H a vs):False:=by
 obtain⟨its,rv,pl,_⟩:=I.list h'.sq
 obtain⟨o',e',c',_⟩:=pl.isList
 obtain⟨_,_,_,us,_,ob,es,ep,e,c,_⟩:=I.hok a _ h
 rw[e] at e';cases e';rw[c.1] at c';simp at c'
theorem JE (I:Inv X pins σ H s) {a:Addr} {o:Obj} {kvs:List (Key × V)} {vs:List V} (h:H a=some (.frz o (.dK kvs))) (h':FzL X.K H a vs):False:=by
 obtain⟨its,rv,pl,_⟩:=I.list h'.sq
 obtain⟨o',e',c',_⟩:=pl.isList
 obtain⟨_,_,_,us,_,ob,es,ep,e,c,_⟩:=I.hok a _ h
 rw[e] at e';cases e';rw[c.1] at c';simp at c'
mutual
theorem Rep.det (I:Inv X pins σ H s):∀{d d':D} {v:V},Rep X.K H d v->Rep X.K H d' v->d=d'
 | _,_,_,.non,r=>by cases r;rfl
 | _,_,_,.bl b,r=>by cases r;rfl
 | _,_,_,.int i,r=>by cases r;rfl
 | _,_,_,.str x,r=>by cases r;rfl
 | _,_,_,.tup h q,r=>by
  cases r with
  | tup h' q'=>rw[h] at h';cases h';rw[Reps.det I q q']
  | lst h' q' =>
   obtain⟨its,rv,pl,_⟩:=I.list h'.sq
   obtain⟨jts,rv',⟨o,e,c,_⟩,_⟩:=I.tuple (SqT.of (K:=X.K) h)
   obtain⟨o',e',c',_⟩:=pl.isList
   rw[e] at e';cases e';rw[c] at c';simp at c'
  | dct h' _ _=>rw[h] at h';cases h'
  | dtt h' _ _=>rw[h] at h';cases h'
 | _,_,_,.dct h hl q,r=>by
  cases r with
  | tup h' q'=>rw[h] at h';cases h'
  | lst h' q'=>exact (JE I h h').elim
  | dct h' hl' q' =>
   rw[h] at h'
   obtain⟨rfl,rfl⟩:=RI hl hl' (by injection h' with e;injection e with _ e;injection e)
   rw[Reps.det I q q']
  | dtt h' _ _=>rw[h] at h';cases h'
 | _,_,_,.dtt h hl q,r=>by
  cases r with
  | tup h' q'=>rw[h] at h';cases h'
  | lst h' q'=>exact (JG I h h').elim
  | dct h' _ _=>rw[h] at h';cases h'
  | dtt h' hl' q' =>
   rw[h] at h'
   obtain⟨rfl,rfl⟩:=NC hl hl' (by injection h' with e;injection e with _ e;injection e)
   rw[Reps.det I q q']
 | _,_,_,.lst h q,r=>by
  cases r with
  | tup h' q' =>
   obtain⟨its,rv,pl,_⟩:=I.list h.sq
   obtain⟨jts,rv',⟨o,e,c,_⟩,_⟩:=I.tuple (SqT.of (K:=X.K) h')
   obtain⟨o',e',c',_⟩:=pl.isList
   rw[e] at e';cases e';rw[c] at c';simp at c'
  | lst h' q'=>rw[I.list_inj h'.sq h.sq] at q';rw[Reps.det I q q']
  | dct h' _ _=>exact (JE I h' h).elim
  | dtt h' _ _=>exact (JG I h' h).elim
theorem Reps.det (I:Inv X pins σ H s):∀{d d':List D} {v:List V},Reps X.K H d v->Reps X.K H d' v->d=d'
 | _,_,_,.nil,r=>by cases r;rfl
 | _,_,_,.cons h t,r=>by
  cases r with
  | cons h' t'=>rw[Rep.det I h h',Reps.det I t t']
end
end
section
variable {X:Cx} {e a b:Expr} {te ta tb:RE} {p pos:Pos}
def Be (ta tb:RE):RE:=λρ Q=>ta ρ λx=>(∃xs,x = .lst xs)/\tb ρ λy=>Ir x y Q
theorem Jh {k:Nat} {apos cpos:Pos} (hr:Room k X.A) (ha:DB X a ta) (hb:DE X b tb) (hbase:attributeBase a "index" X.env (eval a X.env)=eval a X.env:=by rfl)
  (hfew:((backTo cpos (starEach [b] X.env)).all (λx=>!x.1) && (backToKw cpos (keywordEach [] X.env)).all (λx=>x.1.isSome) && decide (([b]:List Expr).length+([]:List BC).length+(if ([]:List BC).isEmpty then 0 else 1)<30))=true:=by rfl)
  (hline:(apos.endLine == cpos.line)=true:=by rfl) (hs:starEach [b] X.env=[(false,eval b X.env)]:=by rfl) (hn:starEach [] X.env=[]:=by rfl) :
  DE X (.Call (.Attribute a "index" apos) [b] [] cpos) (Be ta tb):=by
 have mt:MtR X "list.index" (λx vs H Q=>∃(d e:D) (u:V) (P:D->Prop),vs=[u]/\RepB X.K H d x/\Rep X.K H e u/\Ir d e P/\∀z w,P z->Rep X.K H z w->Q w H):=by
  intro pins s σ H x vs v us Q I rx rv hh_0
  obtain⟨d,e,u,P,ev,rd,re,q,kk⟩:=hh_0
  subst ev
  obtain⟨u',rfl,ru⟩:=rv.one
  cases d with
  | lst xs =>
   obtain⟨j,⟨dj,ej,hj⟩,hno,hall,q⟩:=q
   obtain⟨l,vs,rfl,hq,rr⟩:=rd.lst
   cases rx
   obtain⟨its,rw',pl,hz⟩:=I.list hq
   obtain⟨⟨cls,dd,data,sl⟩,ho,hc,n,hd⟩:=pl.isList
   simp only at hc hd
   subst hc hd
   have l1:=rr.length
   have l2:=rw'.length
   have hu:=hr.un
   have hjl:j<xs.length:=(aX.mp ej).1
   let ev:aD->Bool:=λy=>(dM xs.length).any λi=>match xs[i]?,its[i]? with
    | some d,some z=>z == y && eqF 6 d e == some true
    | _,_=>false
   have each:∀(i:Nat) (y:aD),its[i]? = some y->∃d v,xs[i]? = some d/\Rep X.K H d v/\RelV v y/\∃b,eqF 6 d e=some b:=λi y ey=>by
    have hi:i<xs.length:=by have:=(aX.mp ey).1;lia
    obtain⟨v,e1,e2⟩:=rr.get (aF hi)
    obtain⟨y',f1,f2⟩:=rw'.get e1
    rw[ey] at f1;cases f1
    exact⟨_,v,aF hi,e2,f2,hall _ (oP hi)⟩
   have evOk:∀(i:Nat) (y:aD) (d:D) (b:Bool),its[i]? = some y->xs[i]? = some d->eqF 6 d e=some b->ev y=b:=λi y d b ey ed hb=>by
    obtain⟨d',v,q1,q2,q3,_⟩:=each i y ey
    rw[ed] at q1;cases q1
    cases b with
    | true =>
     have hi:i<xs.length:=(aX.mp ed).1
     refine rN.mpr ⟨i,gG.mpr hi,?_⟩
     simp only[ed,ey,hb];simp
    | false =>
     refine FL.mpr λi' hi'=>?_
     cases ex:xs[i']? with
     | none=>simp
     | some d' =>
      cases ez:its[i']? with
      | none=>simp
      | some z =>
       simp only[fC,beq_iff_eq,not_and]
       intro hz hd'
       subst hz
       obtain⟨d2,v2,p1,p2,p3,_⟩:=each i' z ez
       rw[ex] at p1;cases p1
       have:=RelV.det q3 p3
       subst this
       rw[Rep.det I q2 p2] at hb
       rw[hb] at hd';cases hd'
   have getI:∀(i:Nat) (h:i<its.toArray.size),its[i]? = some its.toArray[i]:=λi h=>by
    have h':i<its.length:=by simpa using h
    rw[aF h'];simp
   refine xN F.slot_list_index ⟨_,ho,rfl⟩ F.entry_list_index (F.args_list_index_2 _ _) (SeqAt.list_indexAt l its.toArray n dd sl u' ev j (by simp;lia) ?_ ?_ λm hm hlt=>?_) ⟨ho,λy hy=>?_,?_⟩
   ·have hs:(sizeLine:Int)<2 ^ 63-1:=by decide
    lia
   ·exact evOk j _ dj true (getI j _) ej hj
   ·have hm':m<xs.length:=by simp at hm;lia
    exact evOk m _ xs[m] false (getI m hm) (aF hm') (hno m _ hlt (aF hm'))
   ·obtain⟨i,hi,rfl⟩:=eQ (List.mem_toArray.mp hy)
    obtain⟨d,v,q1,q2,q3,b,hb⟩:=each i its[i] (aF hi)
    rw[evOk i _ d b (aF hi) q1 hb]
    exact (xS I 6 hb q2 re q3 ru (by show X.A.units+1+6<cLine;lia)).2
   ·exact⟨.int (j:Int),H,I.tok _,⟨_,rfl⟩,kk _ _ q (.int _)⟩
  | _=>exact q.elim
 refine PE.mono (Rt mF PySem.F.slot_list_index PySem.F.type_list_index mt ha (vS hb hs hn) hbase hfew hline (by rw[hs,hn]) (by rw[hn];rfl)) λσ H Q hh=>iP hh λρ P st q k=>⟨ρ,_,st,q,λx v H1 hx s1 r1=>⟨?_,ρ,_,st.ext s1,hx.2,λy u H2 hy s2 r2=>⟨x,y,u,P,rfl,r1.same s2,r2,hy,λz w hz rz=>k z w H2 hz (s1.trans s2) rz⟩⟩⟩
 obtain⟨⟨xs,rfl⟩,_⟩:=hx
 obtain⟨l,vs,rfl,hq,_⟩:=r1.lst
 exact .inl ⟨rfl,vs,hq⟩
end
end
section
open PySem PySem.SetTable
def hop (N i:Nat):Nat:=(i*5+1) % N
def TR (N:Nat):Nat->Nat->Nat
 | 0,i=>i
 | m+1,i=>TR N m (hop N i)
theorem GK (N:Nat):∀a b i,TR N (a+b) i=TR N b (TR N a i)
 | 0,b,i=>by rw[tL];rfl
 | a+1,b,i=>by rw[Nat.add_right_comm];exact GK N a b (hop N i)
def Ec (N:Nat):Nat->Nat->List Nat
 | 0,_=>[]
 | m+1,i=>i::Ec N m (hop N i)
theorem IM {N j:Nat}:∀{m i:Nat},j∈Ec N m i->∃k,k<m/\TR N k i=j
 | 0,_,h=>by cases h
 | m+1,i,h=>by
  rcases aK.mp h with rfl | h
  ·exact⟨0,by lia,rfl⟩
  ·obtain⟨k,hk,e⟩:=IM h
   exact⟨k+1,by lia,e⟩
def Round (N:Nat):Prop:=(∀j,j<N->j∈Ec N N 0)/\TR N N 0=0
theorem OF {N:Nat} (h:((dM N).all λj=>(Ec N N 0).contains j)=true) (k:TR N N 0=0):Round N :=
 ⟨λj hj=>by have:=jH.mp h j (gG.mpr hj);simpa using this,k⟩
theorem Ug:Round 8:=OF (by decide +kernel) (by decide +kernel)
theorem Qb:Round 32:=OF (by decide +kernel) (by decide +kernel)
theorem Ma:Round 128:=OF (by decide +kernel) (by decide +kernel)
theorem Round.reach {N:Nat} (h:Round N) {i j:Nat} (hi:i<N) (hj:j<N):∃k,k<N/\TR N k i=j:=by
 obtain⟨a,ha,ea⟩:=IM (h.1 i hi)
 obtain⟨b,hb,eb⟩:=IM (h.1 j hj)
 by_cases hab:a<=b
 ·refine⟨b-a,by lia,?_⟩
  rw[<-ea,<-GK,show a+(b-a)=b by lia,eb]
 ·refine⟨b+(N-a),by lia,?_⟩
  rw[<-ea,<-GK,show a+(b+(N-a))=N+b by lia,GK,h.2,eb]
def Em (P:Nat->Prop) (mask:Nat):Nat->Nat->Nat->Prop
 | 0,i,_=>P i
 | m+1,i,pt=>Em P mask m (leap mask i pt).1 (leap mask i pt).2
theorem Bv {P:Nat->Prop} {mask:Nat}:∀m i,P (TR (mask+1) m i)->Em P mask m i 0
 | 0,_,h=>h
 | m+1,i,h=>by
  unfold Em
  have e:leap mask i 0=(hop (mask+1) i,0):=by simp[leap,hop]
  rw[e]
  exact Bv m (hop (mask+1) i) h
theorem YR {P:Nat->Prop} {mask:Nat} (R:Round (mask+1)) {j:Nat} (hj:j<=mask) (hP:P j):∀(b i pt:Nat),i<=mask->pt<32 ^ b->∃m,m<=mask+b/\Em P mask m i pt
 | 0,i,pt,hi,hp=>by
  have:pt=0:=by simpa using hp
  subst this
  obtain⟨k,hk,e⟩:=R.reach (i:=i) (j:=j) (by lia) (by lia)
  exact⟨k,by lia,Bv k i (by rw[e];exact hP)⟩
 | b+1,i,pt,hi,hp=>by
  have h1:(leap mask i pt).1<=mask:=by unfold leap;exact iZ (jI _ (by lia))
  have h2:(leap mask i pt).2<32 ^ b:=by
   unfold leap;dsimp only
   rw[Nat.pow_succ] at hp
   lia
  obtain⟨m,hm,e⟩:=YR R hj hP b _ _ h1 h2
  exact⟨m+1,by lia,e⟩
theorem Ci (h:Int):bits h<32 ^ 13:=by
 unfold bits
 have:(h % (2 ^ 64:Int))<2 ^ 64:=Int.emod_lt_of_pos _ (by decide)
 have h2:0<=h % (2 ^ 64:Int):=Int.emod_nonneg _ (by decide)
 have:(h % (2 ^ 64:Int)).toNat<2 ^ 64:=by lia
 exact bR this (by decide)
theorem vR {α:Type} [DecidableEq α]:∀(l m:List α),l.Nodup->(∀x∈l,x∈m)->l.length<=m.length
 | [],_,_,_=>gL _
 | x::l,m,hn,hs=>by
  have hx:=hs x (by simp)
  have hn':=fM.mp hn
  have:=vR l (m.erase x) hn'.2 λy hy=>by
   have ne:y≠x:=λe=>hn'.1 (e ▸ hy)
   exact (zL ne).mpr (hs y (by simp[hy]))
  rw[vM hx] at this
  have:0<m.length:=xF hx
  simp;lia
structure TabOk (t:SetTable) (n:Nat):Prop where
 size:t.place.size=n
 dum:t.dummies = #[]
 room:n<=t.mask
 round:Round (t.mask+1)
 ris:t.place.toList.Pairwise (· < ·)
theorem slot_of {t:SetTable} (hd:t.dummies = #[]) (j:Nat):t.slot j = .empty\/∃i,t.slot j = .live i/\t.place[i]? = some j:=by
 unfold slot
 dsimp only
 by_cases h:(t.place[below t.place j]? == some j)=true
 ·rw[if_pos h];exact cX ⟨_,rfl,by simpa using h⟩
 ·rw[if_neg h,hd,if_neg (by simp[has])];exact cZ rfl
theorem Bm {t:SetTable} {n:Nat} (T:TabOk t n):∃j,j<=t.mask/\t.slot j = .empty:=by
 apply dJ
 intro hn
 have all:∀j∈dM (t.mask+1),j∈t.place.toList:=by
  intro j hj
  rcases slot_of T.dum j with h | ⟨i,h,e⟩
  ·exact absurd ⟨j,by have:=gG.mp hj;lia,h⟩ hn
  ·rw[gX];exact yS e
 have:=vR _ _ HS all
 rw[FO,cM,T.size] at this
 have:=T.room
 lia
def QL (t:SetTable) (p:Probe) (m:Nat):Prop:=p.dummy=none/\p.more<=9/\Em (λj=>t.slot j = .empty) t.mask m p.i p.perturb/\(m=0->p.j=p.i)
def KJ (p:Probe) (m:Nat):Nat:=p.more+10*m
theorem BM (mask i:Nat):runEnd mask i-i<=9:=by unfold runEnd;split <;> lia
theorem UX {t:SetTable} {p:Probe} {m:Nat} (h:QL t p m) (hn:t.slot p.j≠.empty):∃m',QL t (t.advance p) m'/\KJ (t.advance p) m'<KJ p m:=by
 obtain⟨hd,hm,he,hj⟩:=h
 have m0:m≠0:=by rintro rfl;rw[hj rfl] at hn;exact hn he
 unfold advance
 split
 ·refine⟨m,⟨hd,by dsimp only;lia,he,λe=>absurd e m0⟩,by unfold KJ;dsimp only;lia⟩
 ·obtain⟨k,rfl⟩:∃k,m=k+1:=⟨m-1,by lia⟩
  refine⟨k,⟨hd,BM _ _,he,λ_=>rfl⟩,?_⟩
  unfold KJ
  have:=BM t.mask (leap t.mask p.i p.perturb).1
  dsimp only
  lia
theorem Hg {t:SetTable} {n:Nat} (T:TabOk t n) (h:Int):∃m,QL t (t.probeStart h) m/\KJ (t.probeStart h) m<10*turns t.mask:=by
 obtain⟨j,hj,he⟩:=Bm T
 obtain⟨m,hm,e⟩:=YR (P:=λj=>t.slot j = .empty) T.round hj he 13 (bits h % (t.mask+1)) (bits h) (iZ (jI _ (by lia))) (Ci h)
 refine⟨m,⟨rfl,BM _ _,e,λ_=>rfl⟩,?_⟩
 have:=BM t.mask (bits h % (t.mask+1))
 unfold KJ probeStart turns
 dsimp only
 lia
theorem Cz {mask:Nat} {owner:Array (Option Nat)}:∀(fuel m i pt:Nat),i<=mask->owner.size=mask+1->Em (λj=>owner.getD j (some 0)=none) mask m i pt->m<fuel->∃j,iW mask owner fuel i pt=some j/\j<=mask/\owner.getD j (some 0)=none
 | 0,_,_,_,_,_,_,h=>absurd h (nE _)
 | fuel+1,m,i,pt,hi,hs,he,hf=>by
  unfold iW
  cases hq:(dM (runEnd mask i+1-i)).find? λk=>(owner.getD (i+k) (some 0)).isNone with
  | some k =>
   have h1:=List.find?_some hq
   have h2:=uT hq
   have h3:=gG.mp h2
   refine⟨i+k,rfl,?_,by simpa using h1⟩
   have:runEnd mask i<=mask:=by unfold runEnd;split <;> lia
   lia
  | none =>
   dsimp only
   have hn:owner.getD i (some 0)≠none:=by
    have h0:=DU.mp hq 0 (gG.mpr (by unfold runEnd;split <;> lia))
    simpa using h0
   obtain⟨k,rfl⟩:∃k,m=k+1:=by
    cases m with
    | zero=>exact absurd he hn
    | succ k=>exact⟨k,rfl⟩
   exact Cz fuel k _ _ (by unfold leap;exact iZ (jI _ (by lia))) hs he (by lia)
def GT (owner:Array (Option Nat)) (n:Nat):List Nat:=(dM n).filterMap λj=>owner.getD j none
theorem WC {α:Type} {f g:Nat->Option α}:∀(l:List Nat),(∀a∈l,f a=g a)->l.filterMap f=l.filterMap g
 | [],_=>rfl
 | a::l,h=>by rw[eG,eG,h a (by simp),WC l λb hb=>h b (by simp[hb])]
theorem CG {α:Type} {f g:Nat->Option α} {x:α} {j:Nat}:∀(l:List Nat),l.Nodup->j∈l->(∀i,i≠j->f i=g i)->f j=none->g j=some x->(l.filterMap g).Perm (x::l.filterMap f)
 | [],_,h,_,_,_=>by cases h
 | i::l,hn,hj,hfg,hf,hg=>by
  have hn':=fM.mp hn
  by_cases e:i=j
  ·subst e
   rw[eG,eG,hf,hg]
   dsimp only
   have:l.filterMap g=l.filterMap f:=by
    exact WC l λa ha=>(hfg a (λe=>hn'.1 (e ▸ ha))).symm
   rw[this]
  ·have hj':j∈l:=by rcases aK.mp hj with h | h;exact absurd h.symm e;exact h
   have ih:=CG l hn'.2 hj' hfg hf hg
   rw[eG,eG,hfg i e]
   cases g i with
   | none=>exact ih
   | some y=>exact (ih.cons y).trans (List.Perm.swap x y _)
theorem Gk {owner:Array (Option Nat)} {N c:Nat} (hp:(GT owner N).Perm (dM c)) (hs:owner.size=N) (hc:c<N):∃j,j<N/\owner.getD j (some 0)=none:=by
 apply dJ
 intro hn
 have key:∀(l:List Nat),(∀j∈l,∃k,owner.getD j none=some k)->(l.filterMap λj=>owner.getD j none).length=l.length:=by
  intro l
  induction l with
  | nil=>intro _;rfl
  | cons j l ih =>
   intro h
   obtain⟨k,e⟩:=h j (by simp)
   rw[eG,e]
   have:=ih λj hj=>h j (by simp[hj])
   rw[bZ,bZ,this]
 have:=key (dM N) (by
  intro j hj
  have hj':=gG.mp hj
  cases h:owner.getD j none with
  | some k=>exact⟨k,rfl⟩
  | none =>
   refine absurd ⟨j,hj',?_⟩ hn
   have lt:j<owner.size:=by lia
   simp[kP,lt] at h ⊢
   exact h)
 have e:=hp.length_eq
 unfold GT at e
 rw[this] at e
 simp at e
 lia
theorem WO {mask:Nat} (R:Round (mask+1)):∀(hs:List Int) (owner:Array (Option Nat)) (c:Nat),owner.size=mask+1->(GT owner (mask+1)).Perm (dM c)->c+hs.length<=mask+1 ->
  ∃owner' ,(hs.foldl (λacc h=>do
    let (owner,k) <-acc
    let j <-iW mask owner (turns mask) (bits h % (mask+1)) (bits h)
    pure (owner.setIfInBounds j (some k),k+1)) (some (owner,c)))=some (owner',c+hs.length)/\owner'.size=mask+1/\(GT owner' (mask+1)).Perm (dM (c+hs.length))
 | [],owner,c,hs,hp,_=>⟨owner,rfl,hs,hp⟩
 | h::hs,owner,c,hz,hp,hl=>by
  simp only[bZ] at hl
  obtain⟨j0,hj0,e0⟩:=Gk hp hz (by lia)
  obtain⟨m,hm,em⟩:=YR (P:=λj=>owner.getD j (some 0)=none) R (j:=j0) (by lia) e0 13 (bits h % (mask+1)) (bits h) (iZ (jI _ (by lia))) (Ci h)
  obtain⟨j,ej,hj,ef⟩:=Cz (turns mask) m _ _ (iZ (jI _ (by lia))) hz em (by unfold turns;lia)
  rw[pP]
  have step:((do
    let (owner,k) <-some (owner,c)
    let j <-iW mask owner (turns mask) (bits h % (mask+1)) (bits h)
    pure (owner.setIfInBounds j (some k),k+1)):Option (Array (Option Nat) × Nat))=some (owner.setIfInBounds j (some c),c+1):=by
   show (iW mask owner (turns mask) (bits h % (mask+1)) (bits h) >>= λj=>_)=_
   rw[ej];rfl
  rw[step]
  have lt:j<owner.size:=by lia
  have perm:(GT (owner.setIfInBounds j (some c)) (mask+1)).Perm (dM (c+1)):=by
   unfold GT
   refine (CG (f:=λi=>owner.getD i none) (x:=c) (j:=j) _ HS (gG.mpr (by lia)) ?_ ?_ ?_).trans ?_
   ·intro i hi
    simp only[dR]
    rw[rB (Ne.symm hi)]
   ·simp only[dR] at ef ⊢
    have:owner[j]? = some owner[j]:=aZ lt
    rw[this] at ef ⊢
    exact ef
   ·simp only[dR]
    rw[nW lt];rfl
   ·rw[JT (n:=c)]
    exact (List.Perm.cons c hp).trans (yV (l₁:=[c]))
  obtain⟨o',r1,r2,r3⟩:=WO R hs (owner.setIfInBounds j (some c)) (c+1) (by simp[hz]) perm (by lia)
  refine⟨o',?_,r2,?_⟩
  ·rw[r1,bZ,show c+1+hs.length=c+(hs.length+1) by lia]
  ·rw[bZ,show c+(hs.length+1)=c+1+hs.length by lia];exact r3
theorem Od {mask:Nat} (R:Round (mask+1)) (finger moves:Nat) (led plain:Bool) (hashes:Array Int) (hl:hashes.size<=mask) :
  ∃t order,laid mask finger moves led plain hashes=some (t,order)/\TabOk t hashes.size/\t.mask=mask/\t.led=led/\t.plain=plain/\order.toList.Perm (dM hashes.size):=by
 obtain⟨o,e,sz,pm⟩:=WO R hashes.toList (yE (mask+1) none) 0 (by simp) (by
  have:GT (yE (mask+1) none) (mask+1)=[]:=by
   unfold GT
   rw[List.filterMap_eq_nil_iff]
   intro j hj
   have:=gG.mp hj
   simp[dR,this]
  rw[this];exact zJ _) (by rw[cM];lia)
 have el:layClean mask hashes=some o:=by
  unfold layClean
  rw[<-DQ]
  have e':=e
  simp only[tL] at e'
  rw[e']
  rfl
 unfold laid
 rw[el]
 simp only[tL,cM] at pm
 have e2:∀l:List Nat,(l.filterMap λj=>(o.getD j none).map (j,·)).map (·.2)=l.filterMap λj=>o.getD j none:=by
  intro l
  induction l with
  | nil=>rfl
  | cons j l ih =>
   rw[eG,eG]
   cases o.getD j none with
   | none=>exact ih
   | some k=>exact congrArg (k :: ·) ih
 have e3:∀l:List Nat,((l.filterMap λj=>(o.getD j none).map (j,·)).map (·.1)).Sublist l:=by
  intro l
  induction l with
  | nil=>exact FK _
  | cons j l ih =>
   rw[eG]
   cases o.getD j none with
   | none=>exact ih.cons j
   | some k=>exact ih.cons_cons j
 refine⟨_,_,rfl,⟨?_,rfl,hl,R,kZ (e3 _) List.pairwise_lt_range⟩,rfl,rfl,rfl,?_⟩
 ·have h1:=congrArg fJ (e2 (dM (mask+1)))
  have h2:=pm.length_eq
  unfold GT at h2
  simp only[cI,FO] at h1 h2
  simp only[bD,cI]
  lia
 ·dsimp only
  rw[e2];exact pm
theorem MG {xs:Array Nat} {j:Nat} (hr:xs.toList.Pairwise (· < ·)):∀(fuel lo hi:Nat),lo<=hi->hi<=xs.size->hi-lo<=fuel->(∀i x,i<lo->xs[i]? = some x->x<j)->(∀i x,hi<=i->xs[i]? = some x->j<=x) ->
  MF xs j fuel lo hi<=xs.size/\(∀i x,i<MF xs j fuel lo hi->xs[i]? = some x->x<j)/\(∀i x,MF xs j fuel lo hi<=i->xs[i]? = some x->j<=x)
 | 0,lo,hi,h1,h2,h3,a,b=>by
  have:lo=hi:=by lia
  subst this
  exact⟨h2,a,b⟩
 | fuel+1,lo,hi,h1,h2,h3,a,b=>by
  unfold MF
  by_cases hl:lo<hi
  ·rw[if_pos hl]
   dsimp only
   have hm:(lo+hi) / 2<xs.size:=by lia
   have em:xs[(lo+hi) / 2]? = some xs[(lo+hi) / 2]:=aZ hm
   have eg:xs.getD ((lo+hi) / 2) j=xs[(lo+hi) / 2]:=by simp[kP,hm]
   have mono:∀(i k x y:Nat),i<k->xs[i]? = some x->xs[k]? = some y->x<y:=by
    intro i k x y hik ex ey
    have hk:k<xs.size:=(iX.mp ey).1
    have:=jE.mp hr i k (by simp;lia) (by simpa using hk) hik
    rw[aZ (by lia)] at ex
    rw[aZ hk] at ey
    cases ex;cases ey
    simpa using this
   rw[eg]
   split
   ·rename_i h
    refine MG hr fuel _ _ (by lia) h2 (by lia) (λi x hq ex=>?_) b
    by_cases he:i=(lo+hi) / 2
    ·subst he;rw[em] at ex;cases ex;exact h
    ·exact qP (mono i ((lo+hi) / 2) x _ (by lia) ex em) h
   ·rename_i h
    refine MG hr fuel _ _ (by lia) (by lia) (by lia) a (λi x hq ex=>?_)
    by_cases he:i=(lo+hi) / 2
    ·subst he;rw[em] at ex;cases ex;lia
    ·have:=mono ((lo+hi) / 2) i _ x (by lia) em ex
     lia
  ·rw[if_neg hl]
   have:lo=hi:=by lia
   subst this
   exact⟨h2,a,b⟩
theorem GA {xs:Array Nat} (j:Nat) (hr:xs.toList.Pairwise (· < ·)):below xs j<=xs.size/\(∀i x,i<below xs j->xs[i]? = some x->x<j)/\(∀i x,below xs j<=i->xs[i]? = some x->j<=x) :=
 MG hr xs.size 0 xs.size (gL _) (bK _) (by lia) (λi x h=>absurd h (nE _)) λi x h e=>by
  have:=(iX.mp e).1;lia
theorem pJ {α:Type} (xs:Array α) (p:Nat) (x:α) (hp:p<=xs.size):(insertAt xs p x).toList=xs.toList.take p++x::xs.toList.drop p:=by
 unfold insertAt
 rw[Array.toList_append,uV,zC,zC]
 simp only[List.extract_eq_drop_take,xI,LY,fD,yW]
 congr 2
 rw[mQ (by simp)]
theorem CH {α:Type} (xs:Array α) (p:Nat) (x:α) (hp:p<=xs.size):(insertAt xs p x).size=xs.size+1:=by
 rw[<-cM,pJ xs p x hp];simp;lia
theorem GL {α:Type} (xs:Array α) (p:Nat) (x:α) (hp:p<=xs.size) (y:α):y∈(insertAt xs p x).toList↔y=x\/y∈xs.toList:=by
 rw[pJ xs p x hp,cY,aK]
 constructor
 ·rintro (h | h | h)
  ·exact cX (jS h)
  ·exact cZ h
  ·exact cX (zM h)
 ·rintro (h | h)
  ·exact cX (cZ h)
  ·rw[<-gB p xs.toList] at h
   rcases cY.mp h with h | h
   ·exact cZ h
   ·exact cX (cX h)
theorem Tx {t:SetTable} {n j:Nat} (T:TabOk t n) (he:t.slot j = .empty) (hr:n+1<=t.mask):TabOk (t.put j).1 (n+1)/\(t.put j).2=below t.place j/\below t.place j<=n/\(t.put j).1.mask=t.mask/\(t.put j).1.led=t.led/\(t.put j).1.plain=t.plain/\(t.put j).1.moves=t.moves:=by
 obtain⟨b1,b2,b3⟩:=GA j T.ris
 have hn:t.place[below t.place j]?≠some j:=by
  intro h
  unfold slot at he
  dsimp only at he
  rw[if_pos (by simpa using h)] at he
  cases he
 have hd:(if has t.dummies j=true then eraseAt t.dummies (below t.dummies j) else t.dummies) = #[]:=by
  rw[T.dum];simp[has]
 refine⟨⟨?_,hd,hr,T.round,?_⟩,rfl,by rw[<-T.size];exact b1,rfl,rfl,rfl,rfl⟩
 ·show (insertAt t.place _ j).size=_
  rw[CH _ _ _ b1,T.size]
 ·show (insertAt t.place _ j).toList.Pairwise _
  rw[pJ _ _ _ b1]
  refine jT.mpr ⟨kZ (FP _ _) T.ris,cK.mpr ⟨λx hx=>?_,kZ (List.drop_sublist _ _) T.ris⟩,λx hx y hy=>?_⟩
  ·obtain⟨i,hi,e⟩:=eQ hx
   simp only[mC,cM] at hi
   rw[FN] at e
   have ex:t.place[below t.place j+i]? = some x:=by rw[aZ (by lia),<-e];simp
   have:=b3 _ x (by lia) ex
   rcases uH this with h | h
   ·exact h
   ·subst h
    exfalso
    cases i with
    | zero=>exact hn ex
    | succ i =>
     have hp:below t.place j<t.place.size:=by lia
     have e0:t.place[below t.place j]? = some t.place[below t.place j]:=aZ hp
     have g1:=b3 _ _ (bK _) e0
     have g2:=jE.mp T.ris (below t.place j) (below t.place j+(i+1)) (by simpa using hp) (by simp;lia) (by lia)
     rw[aZ (by lia)] at ex
     injection ex with ex
     simp at g2
     lia
  ·obtain⟨i,hi,e⟩:=eQ hx
   simp only[gE,cM] at hi
   rw[List.getElem_take] at e
   have ex:t.place[i]? = some x:=by rw[aZ (by lia),<-e];simp
   have lx:=b2 i x (by lia) ex
   rcases aK.mp hy with rfl | hy
   ·exact lx
   ·obtain⟨k,hk,e'⟩:=eQ hy
    simp only[mC,cM] at hk
    rw[FN] at e'
    have ey:t.place[below t.place j+k]? = some y:=by rw[aZ (by lia),<-e'];simp
    have:=b3 _ y (by lia) ey
    lia
def tS (t:SetTable) (k:Nat):Nat:=if k=0 then 0 else t.place.getD (k-1) 0+1
theorem Ai {t:SetTable} {n k:Nat} (T:TabOk t n) (hk:k<=n):below t.place (tS t k)=k:=by
 obtain⟨b1,b2,b3⟩:=GA (tS t k) T.ris
 have mono:∀(i k x y:Nat),i<k->t.place[i]? = some x->t.place[k]? = some y->x<y:=by
  intro i k x y hik ex ey
  have hk:k<t.place.size:=(iX.mp ey).1
  have:=jE.mp T.ris i k (by simp;lia) (by simpa using hk) hik
  rw[aZ (by lia)] at ex
  rw[aZ hk] at ey
  cases ex;cases ey
  simpa using this
 have sz:=T.size
 have at':∀i,i<n->t.place[i]? = some (t.place.getD i 0):=by
  intro i hi
  rw[aZ (by lia)]
  have:i<t.place.size:=by lia
  simp[kP,this]
 rcases Nat.lt_trichotomy (below t.place (tS t k)) k with h | h | h
 ·exfalso
  have:=b3 (k-1) _ (by lia) (at' (k-1) (by lia))
  unfold tS at this
  rw[if_neg (by lia)] at this
  lia
 ·exact h
 ·exfalso
  have ek:=at' k (by lia)
  have h1:=b2 k _ h ek
  unfold tS at h1
  by_cases h0:k=0
  ·rw[if_pos h0] at h1;lia
  ·rw[if_neg h0] at h1
   have:=mono (k-1) k _ _ (by lia) (at' (k-1) (by lia)) ek
   lia
def nxP (mask:Nat) (p:Probe):Probe:=if p.more > 0 then { p with j:=p.j+1,more:=p.more-1 } else
 { p with j:=(leap mask p.i p.perturb).1,more:=runEnd mask (leap mask p.i p.perturb).1-(leap mask p.i p.perturb).1,i:=(leap mask p.i p.perturb).1,perturb:=(leap mask p.i p.perturb).2 }
def atP (mask i pt:Nat):Probe:={ j:=i,more:=runEnd mask i-i,i,perturb:=pt,dummy:=none }
def stP (mask:Nat) (h:Int):Probe:=atP mask (bits h % (mask+1)) (bits h)
inductive Via (mask:Nat) (O:Nat->Prop) (j:Nat):Probe->Prop
 | here {p:Probe} (e:p.j=j):Via mask O j p
 | on {p:Probe} (o:O p.j) (v:Via mask O j (nxP mask p)):Via mask O j p
theorem Via.mono {mask j:Nat} {O O':Nat->Prop} {p:Probe} (h:Via mask O j p) (m:∀x,O x->O' x):Via mask O' j p:=by
 induction h with
 | here e=>exact .here e
 | on o v ih=>exact .on (m _ o) ih
def Occ (t:SetTable) (x:Nat):Prop:=t.slot x≠.empty
theorem WV {t:SetTable} {j i:Nat} (e:t.slot j = .live i):Occ t j:=by unfold Occ;rw[e];exact λz=>nomatch z
theorem RU {t:SetTable} (hd:t.dummies = #[]) (hashAt:Nat->Int) (h:Int):∀(fuel:Nat) (p:Probe) (m:Nat),QL t p m->KJ p m<fuel ->
  (∃j,XN t hashAt h fuel p=some (.empty j none)/\t.slot j = .empty/\Via t.mask (Occ t) j p/\∀j1 i1,t.slot j1 = .live i1->hashAt i1=h->¬Via t.mask (Occ t) j1 p) \/
  (∃j i next m',XN t hashAt h fuel p=some (.candidate j i next)/\t.slot j = .live i/\t.place[i]? = some j/\QL t next m'/\KJ next m'<KJ p m/\(∀x,Via t.mask (Occ t) x next->Via t.mask (Occ t) x p) /\
   ∀j1 i1,t.slot j1 = .live i1->hashAt i1=h->Via t.mask (Occ t) j1 p->j1=j\/Via t.mask (Occ t) j1 next)
 | 0,_,_,_,h=>absurd h (nE _)
 | fuel+1,p,m,hi,hf=>by
  unfold XN
  rcases slot_of hd p.j with e | ⟨i,e,ep⟩
  ·rw[e];dsimp only;rw[hi.1]
   refine cZ ⟨_,rfl,e,.here rfl,λj1 i1 e1 _ v=>?_⟩
   cases v with
   | here ej=>rw[ej,e1] at e;cases e
   | on o _=>exact o e
  ·rw[e];dsimp only
   have oc:=WV e
   obtain⟨m',hi',hl⟩:=UX hi (by rw[e];exact λx=>nomatch x)
   split
   ·refine cX ⟨_,_,_,m',rfl,e,ep,hi',hl,λx v=>.on oc v,λj1 i1 e1 _ v=>?_⟩
    cases v with
    | here ej=>exact .inl ej.symm
    | on _ v=>exact .inr v
   ·rename_i ne
    have step:∀j1 i1,t.slot j1 = .live i1->hashAt i1=h->Via t.mask (Occ t) j1 p->Via t.mask (Occ t) j1 (t.advance p):=λj1 i1 e1 eh v=>by
     cases v with
     | here ej=>rw[ej,e1] at e;cases e;exact absurd (by rw[eh];simp) ne
     | on _ v=>exact v
    rcases RU hd hashAt h fuel (t.advance p) m' hi' (by lia) with ⟨j,r,r1,r2,r3⟩ | ⟨j,i,nx,m'',r,r2,r3,r4,r5,r6,r7⟩
    ·exact cZ ⟨j,r,r1,.on oc r2,λj1 i1 e1 eh v=>r3 j1 i1 e1 eh (step j1 i1 e1 eh v)⟩
    ·exact cX ⟨j,i,nx,m'',r,r2,r3,r4,by lia,λx v=>.on oc (r6 x v),λj1 i1 e1 eh v=>r7 j1 i1 e1 eh (step j1 i1 e1 eh v)⟩
theorem IW {t:SetTable} (hr:t.place.toList.Pairwise (· < ·)) {i j:Nat} (e:t.place[i]? = some j):t.slot j = .live i:=by
 obtain⟨b1,b2,b3⟩:=GA j hr
 obtain⟨hi,ei⟩:=iX.mp e
 have le:below t.place j<=i:=by
  apply Nat.not_lt.mp
  intro lt
  exact hV _ (b2 i j lt e)
 have eq:below t.place j=i:=by
  rcases uH le with lt | eq
  ·exfalso
   have hb:below t.place j<t.place.size:=by lia
   have g1:=b3 _ _ (bK _) (aZ hb)
   have g2:=jE.mp hr (below t.place j) i (by simpa using hb) (by simpa using hi) lt
   simp at g2
   lia
  ·exact eq
 unfold slot
 dsimp only
 rw[eq,if_pos (by rw[e];simp)]
theorem UA {t:SetTable} (hd:t.dummies = #[]) (hr:t.place.toList.Pairwise (· < ·)) {x:Nat}:Occ t x↔x∈t.place.toList:=by
 constructor
 ·intro h
  rcases slot_of hd x with e | ⟨i,_,e⟩
  ·exact absurd e h
  ·exact gX.mpr (yS e)
 ·intro h
  obtain⟨i,hi,e⟩:=zA (gX.mp h)
  exact WV (IW hr (by rw[aZ hi,e]))
def Chn {α:Type} (t:SetTable) (es:List (Int × α)):Prop:=∀x∈t.place.toList.zip es,Via t.mask (Occ t) x.1 (stP t.mask x.2.1)
theorem Br {α β:Type} (A:List α) (B:List β) (hl:A.length=B.length) (p:Nat) (a:α) (b:β) {x:α × β} (h:x∈(A.take p++a::A.drop p).zip (B.take p++b::B.drop p)):x=(a,b)\/x∈A.zip B:=by
 rw[yI (by rw[gE,gE,hl]),mS] at h
 rcases cY.mp h with h | h
 ·refine .inr ?_
  rw[<-gB p A,<-gB p B,yI (by rw[gE,gE,hl])]
  exact gK _ h
 ·rcases aK.mp h with h | h
  ·exact .inl h
  ·refine .inr ?_
   rw[<-gB p A,<-gB p B,yI (by rw[gE,gE,hl])]
   exact bT _ h
theorem Nb {α:Type} {t:SetTable} {es:Array (Int × α)} {j:Nat} {e:Int × α} (T:TabOk t es.size) (T1:TabOk (t.put j).1 (es.size+1)) (c:Chn t es.toList) (v:Via t.mask (Occ t) j (stP t.mask e.1)):Chn (t.put j).1 (insertAt es (below t.place j) e).toList:=by
 obtain⟨b1,_,_⟩:=GA j T.ris
 have pl:(t.put j).1.place=insertAt t.place (below t.place j) j:=rfl
 have up:∀x,Occ t x->Occ (t.put j).1 x:=λx o=>(UA T1.dum T1.ris).mpr (by
  rw[pl,GL _ _ _ b1]
  exact .inr ((UA T.dum T.ris).mp o))
 intro x hx
 rw[pl,pJ _ _ _ b1,pJ _ _ _ (by rw[<-T.size];exact b1)] at hx
 rcases Br _ _ (by rw[cM,cM,T.size]) _ _ _ hx with rfl | h
 ·exact v.mono up
 ·exact (c x h).mono up
def OwO (mask:Nat) (owner:Array (Option Nat)) (x:Nat):Prop:=x<=mask/\owner.getD x (some 0)≠none
theorem Ee {mask i pt:Nat} {O:Nat->Prop}:∀(k a m:Nat),k<=m->(∀b,b<k->O (a+b))->Via mask O (a+k) { j:=a,more:=m,i,perturb:=pt,dummy:=none }
 | 0,a,m,_,_=>.here rfl
 | k+1,a,m,h,o=>by
  refine .on (o 0 (by lia)) ?_
  have e:nxP mask { j:=a,more:=m,i,perturb:=pt,dummy:=none } = { j:=a+1,more:=m-1,i,perturb:=pt,dummy:=none }:=by
   unfold nxP;dsimp only;rw[if_pos (by lia)]
  rw[e,show a+(k+1)=(a+1)+k by lia]
  exact Ee k (a+1) (m-1) (by lia) λb hb=>by rw[show a+1+b=a+(b+1) by lia];exact o (b+1) (by lia)
theorem YN {mask i pt x:Nat} {O:Nat->Prop}:∀(m a:Nat),(∀b,b<=m->O (a+b))->Via mask O x (atP mask (leap mask i pt).1 (leap mask i pt).2)->Via mask O x { j:=a,more:=m,i,perturb:=pt,dummy:=none }
 | 0,a,o,v=>.on (o 0 (bK _)) v
 | m+1,a,o,v=>by
  refine .on (o 0 (by lia)) ?_
  have e:nxP mask { j:=a,more:=m+1,i,perturb:=pt,dummy:=none } = { j:=a+1,more:=m,i,perturb:=pt,dummy:=none }:=by
   unfold nxP;dsimp only;rw[if_pos (by lia)];rfl
  rw[e]
  exact YN m (a+1) (λb hb=>by rw[show a+1+b=a+(b+1) by lia];exact o (b+1) (by lia)) v
theorem ZL {p:Nat->Bool} {n k:Nat} (h:(dM n).find? p=some k):∀b,b<k->p b=false:=by
 rw[List.find?_range_eq_some] at h
 intro b hb
 have:=h.2.2 b hb
 simpa using this
theorem WF {mask:Nat} {owner:Array (Option Nat)}:∀(fuel i pt j:Nat),i<=mask->iW mask owner fuel i pt=some j->j<=mask/\Via mask (OwO mask owner) j (atP mask i pt)
 | 0,_,_,_,_,h=>by cases h
 | fuel+1,i,pt,j,hi,h=>by
  have re:i<=runEnd mask i/\runEnd mask i<=mask:=by unfold runEnd;split <;> lia
  unfold iW at h
  cases hq:(dM (runEnd mask i+1-i)).find? λk=>(owner.getD (i+k) (some 0)).isNone with
  | some k =>
   rw[hq] at h
   cases h
   have h3:=gG.mp (uT hq)
   refine⟨by lia,Ee k i _ (by lia) λb hb=>⟨by lia,?_⟩⟩
   have:=ZL hq b hb
   intro z
   rw[z] at this
   cases this
  | none =>
   rw[hq] at h
   dsimp only at h
   have ho:∀b,b<=runEnd mask i-i->OwO mask owner (i+b):=λb hb=>⟨by lia,λz=>by
    have h0:=DU.mp hq b (gG.mpr (by lia))
    rw[z] at h0
    exact h0 rfl⟩
   obtain⟨r1,r2⟩:=WF fuel _ _ j (by unfold leap;exact iZ (jI _ (by lia))) h
   exact⟨r1,YN _ i ho r2⟩
def Ra (mask:Nat) (pre:List Int) (owner:Array (Option Nat)):Prop:=∀j k,owner.getD j none=some k->∃hk,pre[k]? = some hk/\Via mask (OwO mask owner) j (stP mask hk)
def GO (mask:Nat) (acc:Option (Array (Option Nat) × Nat)) (h:Int):Option (Array (Option Nat) × Nat):=do
 let (owner,k) <-acc
 let j <-iW mask owner (turns mask) (bits h % (mask+1)) (bits h)
 pure (owner.setIfInBounds j (some k),k+1)
theorem WP {mask:Nat}:∀hs:List Int,hs.foldl (GO mask) none=none
 | []=>rfl
 | _::hs=>WP hs
theorem Dc {mask:Nat}:∀(hs pre:List Int) (owner o':Array (Option Nat)) (n:Nat),hs.foldl (GO mask) (some (owner,pre.length))=some (o',n)->owner.size=mask+1->Ra mask pre owner->o'.size=mask+1/\Ra mask (pre++hs) o'
 | [],pre,owner,o',n,e,hz,I=>by cases e;rw[eV];exact⟨hz,I⟩
 | h::hs,pre,owner,o',n,e,hz,I=>by
  rw[pP] at e
  cases ej:iW mask owner (turns mask) (bits h % (mask+1)) (bits h) with
  | none =>
   have:GO mask (some (owner,pre.length)) h=none:=by
    show (iW mask owner (turns mask) (bits h % (mask+1)) (bits h) >>= λj=>_)=_
    rw[ej];rfl
   rw[this,WP] at e;cases e
  | some j =>
   obtain⟨hj,vj⟩:=WF _ _ _ _ (iZ (jI _ (by lia))) ej
   have st:GO mask (some (owner,pre.length)) h=some (owner.setIfInBounds j (some pre.length),pre.length+1):=by
    show (iW mask owner (turns mask) (bits h % (mask+1)) (bits h) >>= λj=>_)=_
    rw[ej];rfl
   have lt:j<owner.size:=by lia
   have same:∀x,x≠j->∀d,(owner.setIfInBounds j (some pre.length)).getD x d=owner.getD x d:=λx hx d=>by
    simp only[dR]
    rw[rB (Ne.symm hx)]
   have at_:∀d,(owner.setIfInBounds j (some pre.length)).getD j d=some pre.length:=λd=>by
    simp only[dR]
    rw[nW lt];rfl
   have up:∀x,OwO mask owner x->OwO mask (owner.setIfInBounds j (some pre.length)) x:=λx ⟨a,b⟩=>⟨a,by
    by_cases hx:x=j
    ·subst hx;rw[at_];exact λz=>nomatch z
    ·rw[same x hx];exact b⟩
   rw[st,show pre.length+1=(pre++[h]).length by simp] at e
   have:=Dc hs (pre++[h]) _ o' n e (by simp[hz]) λj1 k e1=>by
    by_cases hx:j1=j
    ·subst hx
     rw[at_] at e1
     cases e1
     exact⟨h,by simp,vj.mono up⟩
    ·rw[same j1 hx] at e1
     obtain⟨hk,g1,g2⟩:=I j1 k e1
     exact⟨hk,by rw[cO (aX.mp g1).1];exact g1,g2.mono up⟩
   rw[fD] at this
   exact this
theorem Ka {mask finger moves:Nat} {led plain:Bool} {hashes:Array Int} {t:SetTable} {ord:Array Nat} (e:laid mask finger moves led plain hashes=some (t,ord)) (T:TabOk t hashes.size) :
  ∀x∈t.place.toList.zip ord.toList,∃hk,hashes.toList[x.2]? = some hk/\Via t.mask (Occ t) x.1 (stP t.mask hk):=by
 unfold laid at e
 cases ec:layClean mask hashes with
 | none=>rw[ec] at e;cases e
 | some o =>
  rw[ec] at e
  have e:some _=some (t,ord):=e
  have ec':((hashes.toList.foldl (GO mask) (some (yE (mask+1) none,0))).map (·.1))=some o:=by
   rw[<-ec];unfold layClean;rw[<-DQ];rfl
  obtain⟨⟨o1,n⟩,e1,rfl⟩:=xK.mp ec'
  obtain⟨sz,I⟩:=Dc hashes.toList [] _ o1 n e1 (by simp) λj k z=>by
   simp only[dR] at z
   by_cases hj:j<mask+1
   ·rw[aZ (by simpa using hj)] at z;simp at z
   ·rw[qF (by simpa using hj)] at z;cases z
  cases e
  dsimp only at T ⊢
  intro x hx
  rw[<-List.unzip_fst,<-List.unzip_snd] at hx
  have hx:x∈(dM (mask+1)).filterMap λj=>(o1.getD j none).map (j,·):=by
   have z:=List.zip_unzip ((dM (mask+1)).filterMap λj=>(o1.getD j none).map (j,·))
   rw[<-z];exact hx
  obtain⟨j,hj,ex⟩:=pU.mp hx
  obtain⟨k,ek,rfl⟩:=xK.mp ex
  obtain⟨hk,g1,g2⟩:=I j k ek
  refine⟨hk,by simpa using g1,g2.mono λy ⟨y1,y2⟩=>(UA T.dum T.ris).mpr ?_⟩
  dsimp only
  have lt:y<o1.size:=by lia
  simp only[dR,aZ lt] at y2
  cases ey:o1[y] with
  | none=>rw[ey] at y2;exact absurd rfl y2
  | some k' =>
   refine cB.mpr ⟨(y,k'),pU.mpr ⟨y,gG.mpr (by lia),?_⟩,rfl⟩
   simp only[dR,aZ lt,ey];rfl
theorem Mp {α β γ:Type} {f:β->Option γ}:∀(P:List α) (Q:List β),(∀q∈Q,∃y,f q=some y)->∀x∈P.zip (Q.filterMap f),∃q,(x.1,q)∈P.zip Q/\f q=some x.2
 | [],_,_,x,h=>by cases h
 | _::_,[],_,x,h=>by cases h
 | p::P,q::Q,hf,x,h=>by
  obtain⟨y,ey⟩:=hf q (.head _)
  rw[eG,ey] at h
  rcases aK.mp h with rfl | h
  ·exact⟨q,.head _,ey⟩
  ·obtain⟨q',h1,h2⟩:=Mp P Q (λz hz=>hf z (.tail _ hz)) x h
   exact⟨q',.tail _ h1,h2⟩
section
variable {prog:bV} {w:dE} {A:dF} {E:aD->aG->Prop} {s:aG}
theorem YH {ks:List Int} {a:Addr} {Q:Bool->aG->Prop} (hk:IsTupleKey (intKind prog w) s.heap ks a) (q:Q false s):wpAny (model prog w) A (ofAClassStatement 8 (.ref a)) Q E s:=by
 have hT:=hk.typeIs
 obtain⟨o,items,n,ho,_,hd,hi⟩:=hk
 unfold ofAClassStatement
 refine aA (rA hT ?_)
 dsimp only
 rw[if_pos (by decide)]
 refine aA (aI ?_)
 simp only[fR,aM,if_false]
 refine aA (eO ho hd ?_)
 try dsimp only
 refine aA ?_
 rw[<-pR]
 refine sE _ (λrest r s'=>r.1=none/\s'=s/\∀v∈rest,carriedByValue v=true) _ ?_ ?_ _ _ ⟨rfl,rfl,hi.byValue⟩
 ·rintro v rest r s' ⟨hr,rfl,hall⟩
  have hv:=hall v cF
  have e:ofAClassStatement 7 v=pure false:=by
   cases v with
   | ref a=>simp[carriedByValue] at hv
   | _=>first | rfl | (unfold ofAClassStatement;rfl)
  rw[e]
  refine aA (aI ?_)
  simp only[aM,if_false]
  exact aI ⟨rfl,rfl,λu hu'=>hall u (aW _ hu')⟩
 ·rintro⟨r1,r2⟩ s' ⟨hr,rfl,_⟩
  simp only at hr
  subst hr
  exact aI q
theorem Bn {ks:List Int} {a:Addr} {Q:Bool->aG->Prop} (hk:IsTupleKey (intKind prog w) s.heap ks a) (q:Q true s):wpAny (model prog w) A (hashByValue 8 (.ref a)) Q E s:=by
 have hT:=hk.typeIs
 obtain⟨o,items,n,ho,_,hd,hi⟩:=hk
 unfold hashByValue
 refine aA (nH hT F.slot_tuple_hash.lookup ?_)
 try dsimp only
 refine aA (eO ho hd ?_)
 try dsimp only
 refine aA ?_
 show wpAny _ _ (forIn items _ _) _ _ s
 rw[<-pR]
 refine sE _ (λrest r s'=>r.1=none/\s'=s/\∃ks',ItemsAre (intKind prog w) ks' rest) _ ?_ ?_ _ _ ⟨rfl,rfl,ks,hi⟩
 ·rintro v rest r s' ⟨hr,rfl,ks',hall⟩
  cases hall with
  | @cons k _ ks'' _ h1 h2 =>
   have e:hashByValue 7 v=pure true:=by
    obtain⟨t,rfl⟩:∃t,v = .int k t:=by
     cases v <;> simp[intKind,JC] at h1
     exact⟨_,by rw[h1]⟩
    rfl
   rw[e]
   refine aA (aI ?_)
   simp only[fR,aM,if_false]
   exact aI ⟨rfl,rfl,_,h2⟩
 ·rintro⟨r1,r2⟩ s' ⟨hr,rfl,_⟩
  simp only at hr
  subst hr
  exact aI q
theorem Qf {ks:List Int} {a:Addr} {stored:List aD} {Q:Bool->aG->Prop} (hk:IsTupleKey (intKind prog w) s.heap ks a) (hs:∀y∈stored,∃ks' b,y = .ref b/\IsTupleKey (intKind prog w) s.heap ks' b) (q:Q false s) :
  wpAny (model prog w) A (searchCouldBeSeen (.ref a) stored) Q E s:=by
 unfold searchCouldBeSeen
 refine aA ?_
 refine sE _ (λrest r s'=>r.1=none/\s'=s/\∀y∈rest,y∈stored) _ ?_ ?_ _ _ ⟨rfl,rfl,λ_ h=>h⟩
 ·rintro v rest r s' ⟨hr,rfl,hall⟩
  obtain⟨ks',b,rfl,hb⟩:=hs v (hall v cF)
  have hall':∀y∈rest,y∈stored:=λu hu'=>hall u (aW _ hu')
  dsimp only
  by_cases hv:((a == b) || (carriedByValue (fP a) && carriedByValue (fP b)))=true
  ·rw[if_pos hv]
   exact aI ⟨rfl,rfl,hall'⟩
  ·rw[if_neg hv]
   refine aA (yZ hk ?_)
   simp only[fR,aM,if_false]
   refine aA (yZ hb ?_)
   simp only[fR,aM,if_false]
   refine aA (YH hk ?_)
   simp only[aM,if_false]
   refine aA (YH hb ?_)
   simp only[aM,if_false]
   exact aI ⟨rfl,rfl,hall'⟩
 ·rintro⟨r1,r2⟩ s' ⟨hr,rfl,_⟩
  simp only at hr
  subst hr
  exact aI q
def mU (w:dE):Bool:=w.params.followText "set-order"
def Rv (prog:bV) (w:dE) (h:Heap) (es:Array (Int × aD)):Prop:=∀e∈es.toList,∃ks b,e=(tupleKeyHash (intKind prog w) ks,.ref b)/\IsTupleKey (intKind prog w) h ks b
def Hr (mask n:Nat):Prop:=(mask=7/\n<=4)\/(mask=31/\n<=18)\/(mask=127/\n<=76)
def nO (es:Array (Int × aD)) (ep:Nat) (t:SetTable):Obj:={ cls:=.type "set",dict:=none,data:=.set es ep t }
theorem TabOk.fits {t:SetTable} {n:Nat} (T:TabOk t n):t.fits n=true:=by
 unfold SetTable.fits fill
 rw[T.dum,T.size]
 simp
 exact T.room
theorem Js {mask n:Nat} (h:Hr mask n):(mask % 2 == 0)=false:=by
 rcases h with ⟨rfl,_⟩ | ⟨rfl,_⟩ | ⟨rfl,_⟩ <;> rfl
def KeyL (prog:bV) (w:dE) (h:Heap):List (Int × aD)->List (List Int)->Prop
 | [],[]=>True
 | e::es,k::ks=>(∃b,e=(tupleKeyHash (intKind prog w) k,.ref b)/\IsTupleKey (intKind prog w) h k b)/\KeyL prog w h es ks
 | _,_=>False
theorem KeyL.get {h:Heap}:∀{es:List (Int × aD)} {kss:List (List Int)} {i:Nat} {e:Int × aD},KeyL prog w h es kss->es[i]? = some e->∃k,kss[i]? = some k/\∃b,e=(tupleKeyHash (intKind prog w) k,.ref b)/\IsTupleKey (intKind prog w) h k b
 | _::_,k::_,0,_,K,e=>by cases e;exact⟨k,rfl,K.1⟩
 | _::es,_::ks,i+1,_,K,e=>KeyL.get (es:=es) (kss:=ks) (i:=i) K.2 e
 | [],_,_,_,_,e=>by cases e
theorem KeyL.len {h:Heap}:∀{es:List (Int × aD)} {kss:List (List Int)},KeyL prog w h es kss->es.length=kss.length
 | [],[],_=>rfl
 | _::_,_::_,K=>congrArg (· + 1) (KeyL.len K.2)
theorem KeyL.mono {h h':Heap}:∀{es:List (Int × aD)} {kss:List (List Int)},KeyL prog w h es kss->(∀k b,(∃e∈es,e.2 = .ref b)->IsTupleKey (intKind prog w) h k b->IsTupleKey (intKind prog w) h' k b)->KeyL prog w h' es kss
 | [],[],_,_=>trivial
 | _::_,_::_,⟨⟨b,e,hb⟩,K⟩,m=>⟨⟨b,e,m _ b ⟨_,.head _,by rw[e]⟩ hb⟩,K.mono λk b ⟨x,hx,ex⟩ q=>m k b ⟨x,.tail _ hx,ex⟩ q⟩
theorem KeyL.perm {h:Heap} {es es':List (Int × aD)} (p:es.Perm es'):∀{kss:List (List Int)},KeyL prog w h es kss->∃kss',kss.Perm kss'/\KeyL prog w h es' kss':=by
 induction p with
 | nil=>exact λ{kss} K=>⟨kss,.refl _,K⟩
 | cons x _ ih =>
  intro kss K
  cases kss with
  | nil=>exact K.elim
  | cons k kss =>
   obtain⟨kss',p',K'⟩:=ih K.2
   exact⟨k::kss',.cons k p',K.1,K'⟩
 | swap x y l =>
  intro kss K
  cases kss with
  | nil=>exact K.elim
  | cons k kss =>
   cases kss with
   | nil=>exact K.2.elim
   | cons k' kss=>exact⟨k'::k::kss,.swap _ _ _,K.2.1,K.1,K.2.2⟩
 | trans _ _ ih1 ih2 =>
  intro kss K
  obtain⟨k1,p1,K1⟩:=ih1 K
  obtain⟨k2,p2,K2⟩:=ih2 K1
  exact⟨k2,p1.trans p2,K2⟩
theorem SE {S a:Addr} {ks:List Int} {es:Array (Int × aD)} {ep:Nat} {t:SetTable} {Q:SetFound->aG->Prop} (hu:A.units<cLine) (ho:s.heap.get? S=some (nO es ep t)) (T:TabOk t es.size) (hf:Hr t.mask es.size) (he:Rv prog w s.heap es)
  (hk:IsTupleKey (intKind prog w) s.heap ks a) (q1:(∃e∈es.toList,∃b,e.2 = .ref b/\IsTupleKey (intKind prog w) s.heap ks b)->Q (.there none) s) {kss:List (List Int)} (KL:KeyL prog w s.heap es.toList kss) (q2:∀j,t.slot j = .empty->Via t.mask (Occ t) j (stP t.mask (tupleKeyHash (intKind prog w) ks))->ks ∉ kss->Q (.free j false) s) :
  ∀(fuel:Nat) (stand:Option Probe) (m:Nat),QL t (stand.getD (t.probeStart (tupleKeyHash (intKind prog w) ks))) m->KJ (stand.getD (t.probeStart (tupleKeyHash (intKind prog w) ks))) m<10*turns t.mask->KJ (stand.getD (t.probeStart (tupleKeyHash (intKind prog w) ks))) m<fuel ->
   (∀x,Via t.mask (Occ t) x (stand.getD (t.probeStart (tupleKeyHash (intKind prog w) ks)))->Via t.mask (Occ t) x (stP t.mask (tupleKeyHash (intKind prog w) ks)))->(∀j1 i1:Nat,t.place[i1]? = some j1->kss[i1]? = some ks->Via t.mask (Occ t) j1 (stand.getD (t.probeStart (tupleKeyHash (intKind prog w) ks)))) ->
   wpAny (model prog w) A (setSearchFrom S (.ref a) (tupleKeyHash (intKind prog w) ks) true fuel stand) Q E s
 | 0,_,_,_,_,h,_,_=>absurd h (nE _)
 | fuel+1,stand,m,hi,hm,hl,v1,v2=>by
  have hashAt:∀i1:Nat,kss[i1]? = some ks->(es[i1]?.map (·.1)).getD 0=tupleKeyHash (intKind prog w) ks:=λi1 e1=>by
   have lt:i1<es.toList.length:=by rw[KL.len];exact (aX.mp e1).1
   obtain⟨k,g1,b,g2,_⟩:=KL.get (aF lt)
   rw[e1] at g1;cases g1
   have:es[i1]? = some es.toList[i1]:=by rw[<-jF,aF lt]
   rw[this,g2];rfl
  unfold setSearchFrom
  refine aA (jB ho rfl T.fits ?_)
  dsimp only
  rw[if_neg (by unfold SetTable.gaveWay;rw[Js hf];exact cJ)]
  unfold probe
  rcases RU T.dum _ (tupleKeyHash (intKind prog w) ks) (10*turns t.mask) _ m hi hm with ⟨j,e,ej,w1,w2⟩ | ⟨j,i,next,m',e,ej,ep',hi',hm',w1,w2⟩
  ·rw[e]
   dsimp only
   refine aI (q2 j ej (v1 _ w1) λhk'=>?_)
   obtain⟨i1,lt,e1⟩:=eQ hk'
   have e1:kss[i1]? = some ks:=by rw[aF lt,e1]
   have lp:i1<t.place.size:=by rw[T.size,<-cM,KL.len];exact lt
   have ep1:t.place[i1]? = some t.place[i1]:=aZ lp
   exact w2 _ i1 (IW T.ris ep1) (hashAt i1 e1) (v2 _ i1 ep1 e1)
  ·rw[e]
   dsimp only
   have hil:i<es.size:=by
    have:=(iX.mp ep').1
    rw[T.size] at this;exact this
   have ei:es[i]? = some es[i]:=aZ hil
   have mi:es[i]∈es.toList:=by simp
   obtain⟨ks',kk',b,ee,hb⟩:=KL.get (i:=i) (e:=es[i]) (by rw[jF];exact ei)
   have rest:wpAny (model prog w) A (match es[i]? with
    | some (fst,y)=>do
     let equal <-holding [y] (eqBool y (fP a))
     let __x <-setState S
     if (true && equal)=true then pure (MB none)
      else
       match __x.2.snd.sameMemory t.moves t.mask with
       | some same =>
        let still <-match if same=true then __x.2.snd.slot j else Slot.empty with
        | Slot.live i' =>
         match __x.fst[i']? with
         | some (fst,y')=>do pure (if <-isSame y' y then some i' else none)
         | none=>pure none
        | _=>pure none
        match still with
        | none=>do
         rule "set.search.anew"
         setSearchFrom S (fP a) (tupleKeyHash (intKind prog w) ks) true fuel none
        | some i' =>
         if equal=true then pure (MB (some i'))
         else setSearchFrom S (fP a) (tupleKeyHash (intKind prog w) ks) true fuel (some next)
       | _=>unsupported "set.changed-during-lookup:is-the-new-block-at-the-old-address"
    | _=>unsupported "internal:set-entry") Q E s:=by
    rw[ei,ee]
    dsimp only
    refine aA (fL (wpAny_eqBool_tuple hu hb hk ?_))
    refine aA (jB ho rfl T.fits ?_)
    dsimp only
    by_cases hkk:ks'=ks
    ·subst hkk
     rw[if_pos (by simp)]
     exact aI (q1 ⟨_,mi,b,by rw[ee],hb⟩)
    ·rw[if_neg (by simp[hkk])]
     have sm:t.sameMemory t.moves t.mask=some true:=by unfold sameMemory;rw[if_pos (by simp)]
     rw[sm]
     dsimp only
     rw[if_pos rfl,ej]
     dsimp only
     rw[ei,ee]
     dsimp only
     refine aA ?_
     have same:isSame (.ref b) (.ref b)=pure true:=by
      show (if (b == b)=true then pure true else _)=_
      rw[if_pos (by simp)]
     rw[same]
     refine aI (aA (aI ?_))
     rw[if_pos rfl]
     dsimp only
     rw[if_neg (by simp[hkk])]
     refine SE hu ho T hf he hk q1 KL q2 fuel (some next) m' hi' (qP hm' hm) (by simp only[kO];lia) (λx v=>v1 x (w1 x v)) λj1 i1 e1 k1=>?_
     have sl:=IW T.ris e1
     rcases w2 j1 i1 sl (hashAt i1 k1) (v2 j1 i1 e1 k1) with rfl | h
     ·rw[sl] at ej;cases ej
      rw[k1] at kk';cases kk'
      exact absurd rfl hkk
     ·exact h
   cases hled:t.led with
   | true =>
    simp only[fR,aM,if_false]
    exact rest
   | false =>
    simp only[nX,if_true]
    refine aA (Qf hk ?_ ?_)
    ·intro y hy
     obtain⟨e0,he0,rfl⟩:=cB.mp hy
     have:=(Array.mem_filter.mp (gX.mp he0)).1
     obtain⟨ks1,b1,e1,h1⟩:=he e0 (gX.mpr this)
     exact⟨ks1,b1,by rw[e1],h1⟩
    ·simp only[aM,if_false]
     exact rest
structure SetTup (prog:bV) (w:dE) (h:Heap) (S:Addr) (es:Array (Int × aD)):Prop where
 tab:∃ep t,h.get? S=some (nO es ep t)/\TabOk t es.size/\Hr t.mask es.size/\t.led = !mU w/\t.plain=true/\Chn t es.toList
 els:Rv prog w h es
 dis:∃kss,KeyL prog w h es.toList kss/\kss.Nodup
theorem qB {h h':Heap} {ks:List Int} {S b:Addr} {es:Array (Int × aD)} {ep:Nat} {t:SetTable} (hS:h.get? S=some (nO es ep t)) (up:∀b o,b≠S->h.get? b=some o->h'.get? b=some o) (hk:IsTupleKey (intKind prog w) h ks b):IsTupleKey (intKind prog w) h' ks b:=by
 obtain⟨o,items,n,ho,hc,hd,hi⟩:=hk
 refine⟨o,items,n,up b o ?_ ho,hc,hd,hi⟩
 rintro rfl
 rw[hS] at ho;cases ho
 exact nomatch hd
theorem WH {n:Nat} (h:n<100):MC n=n*4:=by
 unfold MC;rw[if_neg (by lia)]
theorem Bl {S a:Addr} {ks:List Int} {es:Array (Int × aD)} {Q:Bool->aG->Prop} (hu:A.units<cLine) (H:SetTup prog w s.heap S es) (hk:IsTupleKey (intKind prog w) s.heap ks a) (hn:es.size<76)
  (q:∀b h' tk es',SetTup prog w h' S es'->(∀y∈es'.toList,y∈es.toList\/y.2 = .ref a)->(∀y∈es.toList,y∈es'.toList)->(∃y∈es'.toList,∃b,y.2 = .ref b/\IsTupleKey (intKind prog w) h' ks b)->es'.size<=es.size+1 ->
   (∀b o,b≠S->s.heap.get? b=some o->h'.get? b=some o)->h'.objs.size=s.heap.objs.size->s.toks<=tk->Q b { s with heap:=h',toks:=tk }) :
  wpAny (model prog w) A (setAdd S (.ref a)) Q E s:=by
 obtain⟨⟨ep,t,ho,T,hf,hled,hpl,hchn⟩,hels,kss,KL,knd⟩:=H
 unfold setAdd
 refine fL (aA (wpAny_pyHash_tuple hu hk ?_))
 unfold setAddHashed
 refine fL ?_
 unfold setAddHashedIn
 refine aA (jB (s:={ s with toks:=s.toks+(ks.length+1) }) ho rfl T.fits ?_)
 dsimp only
 have nb:byScan (.ref a) es=false:=by unfold byScan;simp[Value.scannable]
 rw[nb]
 simp only[aM,if_false]
 obtain⟨m,hi,hm⟩:=Hg T (tupleKeyHash (intKind prog w) ks)
 have hm2:KJ (t.probeStart (tupleKeyHash (intKind prog w) ks)) m<100000:=by
  refine bR hm ?_
  unfold turns
  rcases hf with ⟨e,_⟩ | ⟨e,_⟩ | ⟨e,_⟩ <;> rw[e] <;> decide
 unfold setSearch
 refine aA (SE (s:={ s with toks:=s.toks+(ks.length+1) }) hu ho T hf hels hk ?_ KL ?_ 100000 none m hi hm hm2 (λx v=>v) ?_)
 ·rintro⟨e,he,b,e2,hb⟩
  dsimp only
  refine aI ?_
  exact q false s.heap _ es ⟨⟨ep,t,ho,T,hf,hled,hpl,hchn⟩,hels,kss,KL,knd⟩ (λy hy=>cZ hy) (λy hy=>hy) ⟨e,he,b,e2,hb⟩ (by lia) (λb o _ e=>e) rfl (by show s.toks<=s.toks+_;lia)
 ·intro j hj hvia hnk
  dsimp only
  refine aA (jB (s:={ s with toks:=s.toks+(ks.length+1) }) ho rfl T.fits ?_)
  dsimp only
  have room:es.size+1<=t.mask:=by rcases hf with ⟨e,h⟩ | ⟨e,h⟩ | ⟨e,h⟩ <;> lia
  obtain⟨T1,p1,p2,p3,p4,p5,p6⟩:=Tx T hj room
  rw[p5,hpl]
  simp only[if_true]
  refine aA (Bn (s:={ s with toks:=s.toks+(ks.length+1) }) hk ?_)
  simp only[if_true]
  rw[p1]
  have sz:=CH es (below t.place j) (tupleKeyHash (intKind prog w) ks,fP a) p2
  have mem:=GL es (below t.place j) (tupleKeyHash (intKind prog w) ks,fP a) p2
  have chn1:=Nb (e:=(tupleKeyHash (intKind prog w) ks,fP a)) T T1 hchn hvia
  have per1:=PySem.SetTable.insertAt_perm es (below t.place j) (tupleKeyHash (intKind prog w) ks,fP a)
  rw[uV] at per1
  have per1:=(per1.trans (yV (l₁:=es.toList) (l₂:=[_]))).symm
  generalize insertAt es (below t.place j) (tupleKeyHash (intKind prog w) ks,fP a)=es1 at sz mem chn1 per1
  refine aA (HK (s:={ s with toks:=s.toks+(ks.length+1) }) ho rfl ?_ (by rw[sz,lO];lia))
  have up1:∀b o,b≠S->s.heap.get? b=some o->(s.heap.update S (oA es1 (t.put j).1)).get? b=some o:=λb o hb e=>(cE _ _ (Ne.symm hb)).trans e
  obtain⟨ep1,g1⟩:∃ep1,(s.heap.update S (oA es1 (t.put j).1)).get? S=some (nO es1 ep1 (t.put j).1):=⟨_,dQ _ ho rfl⟩
  have z1:(s.heap.update S (oA es1 (t.put j).1)).objs.size=s.heap.objs.size:=(gQ ..).1
  generalize s.heap.update S (oA es1 (t.put j).1)=h1 at up1 g1 z1
  have els1:Rv prog w h1 es1:=by
   intro e he
   rcases (mem e).mp he with rfl | he
   ·exact⟨ks,a,rfl,qB ho up1 hk⟩
   ·obtain⟨ks',b,r1,r2⟩:=hels e he
    exact⟨ks',b,r1,qB ho up1 r2⟩
  obtain⟨kss1,kp1,KL1⟩:=KeyL.perm per1 (kss:=ks::kss) ⟨⟨a,rfl,qB ho up1 hk⟩,KL.mono λk b _ q=>qB ho up1 q⟩
  have knd1:kss1.Nodup:=kp1.nodup_iff.mp (fM.mpr ⟨hnk,knd⟩)
  have T1':TabOk (t.put j).1 es1.size:=by rw[sz];exact T1
  have fill1:(t.put j).1.fill=es1.size:=by unfold fill;rw[T1'.size,T1'.dum];simp
  by_cases tf:(t.put j).1.tooFull=true
  ·rw[tf]
   simp only[nX,Bool.and_self,if_true]
   have tf':=tf
   unfold tooFull at tf'
   rw[fill1,p3,sz] at tf'
   simp only[ge_iff_le,decide_eq_true_eq] at tf'
   have cases2:(t.mask=7/\es.size=4)\/(t.mask=31/\es.size=18):=by rcases hf with ⟨e,h⟩ | ⟨e,h⟩ | ⟨e,h⟩ <;> lia
   unfold setRelay
   refine aA (aA (jB (s:={ s with heap:=h1,toks:=s.toks+(ks.length+1) }) g1 rfl T1'.fits ?_))
   dsimp only
   have hw:SetTable.sizeAbove (grown (es.size+1))=(if t.mask=7 then 32 else 128):=by
    rw[WH (by lia)]
    rcases cases2 with ⟨e,h⟩ | ⟨e,h⟩ <;> rw[e,h] <;> decide
   rw[if_neg (by rw[hw,lO];split <;> decide)]
   have R:Round ((if t.mask=7 then 31 else 127)+1):=by
    split
    ·exact Qb
    ·exact Ma
   obtain⟨t2,order,l1,T2,l3,l4,l5,l6⟩:=Od R (t.put j).1.finger ((t.put j).1.movedTo (if t.mask=7 then 31 else 127)) (t.put j).1.led (t.put j).1.plain (es1.map (·.1)) (by rw[zB,sz];rcases cases2 with ⟨e,h⟩ | ⟨e,h⟩ <;> rw[e,h] <;> decide)
   have er:(t.put j).1.relaid (es1.map (·.1)) (grown (es.size+1))=some (t2,order):=by
    unfold relaid
    rw[hw]
    have:(if t.mask=7 then 32 else 128)-1=(if t.mask=7 then 31 else 127):=by split <;> rfl
    rw[this];exact l1
   rw[er]
   rw[zB] at T2 l6
   have esl:(order.filterMap (es1[·]?)).toList.Perm es1.toList:=by
    rw[wY]
    refine (l6.filterMap _).trans ?_
    have:(dM es1.size).filterMap (es1[·]?)=es1.toList:=by
     apply qL
     intro i
     have key:∀n,n<=es1.size->(dM n).filterMap (es1[·]?)=es1.toList.take n:=by
      intro n
      induction n with
      | zero=>intro _;rfl
      | succ n ih =>
       intro hn
       rw[JT,List.filterMap_append,ih (by lia)]
       have:es1[n]? = some es1[n]:=aZ (by lia)
       simp only[eG,this,List.filterMap_nil]
       rw[mD]
       simp[show n<es1.size by lia]
     rw[key _ (bK _),<-cM,rP]
    rw[this]
   have es2sz:(order.filterMap (es1[·]?)).size=es1.size:=by rw[<-cM,esl.length_eq,cM]
   have hne:((order.filterMap (es1[·]?)).size != es1.size)=false:=by rw[es2sz];simp
   refine aA ?_
   show wpAny _ _ (if ((order.filterMap (es1[·]?)).size != es1.size)=true then (unsupported "internal:set-table-lost-an-element" >>= λ_=>pure (order.filterMap (es1[·]?),t2)) else pure (order.filterMap (es1[·]?),t2)) _ _ _
   rw[hne]
   simp only[aM,if_false]
   refine aI ?_
   dsimp only
   have mem2:∀y,y∈(order.filterMap (es1[·]?)).toList↔y∈es1.toList:=λy=>esl.mem_iff
   have chn2:Chn t2 (order.filterMap (es1[·]?)).toList:=by
    intro x hx
    rw[wY] at hx
    obtain⟨k,h1,h2⟩:=Mp _ _ (λk hk'=>by
     have:=gG.mp (l6.mem_iff.mp hk')
     exact⟨_,aZ this⟩) x hx
    obtain⟨hk',g1,g2⟩:=Ka l1 (by rw[zB];exact T2) _ h1
    have:hk'=x.2.1:=by
     have h2:es1[k]? = some x.2:=h2
     rw[jF,Array.getElem?_map,h2] at g1
     exact (dN g1).symm
    rw[<-this];exact g2
   obtain⟨kss2,kp2,KL2⟩:=KeyL.perm esl.symm KL1
   generalize order.filterMap (es1[·]?)=es2 at es2sz mem2 chn2 KL2
   refine HK (s:={ s with heap:=h1,toks:=s.toks+(ks.length+1) }) g1 rfl ?_ (by rw[es2sz,sz,lO];lia)
   have up2:∀b o,b≠S->s.heap.get? b=some o->(h1.update S (oA es2 t2)).get? b=some o:=λb o hb e=>(cE _ _ (Ne.symm hb)).trans (up1 b o hb e)
   have up12:∀b o,b≠S->h1.get? b=some o->(h1.update S (oA es2 t2)).get? b=some o:=λb o hb e=>(cE _ _ (Ne.symm hb)).trans e
   obtain⟨ep2,g2⟩:∃ep2,(h1.update S (oA es2 t2)).get? S=some (nO es2 ep2 t2):=⟨_,dQ _ g1 rfl⟩
   have z2:(h1.update S (oA es2 t2)).objs.size=s.heap.objs.size:=((gQ ..).1).trans z1
   refine aI (q true (h1.update S (oA es2 t2)) _ es2 ⟨⟨ep2,t2,g2,by rw[es2sz];exact T2,?_,by rw[l4,p4];exact hled,by rw[l5,p5];exact hpl,chn2⟩,?_,kss2,KL2.mono λk b _ q=>qB g1 up12 q,kp2.nodup_iff.mp knd1⟩ (λy hy=>?_) (λy hy=>(mem2 y).mpr ((mem y).mpr (cX hy))) ⟨_,(mem2 _).mpr ((mem _).mpr (cZ rfl)),a,rfl,qB ho up2 hk⟩ (by lia) up2 z2 (by show s.toks<=s.toks+_;lia))
   ·rw[l3,es2sz,sz]
    unfold Hr
    rcases cases2 with ⟨e,h⟩ | ⟨e,h⟩ <;> rw[e,h] <;> decide
   ·intro e he
    obtain⟨ks',b,r1,r2⟩:=els1 e ((mem2 e).mp he)
    exact⟨ks',b,r1,qB g1 up12 r2⟩
   ·rcases (mem y).mp ((mem2 y).mp hy) with rfl | h
    ·exact cX rfl
    ·exact cZ h
  ·have tf0:(t.put j).1.tooFull=false:=by simpa using tf
   rw[tf0]
   simp only[LU,aM,if_false]
   refine aI (q true h1 _ es1 ⟨⟨ep1,_,g1,T1',?_,by rw[p4];exact hled,by rw[p5];exact hpl,chn1⟩,els1,kss1,KL1,knd1⟩ (λy hy=>?_) (λy hy=>(mem y).mpr (cX hy)) ⟨_,(mem _).mpr (cZ rfl),a,rfl,qB ho up1 hk⟩ (by lia) up1 z1 (by show s.toks<=s.toks+_;lia))
   ·unfold tooFull at tf0
    rw[fill1,p3,sz] at tf0
    simp only[ge_iff_le,decide_eq_false_iff_not] at tf0
    rw[p3,sz]
    unfold Hr
    rcases hf with ⟨e,h⟩ | ⟨e,h⟩ | ⟨e,h⟩ <;> lia
   ·rcases (mem y).mp hy with rfl | h
    ·exact cX rfl
    ·exact cZ h
 ·intro j1 i1 e1 k1
  have lt:i1<es.toList.length:=by rw[KL.len];exact (aX.mp k1).1
  obtain⟨k,g1,b,g2,_⟩:=KL.get (aF lt)
  rw[k1] at g1;cases g1
  have:=hchn (j1,es.toList[i1]) (List.mem_iff_getElem?.mpr ⟨i1,by rw[lF];exact⟨by rw[jF];exact e1,aF lt⟩⟩)
  rw[g2] at this
  exact this
end
end
section
open PySem PySem.SetTable PyProof.Rows
section
variable {prog:bV} {w:dE} {A:dF} {E:aD->aG->Prop} {s:aG}
theorem SetTup.other {h h':Heap} {S:Addr} {es:Array (Int × aD)} (H:SetTup prog w h S es) (up:∀b o,h.get? b=some o->(∃e∈es.toList,e.2 = .ref b)\/b=S->h'.get? b=some o):SetTup prog w h' S es:=by
 obtain⟨⟨ep,t,ho,r⟩,els,kss,KL,nd⟩:=H
 refine⟨⟨ep,t,up _ _ ho (cX rfl),r⟩,λe he=>?_,kss,KL.mono λk b hb ⟨o,items,n,h1,h2,h3,h4⟩=>⟨o,items,n,up b o h1 (cZ hb),h2,h3,h4⟩,nd⟩
 obtain⟨ks,b,e1,o,items,n,h1,h2,h3,h4⟩:=els e he
 exact⟨ks,b,e1,o,items,n,up b o h1 (cZ ⟨e,he,by rw[e1]⟩),h2,h3,h4⟩
structure SetDone (prog:bV) (w:dE) (items:Array aD) (key:Nat->List Int) (S:Addr) (i:Nat) (h:Heap):Prop where
 ex:∃es,SetTup prog w h S es/\(∀y∈es.toList,∃j,j<i/\items[j]? = some y.2)/\(∀j,j<i->∃y∈es.toList,∃b,y.2 = .ref b/\IsTupleKey (intKind prog w) h (key j) b)/\es.size<=i
theorem Mg {R:Result->aG->Prop} {I l:Addr} {items:Array aD} {key:Nat->List Int} {h0:Heap} (hh:A.in1.handled=none) (hne:l≠I) (hu:A.in1.units<cLine) (S:Addr) (hSI:S≠I) (hSl:S≠l)
  (hi:∀i v,items[i]? = some v->∃a,v = .ref a/\IsTupleKey (intKind prog w) h0 (key i) a/\a≠S/\a≠I) (hb:items.size<=76) :
  ∀(k i:Nat) (s:aG),items.size-i=k->i<=items.size->s.heap.IsListIter I l i/\s.heap.IsList l items->SetDone prog w items key S i s.heap ->
   (∀b o,b≠S->b≠I->h0.get? b=some o->s.heap.get? b=some o) ->
   (∀h' tk,SetDone prog w items key S items.size h'->(∀b o,b≠S->b≠I->h0.get? b=some o->h'.get? b=some o)->R (.ok (.ret .none)) { s with heap:=h',toks:=tk }) ->
   codeAny (model prog w) A (.builtin "set.update.loop" ⟨[.ref S,.ref I],[]⟩) R s:=by
 have W:=ME (prog:=prog) (w:=w) (A:=A.in1) hh I l hne items
 have wr:∀{b:Addr},b≠I->b ∉ [I]:=λh=>by simpa using h
 have keyAt:∀{h:Heap} {i:Nat} {a:Addr},(∀b o,b≠S->b≠I->h0.get? b=some o->h.get? b=some o)->IsTupleKey (intKind prog w) h0 (key i) a->a≠S->a≠I->IsTupleKey (intKind prog w) h (key i) a:=by
  intro h i a up hk n1 n2
  obtain⟨o,its,n,h1,h2,h3,h4⟩:=hk
  exact⟨o,its,n,up a o n1 n2 h1,h2,h3,h4⟩
 have move:∀{h h':Heap} {i:Nat},i<=items.size->SetDone prog w items key S i h->(∀b o,b≠I->h.get? b=some o->h'.get? b=some o)->SetDone prog w items key S i h':=by
  intro h h' i hi' ⟨es,D,d1,d2,d3⟩ up
  refine⟨es,D.other λb o e hm=>up b o ?_ e,d1,λj hj=>?_,d3⟩
  ·rcases hm with ⟨y,hy,ey⟩ | rfl
   ·obtain⟨j,hj,ej⟩:=d1 y hy
    obtain⟨a,ea,_,_,na⟩:=hi j y.2 ej
    rw[ey] at ea;cases ea;exact na
   ·exact hSI
  ·obtain⟨y,hy,b,e1,o,its,n,h1,h2,h3,h4⟩:=d2 j hj
   refine⟨y,hy,b,e1,o,its,n,up b o ?_ h1,h2,h3,h4⟩
   obtain⟨j',hj',ej⟩:=d1 y hy
   obtain⟨a,ea,_,_,na⟩:=hi j' y.2 ej
   rw[e1] at ea;cases ea;exact na
 intro k
 induction k with
 | zero =>
  intro i s hk hi' st D up hR
  have hin:i=items.size:=by lia
  subst hin
  refine fT F.entry_set_update_loop ?_
  rw[eS F.plain_set_update_loop _]
  show wpAny _ A.in1 (pyNext (.ref I) >>= _) _ _ s
  refine aA (W.done s _ _ st λh' tk kp=>?_)
  show wpAny _ A.in1 (ret gH) _ _ _
  exact aI (hR h' tk (move (bK _) D λb o hb e=>kp b o (wr hb) e) λb o n1 n2 e=>kp b o (wr n2) (up b o n1 n2 e))
 | succ k ih =>
  intro i s hk hi' st D up hR
  have hlt:i<items.size:=by lia
  refine fT F.entry_set_update_loop ?_
  rw[eS F.plain_set_update_loop _]
  show wpAny _ A.in1 (pyNext (.ref I) >>= _) _ _ s
  refine aA (W.item i s _ _ hlt st λv h' tk hv st' kp=>?_)
  obtain⟨a,rfl,hka,na1,na2⟩:=hi i v hv
  obtain⟨es,D1,d1,d2,d3⟩:=move hi' D (λb o hb e=>kp b o (wr hb) e)
  have up':∀b o,b≠S->b≠I->h0.get? b=some o->h'.get? b=some o:=λb o n1 n2 e=>kp b o (wr n2) (up b o n1 n2 e)
  show wpAny _ A.in1 (holding [fP a] (setAdd S (.ref a)) >>= _) _ _ _
  refine aA (fL ?_)
  refine Bl (s:={ s with heap:=h',toks:=tk }) hu D1 (keyAt up' hka na1 na2) (by lia) λ_ h2 tk2 es2 D2 m1 m2 m3 m4 up2 z2 _=>?_
  refine aI ⟨gJ F.plain_set_update_loop _,ih (i+1) _ (by lia) hlt ⟨st'.1.at λo e=>up2 _ o (Ne.symm hSI) e,st'.2.at λo e=>up2 _ o (Ne.symm hSl) e⟩ ?_ (λb o n1 n2 e=>up2 b o n1 (up' b o n1 n2 e)) λh3 tk3 D3 up3=>hR h3 tk3 D3 up3⟩
  refine⟨es2,D2,λy hy=>?_,λj hj=>?_,by lia⟩
  ·rcases m1 y hy with h | h
   ·obtain⟨j,hj,ej⟩:=d1 y h
    exact⟨j,by lia,ej⟩
   ·exact⟨i,by lia,by rw[h];exact hv⟩
  ·by_cases hji:j=i
   ·subst hji;exact m3
   ·obtain⟨y,hy,b,e1,o,its,n,h1,h2',h3,h4⟩:=d2 j (by lia)
    refine⟨y,m2 y hy,b,e1,o,its,n,up2 b o ?_ h1,h2',h3,h4⟩
    obtain⟨j',hj',ej⟩:=d1 y hy
    obtain⟨a',ea,_,na,_⟩:=hi j' y.2 ej
    rw[e1] at ea;cases ea;exact na
theorem YF (a:aD) {Q₁:aD->aG->Prop} (h:Q₁ (.ref s.heap.objs.size) { s with heap:=s.heap.push (nO #[] 0 (.fresh 0 0 (!mU w))) }) :
  codeAny (model prog w) A (.call (.builtin "set.__new__") ⟨[.type "set",a],[]⟩) (wants Q₁ E) s:=by
 apply KB
 show wpAny _ A.in1 (checkBuiltinCall "set.__new__" ⟨[.type "set",a],[]⟩ >>= λ_=>again (.builtin "set.__new__" ⟨[.type "set",a],[]⟩)) _ _ s
 apply aA;refine oK (PySem.F.newCall_set_1 a) (aI ⟨gJ yX _,fT PySem.F.entry_set_new ?_⟩)
 rw[eS yX _];unfold Builtin.«set.__new__» Builtin.Frozenset.newClass
 have hsub:=sub_set_self
 obtain⟨hp,g,d,tk,os⟩:=s;dsimp only;wp_walk
 refine oY (aI ?_);dsimp only;simp only[newObj]
 apply aA;refine wpAny_alloc (aI ?_)
 exact aI h
theorem Hh (b:Bool):TabOk (.fresh 0 0 b) 0:=⟨rfl,rfl,gL _,Ug,nT⟩
def WU (l:Addr):Obj:={ cls:=.type "list_iterator",data:=.fields #[.ref l,.int 0 0] }
theorem PC {l:Addr} {items:Array aD} {key:Nat->List Int} {Q:aD->aG->Prop} (hh:A.handled=none) (hu:A.units+8<cLine) (hl:s.heap.IsList l items)
  (hi:∀i v,items[i]? = some v->∃a,v = .ref a/\IsTupleKey (intKind prog w) s.heap (key i) a) (hb:items.size<=76)
  (q:∀h' tk,SetDone prog w items key s.heap.objs.size items.size h'->(∀b o,s.heap.get? b=some o->h'.get? b=some o)->Q (.ref s.heap.objs.size) { s with heap:=h',toks:=tk }) :
  wpAny (model prog w) A (call (.type "set") [.ref l]) Q E s:=by
 obtain⟨c,tl,hmro⟩:=PySem.F.called_set.mro
 have hmade:=PySem.F.called_set.made;have hsub:=PySem.F.called_set.sub
 apply wpAny_call;apply KB
 show wpAny _ _ (callAny (.type "set") _) _ _ _
 refine aI ⟨Code.quiet_builtin _ (by decide +kernel),fT PySem.F.entry_type_call ?_⟩;rw[Around.under_plain (weight_type_call_type "set" [.ref l] []) rfl]
 have h1:=PySem.F.called_set.notType;have h2:=PySem.F.called_set.canCreate;have hct:=PySem.F.typeCall_set_1 (.ref l)
 repeat (any_goals (first | assumption | wp_step))
 refine tO (YF (.ref l) (E:=E) (Q₁:=λobj s₁=>obj = .ref s.heap.objs.size/\s₁ = { s with heap:=s.heap.push (nO #[] 0 (.fresh 0 0 (!mU w))) }) ⟨rfl,rfl⟩) λr s₁ hr=>?_
 match r,hr with
 | .error e,hr=>exact hr
 | .ok (.ret obj),hr =>
  obtain⟨rfl,rfl⟩:=hr
  have hS:(s.heap.push (nO #[] 0 (.fresh 0 0 (!mU w)))).get? s.heap.objs.size=some (nO #[] 0 (.fresh 0 0 (!mU w))):=bI _ rfl
  have zS:(s.heap.push (nO #[] 0 (.fresh 0 0 (!mU w)))).objs.size=s.heap.objs.size+1:=gD ..
  have kS:∀b o,s.heap.get? b=some o->(s.heap.push (nO #[] 0 (.fresh 0 0 (!mU w)))).get? b=some o:=λb o e=>aN _ e
  have hT:CB { s with heap:=s.heap.push (nO #[] 0 (.fresh 0 0 (!mU w))) } (.ref s.heap.objs.size) "set":=⟨_,hS,rfl⟩
  have hli:=PySem.F.called_set.init.lookup;have hbi:=PySem.F.called_set.init.bind (.ref s.heap.objs.size)
  repeat (any_goals (first | assumption | wp_step))
  generalize s.heap.push (nO #[] 0 (.fresh 0 0 (!mU w)))=h2 at hS zS kS hT
  refine tO (codeAny_call_builtin (R:=wants (λr s₂=>r = .none/\∃h' tk,s₂ = { s with heap:=h',toks:=tk }/\SetDone prog w items key s.heap.objs.size items.size h'/\(∀b o,s.heap.get? b=some o->h'.get? b=some o)) E) PySem.F.called_set.init.plain PySem.F.entry_set_init (check_set_init_1 hT ?_)) λr₂ s₂ hr₂=>?_
  ·obtain⟨ol,hol,hcl,nl,hdl⟩:=hl
   obtain⟨ocls,odict,odata,oslots⟩:=ol
   simp only at hcl hdl;subst hcl;subst hdl
   have hol2:=kS _ _ hol
   have hsls:=PySem.F.sub_list_set;have hslf:=PySem.F.sub_list_frozenset
   have hne:(iG "list" == iG "dict")=false:=by decide
   have hl1:h2.IsList l items:=⟨_,hol2,rfl,nl,rfl⟩
   have lt:l<s.heap.objs.size:=aU hol
   unfold Builtin.«set.__init__» noKeywords Builtin.Frozenset.updateFrom;generalize hPI:pyIter=PI
   unfold nO at hS
   wp_walk
   subst hPI
   refine jX hl1 ?_
   apply aA;apply OR;rw[zS]
   have zI:(h2.push (WU l)).get? (s.heap.objs.size+1)=some (WU l):=by rw[<-zS];exact bI _ rfl
   have kI:∀b o,h2.get? b=some o->(h2.push (WU l)).get? b=some o:=λb o e=>aN _ e
   show codeAny _ _ _ _ { s with heap:=h2.push (WU l) }
   generalize h2.push (WU l)=h3 at zI kI
   have ne1:∀{b:Addr} {o:Obj},s.heap.get? b=some o->b≠s.heap.objs.size/\b≠s.heap.objs.size+1:=λe=>⟨bH (aU e),bH (gI (aU e))⟩
   refine Mg (A:=A.in1.in1) (s:={ s with heap:=h3 }) (key:=key) (h0:=s.heap) (by simp[hh]) (bH (gI lt)) (by show A.units+3<cLine;lia) s.heap.objs.size (bH (mE _)) (eB lt) (λi v e=>?_) hb items.size 0 (xI _) (gL _) ⟨⟨_,zI,rfl,rfl⟩,hl1.at λo e=>kI _ o e⟩ ?_ (λb o _ _ e=>kI b o (kS b o e)) λh' tk D up=>?_
   ·obtain⟨a,rfl,hk⟩:=hi i v e
    refine⟨a,rfl,hk,?_⟩
    obtain⟨o,_,_,ho,_⟩:=hk
    exact ne1 ho
   ·exact⟨#[],⟨⟨0,_,kI _ _ hS,Hh _,cZ ⟨rfl,gL _⟩,rfl,rfl,(λx hx=>by cases hx)⟩,(λe he=>by simp at he),[],trivial,.nil⟩,λy hy=>by simp at hy,λj hj=>absurd hj (nE _),gL _⟩
   ·show wpAny _ _ _ _ _ _
    apply aI
    show wpAny _ _ (ret gH) _ _ _
    exact aI ⟨rfl,h',tk,rfl,D,λb o e=>up b o (ne1 e).1 (ne1 e).2 e⟩
  ·match r₂,hr₂ with
   | .error e,hr₂=>exact hr₂
   | .ok (.ret r),hr₂ =>
    obtain⟨rfl,h',tk,rfl,D,up⟩:=hr₂
    repeat (any_goals (first | assumption | wp_step))
    exact q _ _ D up
end
theorem Dp {α:Type} (next:Nat->Nat):∀(fuel k:Nat) (left:List α) (out:Array α),left.length<=fuel->(GU next fuel k left out).toList.Perm (out.toList++left)
 | 0,k,left,out,h=>by
  have:left=[]:=List.eq_nil_of_length_eq_zero (by lia)
  subst this
  simp[GU]
 | fuel+1,k,left,out,h=>by
  unfold GU
  cases e:left[next k % left.length]? with
  | none =>
   dsimp only
   have:left=[]:=by
    cases left with
    | nil=>rfl
    | cons x r =>
     have:=List.getElem?_eq_none_iff.mp e
     have:=jI (next k) (show 0<(x::r).length by simp)
     lia
   subst this;simp
  | some x =>
   dsimp only
   have hi:next k % left.length<left.length:=(aX.mp e).1
   refine (Dp next fuel (k+1) (left.eraseIdx (next k % left.length)) (out.push x) (by rw[List.length_eraseIdx_of_lt hi];lia)).trans ?_
   rw[uV,fD]
   refine List.Perm.append_left _ ?_
   have ex:left[next k % left.length]=x:=(aX.mp e).2
   have el:left=left.take (next k % left.length)++x::left.drop (next k % left.length+1):=by
    rw[<-ex,<-gM hi,gB]
   rw[List.eraseIdx_eq_take_drop_succ]
   conv=>rhs;rw[el]
   rw[yW];exact (List.perm_middle (a:=x)).symm
theorem Go {α:Type} (next:Nat->Nat) (xs:Array α):(pickOrder next xs).toList.Perm xs.toList:=by
 have:=Dp next xs.size 0 xs.toList #[] (by simp)
 simpa [pickOrder] using this
theorem Lb:Manifest.owners.lookup (String.ofList ['r','o','t','a','r','e','t','i','_','t','e','s'].reverse)=some Manifest.sig_set_iterator:=by kernel_rfl
theorem qY:Slot "set_iterator" "__next__" "set_iterator.__next__" :=
 .of (owner:="set_iterator") (n:="__next__") (by rw[pQ,lC];kernel_rfl) (by decide +kernel) (by decide +kernel) (by decide +kernel) (by first | exact .inl (by decide +kernel) | exact .inr (by decide +kernel)) (by rw[MZ];kernel_rfl)
theorem CD:entryFor table "set_iterator.__next__" = some Builtin.«set_iterator.__next__»:=entryFor_of_tree (by kernel_rfl)
theorem FY (a:aD):argsOk "set_iterator.__next__" ⟨[a],[]⟩:=by
 unfold argsOk;rw[signature?_of (id:="set_iterator.__next__") (n:=['_','_','t','x','e','n','_','_']) (o:=['r','o','t','a','r','e','t','i','_','t','e','s']) (by kernel_rfl) Lb];kernel_rfl
theorem TH:entryFor table "set.__iter__" = some Builtin.«frozenset.__iter__»:=entryFor_alias (id':="frozenset.__iter__") (by kernel_rfl) rfl (by decide +kernel) (by kernel_rfl)
section
variable {prog:bV} {w:dE} {A:dF} {E:aD->aG->Prop} {s:aG}
def kC (w:dE) (S:Addr) (ep:Nat) (es:Array (Int × aD)):Array (Int × aD):=if mU w=true then pickOrder (w.params.setOrder S ep) es else es
theorem IX (S:Addr) (ep:Nat) (es:Array (Int × aD)):(kC w S ep es).toList.Perm es.toList:=by
 unfold kC;split
 ·exact Go _ _
 ·exact zJ _
def slotAt (w:dE) (t:SetTable) (k:Nat):Nat:=if mU w=true then 0 else tS t k
def vT (w:dE) (S:Addr) (n ep:Nat) (t:SetTable) (k:Nat):Obj:={ cls:=.type "set_iterator",data:=.fields #[rawInt (slotAt w t k),rawInt k,.ref S,rawInt n,rawInt ep] }
theorem YG {S:Addr} {es:Array (Int × aD)} {ep k:Nat} {t:SetTable} {Q:Option (aD × Nat)->aG->Prop} (ho:s.heap.get? S=some (nO es ep t)) (T:TabOk t es.size) (hl:t.led = !mU w) (hp:t.plain=true) (hk:k<=es.size)
  (q:Q ((kC w S ep es)[k]?.map λe=>(e.2,slotAt w t (k+1))) s):wpAny (model prog w) A (setNext S (slotAt w t k) k ep) Q E s:=by
 unfold setNext
 apply aA;refine jB ho rfl T.fits ?_
 unfold setsByText
 apply aA;apply aA;refine oY (aI ?_)
 show wpAny _ _ (if mU w=true then _ else _) _ _ _
 by_cases hb:mU w=true
 ·rw[if_pos hb,if_neg (by simp)]
  apply aA;unfold setWalk
  apply aA;refine jB ho rfl T.fits ?_
  unfold setsByText
  apply aA;apply aA;refine oY (aI ?_)
  show wpAny _ _ (if mU w=true then _ else _) _ _ _
  rw[if_pos hb]
  apply aA;refine oY (aI (aI ?_))
  unfold kC slotAt at q
  simp only[if_pos hb] at q
  unfold slotAt
  simp only[if_pos hb]
  exact q
 ·have hb0:mU w=false:=by simpa using hb
  rw[if_neg hb]
  show wpAny _ _ (if (!t.plain && decide (es.size > 1))=true then _ else _) _ _ _
  rw[hp]
  simp only[fR,zD,aM,if_false]
  show wpAny _ _ ((if (!t.led && !es.isEmpty)=true then unsupported "set:maker-not-led" else pure ()) >>= _) _ _ _
  rw[hl,hb0]
  simp only[nX,fR,zD,aM,if_false]
  apply aA;apply aI;apply aI
  have np:=Ai T hk
  unfold kC slotAt at q
  simp only[if_neg hb] at q
  unfold slotAt
  simp only[if_neg hb]
  rw[np]
  by_cases hlt:k<es.size
  ·have e1:es[k]? = some es[k]:=aZ hlt
   have e2:t.place[k]? = some (t.place.getD k 0):=by
    have:k<t.place.size:=by rw[T.size];exact hlt
    rw[aZ this];simp[kP,this]
   rw[e1] at q
   rw[e1,e2]
   have e3:tS t (k+1)=t.place.getD k 0+1:=by unfold tS;rw[if_neg (by lia)];simp
   rw[e3] at q
   exact q
  ·have e1:es[k]? = none:=qF (by lia)
   rw[e1] at q
   rw[e1]
   exact q
theorem AW {I:Addr} {c:aD} {d:Option Addr} {sl:Array (Option aD)} {vs:Array aD} {i:Nat} {x:aD} {Q:Unit->aG->Prop} (ho:s.heap.get? I=some { cls:=c,dict:=d,data:=.fields vs,slots:=sl }) (hi:i<vs.size)
  (q:∀h',h'.get? I=some { cls:=c,dict:=d,data:=.fields (vs.setIfInBounds i x),slots:=sl }->mN I s.heap h'->Q () { s with heap:=h' }):wpAny (model prog w) A (setField (.ref I) i x) Q E s:=by
 refine AZ ho rfl hi (q _ ?_ (gQ ..))
 have:=dQ (Obj.mapFields λvs=>vs.setIfInBounds i x) ho rfl
 rw[this];rfl
structure SetIt (w:dE) (S I:Addr) (es:Array (Int × aD)) (ep:Nat) (t:SetTable) (k:Nat) (h:Heap):Prop where
 set:h.get? S=some (nO es ep t)
 it:h.get? I=some (vT w S es.size ep t k)
theorem Gb {S I:Addr} {es:Array (Int × aD)} {ep k:Nat} {t:SetTable} {x:Int × aD} {Q:Option aD->aG->Prop} (D:SetIt w S I es ep t k s.heap) (ne:S≠I) (T:TabOk t es.size) (hl:t.led = !mU w) (hp:t.plain=true) (hk:k<es.size) (hx:(kC w S ep es)[k]? = some x)
  (q:∀h',SetIt w S I es ep t (k+1) h'->mN I s.heap h'->Q (some x.2) { s with heap:=h' }):wpAny (model prog w) A (pyNext (.ref I)) Q E s:=by
 have ty:s.TypeIs (.ref I) "set_iterator":=⟨_,D.it,rfl⟩
 unfold pyNext
 apply aA;apply vU;refine gU (name:=lM "__next__") ty qY (iE qY ty CD ?_ (FY _))
 unfold Builtin.«set_iterator.__next__»
 apply aA;refine oK (a:=(fP I,[])) rfl ?_
 apply aA;refine OQ D.it rfl ?_
 dsimp only[rawInt]
 apply aA;refine tH D.set rfl T.fits ?_
 rw[if_neg (by simp)]
 apply aA
 show wpAny _ _ (setNext S ((slotAt w t k:Nat):Int).toNat ((k:Nat):Int).toNat ((ep:Nat):Int).toNat) _ _ _
 simp only[nR]
 refine YG D.set T hl hp (mT hk) ?_
 rw[hx]
 dsimp only[Option.map]
 have dit:=D.it;unfold vT at dit
 apply aA;refine AW dit (by simp) λh1 g1 s1=>?_
 apply aA;refine AW (s:={ s with heap:=h1 }) g1 (by simp) λh2 g2 s2=>?_
 refine aI ⟨x.2,rfl,aI (q h2 ⟨?_,?_⟩ (s1.trans s2))⟩
 ·rw[s2.2 S ne,s1.2 S ne];exact D.set
 ·rw[g2];rfl
theorem Kr {S I:Addr} {es:Array (Int × aD)} {ep:Nat} {t:SetTable} {Q:Option aD->aG->Prop} (hh:A.handled=none) (D:SetIt w S I es ep t es.size s.heap) (ne:S≠I) (T:TabOk t es.size) (hl:t.led = !mU w) (hp:t.plain=true)
  (q:∀h',IY I s.heap h'->Q none { s with heap:=h' }):wpAny (model prog w) A (pyNext (.ref I)) Q E s:=by
 have ty:s.TypeIs (.ref I) "set_iterator":=⟨_,D.it,rfl⟩
 have hx:(kC w S ep es)[es.size]? = none:=by
  apply qF
  rw[<-cM,(IX S ep es).length_eq,cM];exact bK _
 unfold pyNext
 apply aA;apply vU;refine gU (name:=lM "__next__") ty qY (iE qY ty CD ?_ (FY _))
 unfold Builtin.«set_iterator.__next__»
 apply aA;refine oK (a:=(fP I,[])) rfl ?_
 apply aA;refine OQ D.it rfl ?_
 dsimp only[rawInt]
 apply aA;refine tH D.set rfl T.fits ?_
 rw[if_neg (by simp)]
 apply aA
 show wpAny _ _ (setNext S ((slotAt w t es.size:Nat):Int).toNat ((es.size:Nat):Int).toNat ((ep:Nat):Int).toNat) _ _ _
 simp only[nR]
 refine YG D.set T hl hp (bK _) ?_
 rw[hx]
 dsimp only[Option.map]
 have dit:=D.it;unfold vT at dit
 apply aA;refine AW dit (by simp) λh1 g1 s1=>?_
 show wpAny _ _ (newExc (.type "StopIteration") [] >>= _) _ _ _
 apply aA;simp only[newExc,newTuple]
 apply aA;refine fE ?_ (by size_fits)
 refine aA (m:=firstArgMember _ _) ?_
 refine oK (a:=gH) (by first | rfl | (simp only[firstArgMember];rfl)) ?_
 refine fE ?_ (by size_fits)
 simp only[raiseNew]
 apply aA;apply QH
 first | rw[show A.in1.handled=none from hh] | rw[hh]
 refine aA (aI (wpAny_throw ?_))
 apply aA;refine sF (T:="StopIteration") (b:=true) ⟨_,bI _ rfl,rfl⟩ MY ?_
 exact aI (q _ ((s1.extBut.push _).push _))
theorem Jz {S:Addr} {es:Array (Int × aD)} {ep:Nat} {t:SetTable} {Q:aD->aG->Prop} (ho:s.heap.get? S=some (nO es ep t)) (T:TabOk t es.size) (hp:t.plain=true)
  (q:Q (.ref s.heap.objs.size) { s with heap:=s.heap.push (vT w S es.size ep t 0) }):wpAny (model prog w) A (pyIter (.ref S)) Q E s:=by
 have ty:s.TypeIs (.ref S) "set":=⟨_,ho,rfl⟩
 refine HJ ty F.slot_set_iter (iE F.slot_set_iter ty TH ?_ (F.args_set_iter_1 _))
 unfold Builtin.«frozenset.__iter__» Builtin.Frozenset.slot0 Builtin.Frozenset.sizeOf
 apply aA;refine oK (a:=S) rfl ?_
 apply aA;apply aA;refine tH ho rfl T.fits (aI ?_)
 apply aA;unfold setDrawn
 apply aA;refine jB ho rfl T.fits ?_
 unfold setsByText
 apply aA;apply aA;refine oY (aI (aI ?_))
 have dr:(!(model prog w).w.params.followText "set-order" && (!t.plain && decide (es.size > 1)))=false:=by rw[hp];simp
 show wpAny _ _ (if (!(model prog w).w.params.followText "set-order" && (!t.plain && decide (es.size > 1)))=true then _ else _) _ _ _
 rw[dr]
 simp only[aM,if_false]
 apply aA;apply aI
 apply aA;refine wpAny_setEpoch_of ho rfl T.fits ?_
 apply aA;unfold newFields;refine fE ?_
 have e0:slotAt w t 0=0:=by unfold slotAt tS;split <;> rfl
 refine aI ⟨_,rfl,"set_iterator",_,⟨_,bI _ rfl,rfl⟩,qY.lookup,?_⟩
 unfold vT at q
 rw[e0] at q
 exact q
end
section
variable {prog:bV} {w:dE} {A:dF} {E:aD->aG->Prop} {s:aG}
theorem Mf {S:Addr} {Q:Bool->aG->Prop} (ty:s.TypeIs (.ref S) "set") (q:Q false s):wpAny (model prog w) A (iV (.ref S)) Q E s:=by
 unfold iV
 apply aA;refine nH ty F.slot_set_len.lookup ?_
 dsimp only
 have sp:splitId "set.__len__" = some ("set","__len__"):=by decide +kernel
 rw[sp]
 dsimp only
 apply aA;refine sF (b:=true) ty sub_set_self ?_
 simp only[fR,aM,if_false]
 have key:∀(c:Bool) (X Y:Sem Bool),c=true->wpAny (model prog w) A X Q E s->wpAny (model prog w) A (if c=true then X else Y) Q E s:=λc X Y hc h=>by rw[if_pos hc];exact h
 refine key _ _ _ (by decide +kernel) ?_
 apply aA;refine rA ty ?_
 exact aI q
theorem YE {S I:Addr} {es:Array (Int × aD)} {ep k:Nat} {t:SetTable} {h h':Heap} (D:SetIt w S I es ep t k h) (up:∀b o,b=S\/b=I->h.get? b=some o->h'.get? b=some o):SetIt w S I es ep t k h' :=
 ⟨up _ _ (cZ rfl) D.set,up _ _ (cX rfl) D.it⟩
theorem VF {S:Addr} {es:Array (Int × aD)} {ep:Nat} {t:SetTable} {Q:List aD->aG->Prop} (hh:A.handled=none) (ho:s.heap.get? S=some (nO es ep t)) (T:TabOk t es.size) (hl:t.led = !mU w) (hp:t.plain=true) (hz:es.size<=100)
  (q:∀h',(∀b o,s.heap.get? b=some o->h'.get? b=some o)->s.heap.objs.size<=h'.objs.size->Q ((kC w S ep es).toList.map (·.2)) { s with heap:=h' }):wpAny (model prog w) A (collect (.ref S)) Q E s:=by
 have ltS:S<s.heap.objs.size:=aU ho
 have wl:(kC w S ep es).size=es.size:=by rw[<-cM,(IX S ep es).length_eq,cM]
 unfold collect
 apply aA;apply OR;refine fT F.entry_proto_collect ?_
 rw[eS F.plain_proto_collect _]
 show wpAny _ A.in1 (newList [] >>= λl=>again (.builtin "list.__iadd__" ⟨[l,.ref S],[]⟩)) _ _ s
 apply aA;refine fE ?_
 refine aI ⟨gJ F.plain_list_iadd _,fT F.entry_list_iadd ?_⟩
 rw[eS F.plain_list_iadd _]
 show wpAny _ A.in1 (fI (.ref s.heap.objs.size) (.ref S) (.ref s.heap.objs.size)) _ _ { s with heap:=s.heap.push { cls:=.type "list",data:=.seq ([]:List aD).toArray } }
 have z1:(s.heap.push { cls:=.type "list",data:=.seq ([]:List aD).toArray }).objs.size=s.heap.objs.size+1:=gD ..
 have hL:(s.heap.push { cls:=.type "list",data:=.seq ([]:List aD).toArray }).get? s.heap.objs.size=some { cls:=.type "list",data:=.seq ([]:List aD).toArray }:=bI _ rfl
 have k1:∀b o,s.heap.get? b=some o->(s.heap.push { cls:=.type "list",data:=.seq ([]:List aD).toArray }).get? b=some o:=λb o e=>aN _ e
 generalize s.heap.push { cls:=.type "list",data:=.seq ([]:List aD).toArray } = h1 at z1 hL k1
 have ty:∀{h:Heap} {g d t os},(∀b o,s.heap.get? b=some o->h.get? b=some o)->CB ⟨h,g,d,t,os⟩ (.ref S) "set":=λup=>⟨_,up _ _ ho,rfl⟩
 unfold fI
 apply aA;refine rA (T:="set") (ty k1) ?_
 have g1:iJ (.ref s.heap.objs.size) (.ref S)=false:=by simp[iJ,eB ltS]
 have g2:(iG "set" == iG "list")=false:=by decide
 have g3:(iG "set" == iG "tuple")=false:=by decide
 simp only[g1,g2,g3,vJ,aM,if_false]
 apply aA;refine Jz (s:={ s with heap:=h1 }) (k1 _ _ ho) T hp ?_
 show wpAny _ _ _ _ _ { s with heap:=h1.push (vT w S es.size ep t 0) }
 have hI:(h1.push (vT w S es.size ep t 0)).get? (s.heap.objs.size+1)=some (vT w S es.size ep t 0):=by rw[<-z1];exact bI _ rfl
 have k2:∀b o,h1.get? b=some o->(h1.push (vT w S es.size ep t 0)).get? b=some o:=λb o e=>aN _ e
 rw[z1]
 generalize h1.push (vT w S es.size ep t 0)=h2 at hI k2
 apply aA;apply fL;refine Mf (ty λb o e=>k2 b o (k1 b o e)) ?_
 have key:∀(c:Bool) (X Y:Sem Fin) {Q':Fin->aG->Prop} {E':aD->aG->Prop} {s':aG},c=true->wpAny (model prog w) A.in1 X Q' E' s'->wpAny (model prog w) A.in1 (if c=true then X else Y) Q' E' s':=λc X Y _ _ _ hc h=>by rw[if_pos hc];exact h
 refine key _ _ _ (by decide +kernel) ?_
 have hL2:=k2 _ _ hL
 apply aA;apply uR;apply aA
 show wpAny _ _ (updateSeq s.heap.objs.size (·.push .none) >>= λ_=>updateSeq s.heap.objs.size (·.pop)) _ _ _
 apply aA;refine gC hL2 rfl ?_
 have hL3:=dQ (dH (·.push gH)) hL2 rfl
 refine gC (hz:=by seq_fits) hL3 rfl ?_
 have hL4:=dQ (dH (·.pop)) hL3 rfl
 have up4:∀b o,b≠s.heap.objs.size->h2.get? b=some o->((h2.update s.heap.objs.size (dH (·.push gH))).update s.heap.objs.size (dH (·.pop))).get? b=some o :=
  λb o hb e=>(cE _ _ (Ne.symm hb)).trans ((cE _ _ (Ne.symm hb)).trans e)
 generalize (h2.update s.heap.objs.size (dH (·.push gH))).update s.heap.objs.size (dH (·.pop))=h4 at hL4 up4
 apply aI;refine⟨gJ iF _,?_⟩
 have neSI:S≠s.heap.objs.size+1:=bH (gI ltS)
 have neS:S≠s.heap.objs.size:=bH ltS
 have neI:s.heap.objs.size+1≠s.heap.objs.size:=oR _
 have old:∀{b:Addr} {o:Obj},s.heap.get? b=some o->b≠s.heap.objs.size/\b≠s.heap.objs.size+1:=λe=>⟨bH (aU e),bH (gI (aU e))⟩
 refine MR (A:=A) (s0:=s) (n:=es.size) (J:=λacc h=>SetIt w S (s.heap.objs.size+1) es ep t acc.length h/\acc=((kC w S ep es).toList.map (·.2)).take acc.length/\∀b o,s.heap.get? b=some o->h.get? b=some o)
  (F:=λacc h=>acc=(kC w S ep es).toList.map (·.2)/\∀b o,s.heap.get? b=some o->h.get? b=some o) (.ref s.heap.objs.size) (by rw[lO];lia) ?_ ?_ ?_ (λh' acc c hsz hF hS'=>?_) es.size #[] h4 _ rfl (gL _) ?_ hL4
 ·rintro acc h h' ⟨J1,J2,J3⟩ hSo hz up
  refine⟨YE J1 λb o hb e=>up b o ?_ e,J2,λb o e=>up b o (old e).1 (J3 b o e)⟩
  rcases hb with rfl | rfl
  ·exact neS
  ·exact neI
 ·rintro acc s' o Q' E' hlt ⟨J1,J2,J3⟩ hSo k
  have hw:acc.length<(kC w S ep es).size:=by lia
  refine Gb J1 neSI T hl hp hlt (aZ hw) λh' D' sb=>k _ h' ⟨by simpa using D',?_,λb o e=>?_⟩ ?_
  ·rw[dI,rE,mD,<-J2]
   simp[hw]
  ·rw[sb.2 b (old e).2];exact J3 b o e
  ·rw[sb.2 _ (Ne.symm neI)];exact hSo
 ·rintro acc s' o Q' E' hlen ⟨J1,J2,J3⟩ hSo k
  rw[hlen] at J1 J2
  refine Kr (A:=A.in1) (by simp[hh]) J1 neSI T hl hp λh' eb=>k h' ⟨?_,λb o e=>eb b o (old e).2 (J3 b o e)⟩ (eb _ _ (Ne.symm neI) hSo)
  rw[J2,mQ]
  simp[wl]
 ·show wpAny _ A (load s.heap.objs.size >>= _) _ _ _
  apply aA;refine wpAny_load hS' ?_
  refine aI ?_
  rw[hF.1]
  exact q h' hF.2 (mT (aU hS'))
 ·refine⟨⟨up4 _ _ neS (k2 _ _ (k1 _ _ ho)),up4 _ _ neI hI⟩,rfl,λb o e=>up4 b o (old e).1 (k2 b o (k1 b o e))⟩
end
end
section
open PySem PySem.W PyProof.Rows
def iU {α:Type} (lt:Nat->Nat->Bool):KasT α->α
 | .ret a=>a
 | .ask i j k=>iU lt (k (lt i j))
theorem tU {α β:Type} {lt:Nat->Nat->Bool} {f:α->KasT β}:∀t:KasT α,iU lt (t.bind f)=iU lt (f (iU lt t))
 | .ret _=>rfl
 | .ask i j k=>tU (k (lt i j))
def kIn {α:Type} (lt:Nat->Nat->Bool) (n:Nat):KasT α->Prop
 | .ret _=>True
 | .ask i j k=>i<n/\j<n/\kIn lt n (k (lt i j))
theorem oF {α β:Type} {lt:Nat->Nat->Bool} {n:Nat} {f:α->KasT β}:∀t:KasT α,kIn lt n t->kIn lt n (f (iU lt t))->kIn lt n (t.bind f)
 | .ret _,_,h=>h
 | .ask i j k,⟨h1,h2,h3⟩,h=>⟨h1,h2,oF (k (lt i j)) h3 h⟩
theorem NA {α:Type} {cmp:Nat->Nat->(Bool->aG->Prop)->aG->Prop} {lt:Nat->Nat->Bool} {n:Nat} {s:aG} {Q:α->aG->Prop} (hc:∀i j (C:Bool->aG->Prop),i<n->j<n->C (lt i j) s->cmp i j C s) :
  ∀t:KasT α,kIn lt n t->Q (iU lt t) s->t.kasWp cmp Q s
 | .ret _,_,h=>h
 | .ask i j k,⟨h1,h2,h3⟩,h=>hc i j _ h1 h2 (NA hc (k (lt i j)) h3 h)
section
variable {O:KeyOrd} {key:Nat->O.α} {N:Nat}
def ltK (O:KeyOrd) (key:Nat->O.α) (i j:Nat):Bool:=O.blt (key i) (key j)
def kk (O:KeyOrd) (key:Nat->O.α) (p:Array Nat) (i:Nat):O.α:=key (p.getD i 0)
def Up (O:KeyOrd) (key:Nat->O.α) (p:Array Nat) (n:Nat):Prop:=∀i j,i<=j->j<n->O.kle (kk O key p i) (kk O key p j)
def Dn (O:KeyOrd) (key:Nat->O.α) (p:Array Nat) (n:Nat):Prop:=∀i j,i<=j->j<n->O.kle (kk O key p j) (kk O key p i)
def Lo (p:Array Nat) (N:Nat):Prop:=∀i,p.getD i 0<N
theorem xW {p q:Array Nat} (h:p.Perm q) (hq:Lo q N):Lo p N:=by
 intro i
 by_cases hi:i<p.size
 ·have m:p[i]∈p:=Array.getElem_mem hi
  have m2:p[i]∈q:=h.mem_iff.mp m
  obtain⟨j,hj,e⟩:=zA m2
  have:=hq j
  simp[kP,hj] at this
  simp[kP,hi]
  rw[<-e];exact this
 ·have h0:=hq q.size
  simp[kP] at h0
  simp[kP,hi];exact h0
theorem AB {p q:Array Nat} {i j:Nat} (h:p[i]? = q[j]?):kk O key p i=kk O key q j:=by
 unfold kk;rw[dR,dR,h]
theorem ZO {p:Array Nat} {i j:Nat} (hj:j<=p.size) (k:Nat):kk O key (BI p i j) k=if i<=k/\k<j then kk O key p (i+j-1-k) else kk O key p k:=by
 have e:=getElem?_mirror_all (i:=i) hj k
 unfold BI
 by_cases h1:i<=k/\k<j
 ·rw[if_pos h1] at e ⊢;exact AB e
 ·rw[if_neg h1] at e ⊢;exact AB e
theorem IH {p:Array Nat} {i j:Nat} (hj:j<=p.size) (h:∀k,i<=k->k<j->kk O key p k=kk O key p (j-1)) (k:Nat):kk O key (BI p i j) k=kk O key p k:=by
 rw[ZO hj]
 split
 ·rw[h _ (by lia) (by lia),h k (by lia) (by lia)]
 ·rfl
theorem Fb {p:Array Nat} {src d:Nat} (hs:src<p.size) (hd:d<=src) (k:Nat) :
  kk O key (bubble p src d) k=if k=src-d then kk O key p src else if src-d<k/\k<=src then kk O key p (k-1) else kk O key p k:=by
 have e:=getElem?_bubble hs d hd k
 by_cases h1:k=src-d
 ·rw[if_pos h1] at e ⊢;exact AB e
 ·rw[if_neg h1] at e ⊢
  by_cases h2:src-d<k/\k<=src
  ·rw[if_pos h2] at e ⊢;exact AB e
  ·rw[if_neg h2] at e ⊢;exact AB e
theorem AV (p:Array Nat) (i j:Nat):(BI p i j).Perm p:=mirror_perm _ _ _ _
theorem Qn {p:Array Nat} {n:Nat} (h1:1<=n) (h:Up O key p n) (hl:O.kle (kk O key p (n-1)) (kk O key p n)):Up O key p (n+1):=by
 intro i j hij hj
 by_cases hjx:j<n
 ·exact h i j hij hjx
 ·have hj':j=n:=by lia
  subst hj'
  by_cases hi':i=j
  ·subst hi';exact jZ _
  ·exact rM (h i (j-1) (by lia) (by lia)) hl
theorem TB {p:Array Nat} {n:Nat} (h1:1<=n) (h:Dn O key p n) (hl:O.kle (kk O key p n) (kk O key p (n-1))):Dn O key p (n+1):=by
 intro i j hij hj
 by_cases hjx:j<n
 ·exact h i j hij hjx
 ·have hj':j=n:=by lia
  subst hj'
  by_cases hi':i=j
  ·subst hi';exact jZ _
  ·exact rM hl (h i (j-1) (by lia) (by lia))
theorem YX {p:Array Nat} (lo:Lo p N):∀(f n:Nat),1<=n->Up O key p n->kIn (ltK O key) N (vA p f n)/\n<=iU (ltK O key) (vA p f n)/\iU (ltK O key) (vA p f n)<=n+f/\Up O key p (iU (ltK O key) (vA p f n)) /\
  (iU (ltK O key) (vA p f n)=n+f\/O.klt (kk O key p (iU (ltK O key) (vA p f n))) (kk O key p (iU (ltK O key) (vA p f n)-1)))
 | 0,n,_,h=>⟨trivial,bK _,bK _,h,cZ rfl⟩
 | f+1,n,h1,h=>by
  simp only[vA,iU,kIn]
  cases hb:ltK O key (p.getD n 0) (p.getD (n-1) 0) with
  | true =>
   simp only[if_true]
   exact⟨⟨lo _,lo _,trivial⟩,bK _,by simp only[iU];lia,h,cX hb⟩
  | false =>
   simp only[aM,if_false]
   obtain⟨i1,i2,i3,i4,i5⟩:=YX lo f (n+1) (by lia) (Qn h1 h hb)
   refine⟨⟨lo _,lo _,i1⟩,by lia,by lia,i4,?_⟩
   rcases i5 with e | e
   ·exact cZ (by lia)
   ·exact cX e
theorem YI {p:Array Nat} (lo:Lo p N) {n nrem:Nat} (h1:1<=n) (hn:n<=nrem) (hz:nrem<=p.size) (h:Dn O key p n) :
  kIn (ltK O key) N (tV n nrem p)/\1<=(iU (ltK O key) (tV n nrem p)).1/\(iU (ltK O key) (tV n nrem p)).1<=nrem/\(iU (ltK O key) (tV n nrem p)).2.Perm p/\Up O key (iU (ltK O key) (tV n nrem p)).2 (iU (ltK O key) (tV n nrem p)).1:=by
 unfold tV
 have up:Up O key (BI p 0 n) n:=by
  intro i j hij hj
  rw[ZO (by lia),ZO (by lia),if_pos (by lia),if_pos (by lia)]
  exact h _ _ (by lia) (by lia)
 obtain⟨i1,i2,i3,i4,_⟩:=YX (xW (AV p 0 n) lo) (nrem-n) n h1 up
 rw[tU]
 refine⟨oF _ i1 trivial,?_,?_,AV p 0 n,i4⟩
 ·show 1<=_;simp only[iU];lia
 ·simp only[iU];lia
theorem LJ:∀(f:Nat) (p:Array Nat) (n q:Nat),Lo p N->1<=n->n+f<=p.size->Dn O key p n->q+1<=n->(∀i,n-(q+1)<=i->i<n->kk O key p i=kk O key p (n-1)) ->
  kIn (ltK O key) N (kU f p n q)/\(iU (ltK O key) (kU f p n q)).1.Perm p/\n<=(iU (ltK O key) (kU f p n q)).2.1/\(iU (ltK O key) (kU f p n q)).2.1<=n+f /\
  Dn O key (iU (ltK O key) (kU f p n q)).1 (iU (ltK O key) (kU f p n q)).2.1/\(iU (ltK O key) (kU f p n q)).2.2+1<=(iU (ltK O key) (kU f p n q)).2.1 /\
  (∀i,(iU (ltK O key) (kU f p n q)).2.1-((iU (ltK O key) (kU f p n q)).2.2+1)<=i->i<(iU (ltK O key) (kU f p n q)).2.1->kk O key (iU (ltK O key) (kU f p n q)).1 i=kk O key (iU (ltK O key) (kU f p n q)).1 ((iU (ltK O key) (kU f p n q)).2.1-1))
 | 0,p,n,q,lo,h1,hz,h,hq,he=>⟨trivial,pM _,bK _,bK _,h,hq,he⟩
 | f+1,p,n,q,lo,h1,hz,h,hq,he=>by
  simp only[kU,iU,kIn]
  cases hb:ltK O key (p.getD n 0) (p.getD (n-1) 0) with
  | true =>
   simp only[if_true]
   by_cases h0:q > 0
   ·simp only[if_pos h0]
    have hk:=IH (O:=O) (key:=key) (p:=p) (i:=n-(q+1)) (j:=n) (by lia) he
    have pm:=AV p (n-(q+1)) n
    have dn:Dn O key (BI p (n-(q+1)) n) (n+1):=by
     have d0:=TB h1 h (nS hb)
     intro i j hij hj
     rw[hk,hk];exact d0 i j hij hj
    obtain⟨i1,i2,i3,i4,i5,i6,i7⟩:=LJ f (BI p (n-(q+1)) n) (n+1) 0 (xW pm lo) (by lia) (by rw[pm.size_eq];lia) dn (by lia) (λi a b=>by congr 1;lia)
    exact⟨⟨lo _,lo _,i1⟩,i2.trans pm,by lia,by lia,i5,i6,i7⟩
   ·simp only[if_neg h0]
    obtain⟨i1,i2,i3,i4,i5,i6,i7⟩:=LJ f p (n+1) 0 lo (by lia) (by lia) (TB h1 h (nS hb)) (by lia) (λi a b=>by congr 1;lia)
    exact⟨⟨lo _,lo _,i1⟩,i2,by lia,by lia,i5,i6,i7⟩
  | false =>
   simp only[aM,if_false,iU,kIn]
   cases hc:ltK O key (p.getD (n-1) 0) (p.getD n 0) with
   | true =>
    simp only[if_true]
    exact⟨⟨lo _,lo _,lo _,lo _,trivial⟩,pM _,bK _,by simp only[iU];lia,h,hq,he⟩
   | false =>
    simp only[aM,if_false]
    have e:kk O key p n=kk O key p (n-1):=BS hc hb
    obtain⟨i1,i2,i3,i4,i5,i6,i7⟩:=LJ f p (n+1) (q+1) lo (by lia) (by lia) (TB h1 h (by rw[e];exact jZ _)) (by lia) (λi a b=>by
     rw[show n+1-1=n by lia]
     by_cases hi:i=n
     ·subst hi;rfl
     ·rw[e];exact he i (by lia) (by lia))
    exact⟨⟨lo _,lo _,lo _,lo _,i1⟩,i2,by lia,by lia,i5,i6,i7⟩
theorem JF {p:Array Nat} (lo:Lo p N) {n nrem:Nat} (hn:n+1<=nrem) (hz:nrem<=p.size) (h:Dn O key p (n+1)) :
  kIn (ltK O key) N (oV n nrem p)/\1<=(iU (ltK O key) (oV n nrem p)).1/\(iU (ltK O key) (oV n nrem p)).1<=nrem/\(iU (ltK O key) (oV n nrem p)).2.Perm p/\Up O key (iU (ltK O key) (oV n nrem p)).2 (iU (ltK O key) (oV n nrem p)).1:=by
 unfold oV
 obtain⟨i1,i2,i3,i4,i5,i6,i7⟩:=LJ (N:=N) (nrem-(n+1)) p (n+1) 0 lo (by lia) (by lia) h (by lia) (λi a b=>by congr 1;lia)
 rw[tU]
 generalize hr:iU (ltK O key) (kU (nrem-(n+1)) p (n+1) 0)=r at *
 by_cases h0:r.2.2 > 0
 ·have sz:r.1.size=p.size:=i2.size_eq
  have hk:=IH (O:=O) (key:=key) (p:=r.1) (i:=r.2.1-(r.2.2+1)) (j:=r.2.1) (by lia) i7
  have pm:=(AV r.1 (r.2.1-(r.2.2+1)) r.2.1).trans i2
  have t:=YI (O:=O) (key:=key) (N:=N) (xW pm lo) (n:=r.2.1) (nrem:=nrem) (by lia) (by lia) (by rw[pm.size_eq];lia) (λi j hij hj=>by rw[hk,hk];exact i5 i j hij hj)
  rw[if_pos h0]
  refine⟨oF _ i1 ?_,t.2.1,t.2.2.1,t.2.2.2.1.trans pm,t.2.2.2.2⟩
  rw[hr,if_pos h0];exact t.1
 ·have t:=YI (O:=O) (key:=key) (N:=N) (xW i2 lo) (n:=r.2.1) (nrem:=nrem) (by lia) (by lia) (by rw[i2.size_eq];lia) i5
  rw[if_neg h0]
  refine⟨oF _ i1 ?_,t.2.1,t.2.2.1,t.2.2.2.1.trans i2,t.2.2.2.2⟩
  rw[hr,if_neg h0];exact t.1
theorem Im {p:Array Nat} (lo:Lo p N) {nrem:Nat} (h1:1<=nrem) (hz:nrem<=p.size) :
  kIn (ltK O key) N (rY nrem p)/\1<=(iU (ltK O key) (rY nrem p)).1/\(iU (ltK O key) (rY nrem p)).1<=nrem/\(iU (ltK O key) (rY nrem p)).2.Perm p/\Up O key (iU (ltK O key) (rY nrem p)).2 (iU (ltK O key) (rY nrem p)).1:=by
 unfold rY
 obtain⟨i1,i2,i3,i4,i5⟩:=YX (O:=O) (key:=key) lo (nrem-1) 1 (bK _) (λi j hij hj=>by have:i=j:=(by lia);subst this;exact jZ _)
 rw[tU]
 generalize hr:iU (ltK O key) (vA p (nrem-1) 1)=n at *
 by_cases hn:n=nrem
 ·rw[if_pos (by simpa using hn)]
  exact⟨oF _ i1 (by rw[hr,if_pos (by simpa using hn)];trivial),i2,by show n<=nrem;lia,pM _,i4⟩
 ·rw[if_neg (by simpa using hn)]
  have hlt:O.klt (kk O key p n) (kk O key p (n-1)):=i5.resolve_left (by lia)
  by_cases hg:n > 1
  ·rw[if_pos hg]
   simp only[iU]
   cases hb:ltK O key (p.getD 0 0) (p.getD (n-1) 0) with
   | true =>
    simp only[if_true]
    exact⟨oF _ i1 (by rw[hr,if_neg (by simpa using hn),if_pos hg];exact⟨lo _,lo _,by rw[hb];trivial⟩),by show 1<=n;lia,by show n<=nrem;lia,pM _,i4⟩
   | false =>
    simp only[aM,if_false]
    have hall:∀k,0<=k->k<n->kk O key p k=kk O key p (n-1):=by
     intro k _ hk
     have a1:=i4 0 k (by lia) hk
     have a2:=i4 k (n-1) (by lia) (by lia)
     exact BS a2 (rM hb a1)
    have hk:=IH (O:=O) (key:=key) (p:=p) (i:=0) (j:=n) (by lia) hall
    have pm:=AV p 0 n
    have t:=JF (O:=O) (key:=key) (N:=N) (xW pm lo) (n:=n) (nrem:=nrem) (by lia) (by rw[pm.size_eq];lia) (λi j hij hj=>by
     rw[hk,hk]
     by_cases hjn:j<n
     ·rw[hall i (by lia) (by lia),hall j (by lia) hjn];exact jZ _
     ·have hj':j=n:=by lia
      subst hj'
      by_cases hi':i=j
      ·subst hi';exact jZ _
      ·rw[hall i (by lia) (by lia)];exact nS hlt)
    exact⟨oF _ i1 (by rw[hr,if_neg (by simpa using hn),if_pos hg];exact⟨lo _,lo _,by rw[hb];exact t.1⟩),t.2.1,t.2.2.1,t.2.2.2.1.trans pm,t.2.2.2.2⟩
  ·rw[if_neg hg]
   have n1:n=1:=by lia
   have t:=JF (O:=O) (key:=key) (N:=N) lo (n:=n) (nrem:=nrem) (by lia) hz (λi j hij hj=>by
    by_cases hi':i=j
    ·subst hi';exact jZ _
    ·have e1:i=n-1:=by lia
     have e2:j=n:=by lia
     rw[e1,e2];exact nS hlt)
   exact⟨oF _ i1 (by rw[hr,if_neg (by simpa using hn),if_neg hg];exact t.1),t.2⟩
theorem NQ {p:Array Nat} (lo:Lo p N) {k:Nat} (hs:Up O key p k):∀(f l r:Nat),l<=r->r<=k->r-l<=f->(∀i,i<l->O.kle (kk O key p i) (kk O key p k))->(∀i,r<=i->i<k->O.klt (kk O key p k) (kk O key p i)) ->
  kIn (ltK O key) N (wK p k f l r)/\iU (ltK O key) (wK p k f l r)<=k/\(∀i,i<iU (ltK O key) (wK p k f l r)->O.kle (kk O key p i) (kk O key p k))/\(∀i,iU (ltK O key) (wK p k f l r)<=i->i<k->O.klt (kk O key p k) (kk O key p i))
 | 0,l,r,hlr,hrk,hf,a,b=>by
  have:l=r:=by lia
  subst this
  exact⟨trivial,hrk,a,b⟩
 | f+1,l,r,hlr,hrk,hf,a,b=>by
  simp only[wK]
  by_cases hge:l ≥ r
  ·have:l=r:=by lia
   subst this
   rw[if_pos hge]
   exact⟨trivial,hrk,a,b⟩
  ·rw[if_neg hge]
   simp only[iU,kIn]
   cases hb:ltK O key (p.getD k 0) (p.getD ((l+r) / 2) 0) with
   | true =>
    simp only[if_true]
    have t:=NQ lo hs f l ((l+r) / 2) (by lia) (by lia) (by lia) a (λi h1 h2=>KeyOrd.klt_of_klt_of_kle hb (hs _ _ h1 h2))
    exact⟨⟨lo _,lo _,t.1⟩,t.2⟩
   | false =>
    simp only[aM,if_false]
    have t:=NQ lo hs f ((l+r) / 2+1) r (by lia) hrk (by lia) (λi h1=>rM (hs i ((l+r) / 2) (by lia) (by lia)) hb) b
    exact⟨⟨lo _,lo _,t.1⟩,t.2⟩
theorem Ib:∀(f:Nat) (p:Array Nat) (k:Nat),Lo p N->k+f<=p.size->Up O key p k->kIn (ltK O key) N (TV f p k)/\(iU (ltK O key) (TV f p k)).Perm p/\Up O key (iU (ltK O key) (TV f p k)) (k+f)
 | 0,p,k,lo,hz,h=>⟨trivial,pM _,h⟩
 | f+1,p,k,lo,hz,h=>by
  simp only[TV]
  obtain⟨i1,i2,i3,i4⟩:=NQ lo h k 0 k (by lia) (by lia) (by lia) (λi hi=>absurd hi (by lia)) (λi h1 h2=>absurd h2 (by lia))
  rw[tU]
  generalize hr:iU (ltK O key) (wK p k k 0 k)=l at *
  have pm:=bubble_perm p k (k-l)
  have hb:=λi=>Fb (O:=O) (key:=key) (p:=p) (src:=k) (d:=k-l) (by lia) (by lia) i
  have up:Up O key (bubble p k (k-l)) (k+1):=by
   intro i j hij hj
   rw[hb,hb,show k-(k-l)=l by lia]
   by_cases e1:i=l
   ·rw[if_pos e1]
    by_cases e2:j=l
    ·rw[if_pos e2];exact jZ _
    ·rw[if_neg e2,if_pos (by lia)];exact nS (i4 _ (by lia) (by lia))
   ·rw[if_neg e1]
    by_cases e2:j=l
    ·rw[if_pos e2,if_neg (by lia)];exact i3 _ (by lia)
    ·rw[if_neg e2]
     by_cases e3:l<i/\i<=k
     ·rw[if_pos e3,if_pos (by lia)];exact h _ _ (by lia) (by lia)
     ·rw[if_neg e3]
      by_cases e4:l<j/\j<=k
      ·rw[if_pos e4];exact h _ _ (by lia) (by lia)
      ·rw[if_neg e4];exact h _ _ (by lia) (by lia)
  obtain⟨t1,t2,t3⟩:=Ib f (bubble p k (k-l)) (k+1) (xW pm lo) (by rw[pm.size_eq];lia) up
  refine⟨oF _ i1 (by rw[hr];exact t1),t2.trans pm,?_⟩
  rw[show k+(f+1)=k+1+f by lia];exact t3
theorem Qe {n:Nat} (h1:1<=n):kIn (ltK O key) n (AA n)/\(iU (ltK O key) (AA n)).Perm (kL (dM n))/\Up O key (iU (ltK O key) (AA n)) n:=by
 have lo:Lo (kL (dM n)) n:=by
  intro i
  by_cases hi:i<n
  ·simp[kP,hi]
  ·simp[kP,hi];lia
 unfold AA
 obtain⟨i1,i2,i3,i4,i5⟩:=Im (O:=O) (key:=key) lo (nrem:=n) h1 (by simp)
 rw[tU]
 generalize hr:iU (ltK O key) (rY n (kL (dM n)))=r at *
 have sz:r.2.size=n:=by rw[i4.size_eq];simp
 by_cases h:r.1<n
 ·have t:=Ib (O:=O) (key:=key) (N:=n) (n-max r.1 1) r.2 (max r.1 1) (xW i4 lo) (by lia) (by rw[show max r.1 1=r.1 by lia];exact i5)
  rw[if_pos h]
  refine⟨oF _ i1 (by rw[hr,if_pos h];exact t.1),t.2.1.trans i4,?_⟩
  have:=t.2.2
  rwa [show max r.1 1+(n-max r.1 1)=n by lia] at this
 ·rw[if_neg h]
  refine⟨oF _ i1 (by rw[hr,if_neg h];trivial),i4,?_⟩
  rw[show n=r.1 by lia];exact i5
end
end
section
open PySem PySem.W PySem.SetTable PyProof.Rows
def oG:List Int->List Int->Bool
 | [],[]=>false
 | [],_::_=>true
 | _::_,[]=>false
 | a::as,b::bs=>if a=b then oG as bs else decide (a<b)
theorem WT:∀a,oG a a=false
 | []=>rfl
 | a::as=>by simp only[oG,if_true];exact WT as
theorem EO:∀a b c,oG a b=true->oG b c=true->oG a c=true
 | [],[],c,h,_=>by simp[oG] at h
 | [],_::_,[],_,h=>by simp[oG] at h
 | [],_::_,_::_,_,_=>rfl
 | _::_,[],_,h,_=>by simp[oG] at h
 | _::_,_::_,[],_,h=>by simp[oG] at h
 | a::as,b::bs,c::cs,h,k=>by
  simp only[oG] at h k ⊢
  by_cases e1:a=b
  ·subst e1
   rw[if_pos rfl] at h
   by_cases e2:a=c
   ·subst e2;rw[if_pos rfl] at k ⊢;exact EO as bs cs h k
   ·rw[if_neg e2] at k ⊢;exact k
  ·rw[if_neg e1] at h
   by_cases e2:b=c
   ·subst e2;rw[if_neg e1];exact h
   ·rw[if_neg e2] at k
    simp only[decide_eq_true_eq] at h k
    rw[if_neg (by lia)]
    simp only[decide_eq_true_eq];lia
theorem EN:∀a b,oG a b=false->oG b a=false->a=b
 | [],[],_,_=>rfl
 | [],_::_,h,_=>by simp[oG] at h
 | _::_,[],_,h=>by simp[oG] at h
 | a::as,b::bs,h,k=>by
  simp only[oG] at h k
  by_cases e:a=b
  ·subst e;rw[if_pos rfl] at h k;rw[EN as bs h k]
  ·rw[if_neg e] at h;rw[if_neg (Ne.symm e)] at k
   simp only[decide_eq_false_iff_not] at h k;lia
theorem Kk (a b c:List Int) (h:oG a c=true):oG a b=true\/oG b c=true:=by
 cases h1:oG a b with
 | true=>exact cZ rfl
 | false =>
  right
  cases h2:oG b a with
  | true=>exact EO b a c h2 h
  | false=>rw[<-EN a b h1 h2];exact h
def On:KeyOrd:=⟨List Int,oG,WT,EO,Kk,EN⟩
section
variable {prog:bV} {w:dE} {A:dF} {E:aD->aG->Prop} {s:aG}
theorem int_inv {k:Int} {v:aD} (h:(intKind prog w).is k v=true):∃t,v = .int k t:=by
 cases v <;> simp[intKind,JC] at h
 exact⟨_,by rw[h]⟩
theorem Oo {fin:Bool} {Q:Bool->aG->Prop}:∀(ns ms:List Int) (vs us:List aD) (i:Nat),ItemsAre (intKind prog w) ns vs->ItemsAre (intKind prog w) ms us->fin=decide (vs.length<us.length)->Q (oG ns ms) s->KatLex prog w A true fin Q (vs.zip us) i s:=by
 intro ns
 induction ns with
 | nil =>
  intro ms vs us i h1 h2 hf q
  cases h1
  cases h2 with
  | nil=>simp at hf;subst hf;exact kat_nil q
  | cons _ _=>simp at hf;subst hf;exact kat_nil q
 | cons n ns ih =>
  intro ms vs us i h1 h2 hf q
  cases h1 with
  | cons h1 t1 =>
   cases h2 with
   | nil=>simp at hf;subst hf;exact kat_nil q
   | @cons m u ms us h2 t2 =>
    rw[mS]
    refine kat_cons ((intKind prog w).eqBool h1 h2 ?_)
    by_cases e:n=m
    ·subst e
     rw[decide_eq_true rfl]
     exact kat_yes (ih ms _ us (i+1) t1 t2 (by simpa using hf) (by simpa [oG] using q))
    ·rw[decide_eq_false e]
     obtain⟨tn,rfl⟩:=int_inv h1
     obtain⟨tm,rfl⟩:=int_inv h2
     have q':Q (decide (n<m)) s:=by simpa [oG,e] using q
     refine kat_no ?_
     cases hi:(i == 0) with
     | true=>exact oneLt_int q'
     | false=>exact kat_one _ _ (PySem.wpAny_lt_int (by exact q'))
def KeysAt (prog:bV) (w:dE) (h:Heap) (vs:List aD) (nss:List (List Int)):Prop:=vs.length=nss.length/\∀i v,vs[i]? = some v->∃a,v = .ref a/\IsTupleKey (intKind prog w) h (nss.getD i []) a
theorem NB {h:Heap}:∀(vs:List aD) (nss:List (List Int)),KeysAt prog w h vs nss->(∀ns∈nss,ns≠[])->∃fs:List aD,KatTups h vs fs/\fs.length=vs.length/\∀f∈fs,∃k t,f = .int k t
 | [],nss,_,_=>⟨[],trivial,rfl,λf hf=>by cases hf⟩
 | v::vs,nss,H,hn=>by
  match nss,H with
  | [],H=>exact absurd H.1 (by simp)
  | ns::nss,H =>
   obtain⟨a,rfl,o,items,n,ho,hc,hd,hi⟩:=H.2 0 v rfl
   obtain⟨fs,f1,f2,f3⟩:=NB vs nss ⟨by have:=H.1;simpa using this,λi v e=>H.2 (i+1) v e⟩ λms hm=>hn ms (aW _ hm)
   simp only[List.getD_cons_zero] at hi
   match ns,hi,hn ns (cF ..) with
   | [],_,h=>exact absurd rfl h
   | k::ks,hi,_ =>
    generalize e:items.toList=its at hi
    cases hi with
    | cons h1 h2 =>
     obtain⟨t,rfl⟩:=int_inv h1
     refine⟨.int k t::fs,⟨⟨a,o,items,n,rfl,ho,hc,hd,?_⟩,f1⟩,by simp[f2],λf hf=>?_⟩
     ·rw[<-jF,e];rfl
     ·rcases aK.mp hf with rfl | hf
      ·exact⟨k,t,rfl⟩
      ·exact f3 f hf
theorem KeysAt.other {h h':Heap} {vs:List aD} {nss:List (List Int)} {a:Addr} {xs:Array aD} {n:Nat} (K:KeysAt prog w h vs nss) (ho:h.get? a=some (seqObj "list" xs n)) (up:∀b o,b≠a->h.get? b=some o->h'.get? b=some o):KeysAt prog w h' vs nss:=by
 refine⟨K.1,λi v e=>?_⟩
 obtain⟨b,rfl,o,its,m,h1,h2,h3,h4⟩:=K.2 i v e
 refine⟨b,rfl,o,its,m,up b o ?_ h1,h2,h3,h4⟩
 rintro rfl
 rw[ho] at h1;cases h1
 exact absurd h2 (by simp[seqObj])
theorem range_getD {α:Type} (d:α) (xs:List α):(dM xs.length).map (λi=>xs.getD i d)=xs:=by
 apply HP (by simp)
 intro i h1 h2
 simp[h2]
theorem He {a:Addr} {vs:List aD} {nss:List (List Int)} {n:Nat} {P:PySem.Fin->aG->Prop} (ho:s.heap.get? a=some (seqObj "list" vs.toArray n)) (K:KeysAt prog w s.heap vs nss) (hn:∀ns∈nss,ns≠[]) (h64:vs.length<64)
  (q:∀h' out mss c,h'.get? a=some (seqObj "list" (kL out) c)->KeysAt prog w h' out mss->(∀v∈out,v∈vs)->mss.Perm nss->mss.Pairwise (λx y=>oG y x=false)->(∀b o,b≠a->s.heap.get? b=some o->h'.get? b=some o)->P (.done (.ret .none)) { s with heap:=h' }) :
  wpAny (model prog w) A (Builtin.«list.sort» ⟨[.ref a],[]⟩) P E s:=by
 have lt:a<s.heap.objs.size:=aU ho
 rw[list_sort_plain]
 apply aA;refine listItems_at ho rfl ?_
 apply aA;refine PN ho rfl ?_ (by rw[bD,lO];lia) (gL _)
 obtain⟨e1,ho1⟩:∃e1,(s.heap.update a (dH λ_=>(#[]:Array aD))).get? a=some (seqObj "list" #[] e1):=⟨_,KD ho λ_=>#[]⟩
 have up1:∀b o,b≠a->s.heap.get? b=some o->(s.heap.update a (dH λ_=>(#[]:Array aD))).get? b=some o:=λb o hb e=>(cE _ _ (Ne.symm hb)).trans e
 generalize s.heap.update a (dH λ_=>(#[]:Array aD))=h1 at ho1 up1
 apply aA;refine seqEpoch_at ho1 rfl ?_
 apply aA;refine AY ?_ (by show vs.length<=_;rw[lO];lia)
 apply aA;refine QI ?_ (gL _)
 apply fL
 show wpAny (model prog w) A _ P E { s with heap:=(h1.push (seqObj "tuple" vs.toArray 0)).push (seqObj "list" #[] 0) }
 have up2:∀b o,b≠a->s.heap.get? b=some o->((h1.push (seqObj "tuple" vs.toArray 0)).push (seqObj "list" #[] 0)).get? b=some o:=λb o hb e=>aN _ (aN _ (up1 b o hb e))
 have ho2:((h1.push (seqObj "tuple" vs.toArray 0)).push (seqObj "list" #[] 0)).get? a=some (seqObj "list" #[] e1):=aN _ (aN _ ho1)
 generalize (h1.push (seqObj "tuple" vs.toArray 0)).push (seqObj "list" #[] 0)=h2 at up2 ho2
 have K2:=K.other ho up2
 have fin:∀(out:List aD) (mss:List (List Int)) (st':SortSt),(arrOf st').map (·.2)=out.toArray->failedOf st'=none->KeysAt prog w h2 out mss->(∀v∈out,v∈vs)->mss.Perm nss->mss.Pairwise (λx y=>oG y x=false)->out.length<=64 ->
   wpAny (model prog w) A (do
    let sorted:=(arrOf st').map (·.2)
    let touched:=(<-seqEpoch a) != e1
    pY (.ref a) λ_=>sorted
    if let some e:=failedOf st' then rule "list.sort.comparison-raised";throw e
    if touched then rule "list.sort.modified";raiseError "ValueError" "list modified during sort"
    ret .none) P E { s with heap:=h2 }:=by
  intro out mss st' h1 hf KO hv hp hs hlen
  dsimp only
  apply aA;refine seqEpoch_at (s:={ s with heap:=h2 }) ho2 rfl ?_
  rw[h1]
  apply aA;refine PN (s:={ s with heap:=h2 }) ho2 rfl ?_ (gL _) (by show out.toArray.size<=_;rw[bD,lO];lia)
  obtain⟨c,hc⟩:∃c,(h2.update a (dH λ_=>out.toArray)).get? a=some (seqObj "list" out.toArray c):=⟨_,KD ho2 λ_=>out.toArray⟩
  have up3:∀b o,b≠a->h2.get? b=some o->(h2.update a (dH λ_=>out.toArray)).get? b=some o:=λb o hb e=>(cE _ _ (Ne.symm hb)).trans e
  generalize h2.update a (dH λ_=>out.toArray)=h3 at hc up3
  rw[hf]
  simp only[bne_self_eq_false,aM,if_false]
  exact aI (q h3 out mss c hc (KO.other ho2 up3) hv hp hs λb o hb e=>up3 b o hb (up2 b o hb e))
 have ln:=K.1
 dsimp only
 by_cases h2':vs.length<2
 ·have c2:vs.toArray.size<2:=by rw[bD];exact h2'
  rw[if_pos c2,if_pos c2]
  apply aA;apply aI
  apply aA
  show wpAny _ _ (pure ((),SortSt.mk' general' (vs.toArray.zip vs.toArray) #[] 7 none)) _ _ _
  apply aI
  refine fin vs nss _ ?_ rfl K2 (λ_ h=>h) (zJ _) ?_ (by lia)
  ·show (vs.toArray.zip vs.toArray).map (·.2)=vs.toArray
   apply Array.toList_inj.mp
   simp[HR]
  ·match nss,ln with
   | [],_=>exact nT
   | [x],_=>exact wB _ _
   | _::_::_,ln=>simp at ln;lia
 ·have c2:¬vs.toArray.size<2:=by rw[bD];exact h2'
  rw[if_neg c2,if_neg c2]
  obtain⟨fs,f1,f2,f3⟩:=NB vs nss K2 hn
  apply aA
  refine kat_kind (s:={ s with heap:=h2 }) (T:=.type "int") f1 (by lia) (λv hv=>?_) (by decide) ?_
  ·obtain⟨k,t,rfl⟩:=f3 v hv
   exact Looks.now
  have hT:(iG "int" != iG "tuple")=true:=by decide
  rw[hT]
  obtain⟨i1,i2,i3⟩:=Qe (O:=On) (key:=λi=>nss.getD i []) (n:=vs.length) (by lia)
  have psz:(iU (ltK On λi=>nss.getD i []) (AA vs.length)).size=vs.length:=by rw[i2.size_eq];simp
  generalize hp:iU (ltK On λi=>nss.getD i []) (AA vs.length)=p at i2 i3 psz
  apply aA
  refine jL (kat_run (ks:=vs) (vs:=vs) (Q:=λst' s'=>s' = { s with heap:=h2 }/\arrOf st'=p.map (kas_item (vs.toArray.zip vs.toArray))/\failedOf st'=none) (G:=λp' s'=>p'=p/\s' = { s with heap:=h2 }) rfl (by lia) h64 (λp' st' s' a1 a2 a3 a4=>⟨a4.2,by rw[a2,a4.1],a3⟩) ?_) ?_ λ_ _ e=>e
  ·refine NA (lt:=ltK On λi=>nss.getD i []) (n:=vs.length) (s:={ s with heap:=h2 }) (λi j C hi hj c=>?_) _ i1 ⟨hp,rfl⟩
   unfold kas_ask
   obtain⟨x,ex,ox,xs,nx,hx1,hx2,hx3,hx4⟩:=K2.2 i (vs.getD i gH) (by simp[hi])
   obtain⟨y,ey,oy,ys,ny,hy1,hy2,hy3,hy4⟩:=K2.2 j (vs.getD j gH) (by simp[hj])
   rw[ex,ey]
   refine kat_lt (s:={ s with heap:=h2 }) hx1 hx3 hy1 hy3 (Oo _ _ _ _ 0 hx4 hy4 (by simp) ?_)
   exact c
  ·rintro⟨⟨⟩,st'⟩ s' ⟨rfl,har,hf⟩
   have hout:=kat_snds (ks:=vs) (vs:=vs) rfl har
   refine fin (p.toList.map λi=>vs.getD i gH) (p.toList.map λi=>nss.getD i []) st' hout hf ⟨by simp,λi v e=>?_⟩ (λv hv=>?_) ?_ ?_ (by simp[psz];lia)
   ·rw[bJ] at e
    cases e2:p.toList[i]? with
    | none=>rw[e2] at e;simp at e
    | some j =>
     rw[e2] at e
     simp only[nF,qQ] at e
     have hj:j<vs.length:=by
      have m:j∈p.toList:=eY e2
      have:=(DL i2).mp (gX.mp m)
      simpa using this
     obtain⟨b,hb1,hb2⟩:=K2.2 j v (by rw[<-e];simp[hj])
     refine⟨b,hb1,?_⟩
     have g:(p.toList.map λi=>nss.getD i []).getD i []=nss.getD j []:=by
      rw[dL,bJ,e2];rfl
     rw[g];exact hb2
   ·obtain⟨j,m,rfl⟩:=cB.mp hv
    have hj:j<vs.length:=by
     have:=(DL i2).mp (gX.mp m)
     simpa using this
    simp[hj]
   ·have pl:p.toList.Perm (dM vs.length):=by simpa using i2.toList
    refine (pl.map _).trans ?_
    rw[ln,range_getD]
   ·refine nU.mpr (jE.mpr λi j hi hj hij=>?_)
    have:=i3 i j (by lia) (by simp at hj;lia)
    unfold kk at this
    simp only[cM] at hi hj
    have e1:p.getD i 0=p[i]:=by simp[kP,hi]
    have e2:p.getD j 0=p[j]:=by simp[kP,hj]
    rw[e1,e2] at this
    exact this
theorem JY {S:Addr} {es:Array (Int × aD)} {Q:aD->aG->Prop} (hh:A.handled=none) (H:SetTup prog w s.heap S es) (h64:es.size<64) {nss:List (List Int)} (hn:∀ns∈nss,ns≠[])
  (hk:∀e∈es.toList,∃ns∈nss,∃a,e.2 = .ref a/\IsTupleKey (intKind prog w) s.heap ns a)
  (q:∀h' D out mss c,s.heap.objs.size<=D->h'.get? D=some (seqObj "list" (kL out) c)->KeysAt prog w h' out mss->(∀v∈out,∃e∈es.toList,e.2=v)->(∀ns,ns∈mss↔∃e∈es.toList,∃a,e.2 = .ref a/\IsTupleKey (intKind prog w) s.heap ns a)->mss.Pairwise (λx y=>oG y x=false) ->
   mss.length=es.size->(∀b o,s.heap.get? b=some o->h'.get? b=some o)->Q (.ref D) { s with heap:=h' }) :
  wpAny (model prog w) A (call (.builtin "sorted") [.ref S]) Q E s:=by
 obtain⟨⟨ep,t,ho,T,hf,hl,hp,_⟩,els,_⟩:=H
 have wp:=IX (w:=w) S ep es
 have wl:(kC w S ep es).toList.length=es.size:=by rw[wp.length_eq,cM]
 refine Calls.call_function_entry kind_sorted plain_sorted entry_sorted (args_sorted1 _) ?_
 unfold Builtin.«sorted»
 refine aA (m:=checkCount "sorted" 1 1 _) (aI ?_)
 apply aA;refine VF (A:=A.in1) (by simp[hh]) ho T hl hp (by lia) λh1 k1 big=>?_
 apply aA;refine QI ?_ (by rw[cI,wl,lO];lia)
 show wpAny _ _ _ _ _ { s with heap:=h1.push (seqObj "list" (kL ((kC w S ep es).toList.map (·.2))) 0) }
 have hL:(h1.push (seqObj "list" (kL ((kC w S ep es).toList.map (·.2))) 0)).get? h1.objs.size=some (seqObj "list" (kL ((kC w S ep es).toList.map (·.2))) 0):=bI _ rfl
 have k2:∀b o,s.heap.get? b=some o->(h1.push (seqObj "list" (kL ((kC w S ep es).toList.map (·.2))) 0)).get? b=some o:=λb o e=>aN _ (k1 b o e)
 generalize h1.push (seqObj "list" (kL ((kC w S ep es).toList.map (·.2))) 0)=h2 at hL k2
 have ex:∀(i:Nat) (v:aD),((kC w S ep es).toList.map (·.2))[i]? = some v->∃ns∈nss,∃a,v = .ref a/\IsTupleKey (intKind prog w) s.heap ns a:=by
  intro i v e
  rw[bJ] at e
  cases e2:(kC w S ep es).toList[i]? with
  | none=>rw[e2] at e;simp at e
  | some x =>
   rw[e2] at e
   simp only[nF,qQ] at e
   have m:x∈es.toList:=wp.mem_iff.mp (eY e2)
   obtain⟨ns,h1,a,h2,h3⟩:=hk x m
   exact⟨ns,h1,a,by rw[<-e];exact h2,h3⟩
 obtain⟨kss,kl,kk⟩:∃kss:List (List Int),kss.length=((kC w S ep es).toList.map (·.2)).length/\∀(i:Nat) (v:aD),((kC w S ep es).toList.map (·.2))[i]? = some v->kss.getD i []∈nss/\∃a,v = .ref a/\IsTupleKey (intKind prog w) s.heap (kss.getD i []) a:=by
  generalize ((kC w S ep es).toList.map (·.2))=vs at ex
  clear hL
  induction vs with
  | nil=>exact⟨[],rfl,λi v e=>by simp at e⟩
  | cons v vs ih =>
   obtain⟨kss,k1,k2⟩:=ih λi v e=>ex (i+1) v (by simpa using e)
   obtain⟨ns,h1,a,h2,h3⟩:=ex 0 v rfl
   refine⟨ns::kss,by simp[k1],λi u e=>?_⟩
   cases i with
   | zero=>simp at e;subst e;exact⟨h1,a,h2,h3⟩
   | succ i=>exact k2 i u (by simpa using e)
 have KA:KeysAt prog w h2 ((kC w S ep es).toList.map (·.2)) kss:=by
  refine⟨kl.symm,λi v e=>?_⟩
  obtain⟨_,a,h1,o,its,m,g1,g2⟩:=kk i v e
  exact⟨a,h1,o,its,m,k2 _ _ g1,g2⟩
 have kmem:∀ns,ns∈kss↔∃e∈es.toList,∃a,e.2 = .ref a/\IsTupleKey (intKind prog w) s.heap ns a:=by
  intro ns
  constructor
  ·intro h
   obtain⟨i,hi,e⟩:=eQ h
   have hi':i<((kC w S ep es).toList.map (·.2)).length:=by lia
   obtain⟨_,a,h1,h2⟩:=kk i _ (aF hi')
   have g:kss.getD i []=ns:=by simp[hi,e]
   rw[g] at h2
   simp only[List.getElem_map] at h1
   exact⟨_,wp.mem_iff.mp (oP _),a,h1,h2⟩
  ·rintro⟨e,he,a,h1,h2⟩
   obtain⟨i,hi,e'⟩:=eQ (wp.mem_iff.mpr he)
   obtain⟨_,b,g1,g2⟩:=kk i e.2 (by rw[bJ,aF hi,e'];rfl)
   rw[h1] at g1;cases g1
   have:=g2.inj h2
   rw[<-this]
   have hi':i<kss.length:=by rw[kl];simpa using hi
   simp[hi']
 refine aA (fL (iE slot_list_sort ⟨_,hL,rfl⟩ entry_list_sort ?body (args_list_sort _)))
 case body =>
  refine He (s:={ s with heap:=h2 }) hL KA (λns h=>?_) (by rw[cI,wl];exact h64) λh3 out mss c g1 g2 g3 g4 g5 g6=>?_
  ·obtain⟨e,he,a,e1,e2⟩:=(kmem ns).mp h
   obtain⟨ms,m1,b,e3,e4⟩:=hk e he
   rw[e1] at e3;cases e3
   rw[e2.inj e4];exact hn ms m1
  ·refine⟨_,rfl,aI ⟨_,rfl,q h3 h1.objs.size out mss c big g1 g2 (λv hv=>?_) (λns=>(g4.mem_iff).trans (kmem ns)) g5 ?_ λb o e=>?_⟩⟩
   ·obtain⟨e,he,rfl⟩:=cB.mp (g3 v hv)
    exact⟨e,wp.mem_iff.mp he,rfl⟩
   ·rw[g4.length_eq,kl,cI,wl]
   ·have:=aU e
    exact g6 b o (by intro z;simp only[Addr] at *;lia) (k2 b o e)
end
end
section
open PySem PySem.W PyProof.Rows
theorem Ae:typeLookup (.type "list_reverseiterator") "__len__" = pure none:=by rw[pQ,lC];kernel_rfl
theorem Kn:typeLookup (.type "list_reverseiterator") "__length_hint__" = pure (some (.builtin "list_reverseiterator.__length_hint__")):=by rw[pQ,lC];kernel_rfl
theorem US:isSubtype (.type "list_reverseiterator") (.type "list_reverseiterator")=pure true:=by rw[MZ];kernel_rfl
section
variable {prog:bV} {w:dE} {A:dF} {E:aD->aG->Prop} {s:aG}
theorem Lz {I:Addr} {Q:Bool->aG->Prop} (ty:s.TypeIs (.ref I) "list_reverseiterator") (q:Q false s):wpAny (model prog w) A (iV (.ref I)) Q E s:=by
 unfold iV
 apply aA;refine nH ty Ae ?_
 show wpAny _ _ (specialOf (fP I) (lM "__length_hint__") >>= _) _ _ _
 apply aA;refine nH ty Kn ?_
 dsimp only
 have sp:splitId "list_reverseiterator.__length_hint__" = some ("list_reverseiterator","__length_hint__"):=by decide +kernel
 rw[sp]
 dsimp only
 apply aA;refine sF (b:=true) ty US ?_
 simp only[fR,aM,if_false]
 have key:∀(c:Bool) (X Y:Sem Bool),c=true->wpAny (model prog w) A X Q E s->wpAny (model prog w) A (if c=true then X else Y) Q E s:=λc X Y hc h=>by rw[if_pos hc];exact h
 refine key _ _ _ (by decide +kernel) ?_
 rw[if_neg (by decide +kernel)]
 exact aI q
theorem OY {I l:Addr} {items:Array aD} {Q:aD->aG->Prop} (hh:A.handled=none) (ne:l≠I) (hz:items.size<=sizeLine) (hi:s.heap.IsRevIter I l ((items.size:Int)-1)) (hl:s.heap.IsList l items)
  (q:∀h' c,h'.get? s.heap.objs.size=some (seqObj "list" items.toList.reverse.toArray c)->(∀b o,b≠I->s.heap.get? b=some o->h'.get? b=some o)->Q (.ref s.heap.objs.size) { s with heap:=h' }) :
  wpAny (model prog w) A (call (.type "list") [.ref I]) Q E s:=by
 have ltI:I<s.heap.objs.size:=by obtain⟨o,e,_⟩:=hi;exact aU e
 have ltl:l<s.heap.objs.size:=by obtain⟨o,e,_⟩:=hl;exact aU e
 refine MJ (Q₁:=λobj s₁=>obj = .ref s.heap.objs.size/\s₁ = { s with heap:=s.heap.push { cls:=.type "list",data:=.seq #[] } }) F.called_list (F.typeCall_list_1 _) F.entry_list_init (PH _ ⟨rfl,rfl⟩) λobj s₁ h₁=>?_
 obtain⟨rfl,rfl⟩:=h₁
 have hS:(s.heap.push { cls:=.type "list",data:=.seq #[] }).get? s.heap.objs.size=some { cls:=.type "list",data:=.seq #[] }:=bI _ rfl
 refine⟨⟨_,hS,rfl⟩,F.args_list_init_2 _ _,?_⟩
 show wpAny _ _ (do let old <-mL (.ref s.heap.objs.size);pY (.ref s.heap.objs.size) (λ_=>#[]);letGo old.toList.reverse;fI (.ref s.heap.objs.size) (.ref I) .none) _ _ _
 apply aA;unfold mL
 apply aA;apply eO hS rfl;apply aI
 show wpAny _ _ (updateSeq s.heap.objs.size (λ_=>#[]) >>= λ_=>letGo (#[]:Array aD).toList.reverse >>= λ_=>fI (.ref s.heap.objs.size) (.ref I) .none) _ _ _
 apply aA;refine gC hS rfl ?_
 have hS2:=dQ (dH (λ_=>(#[]:Array aD))) hS rfl
 have up2:∀b o,b≠s.heap.objs.size->s.heap.get? b=some o->((s.heap.push { cls:=.type "list",data:=.seq #[] }).update s.heap.objs.size (dH (λ_=>(#[]:Array aD)))).get? b=some o :=
  λb o hb e=>(cE _ _ (Ne.symm hb)).trans (aN _ e)
 generalize (s.heap.push { cls:=.type "list",data:=.seq #[] }).update s.heap.objs.size (dH (λ_=>(#[]:Array aD)))=h2 at hS2 up2
 apply aA;apply jD
 have neI:I≠s.heap.objs.size:=bH ltI
 have nel:l≠s.heap.objs.size:=bH ltl
 have hi2:h2.IsRevIter I l ((items.size:Int)-1):=hi.at λo e=>up2 _ o neI e
 have hl2:h2.IsList l items:=hl.at λo e=>up2 _ o nel e
 unfold fI
 apply aA;refine rA (T:="list_reverseiterator") hi2.typeIs ?_
 have g1:iJ (.ref s.heap.objs.size) (.ref I)=false:=by simp[iJ,eB ltI]
 have g2:(iG "list_reverseiterator" == iG "list")=false:=by decide
 have g3:(iG "list_reverseiterator" == iG "tuple")=false:=by decide
 simp only[g1,g2,g3,vJ,aM,if_false]
 apply aA;refine wpAny_pyIter_revIter hi2 ?_
 apply aA;apply fL;refine Lz hi2.typeIs ?_
 have key:∀(c:Bool) (X Y:Sem Fin) {Q':Fin->aG->Prop} {E':aD->aG->Prop} {s':aG} {A':dF},c=false->wpAny (model prog w) A' Y Q' E' s'->wpAny (model prog w) A' (if c=true then X else Y) Q' E' s':=λc X Y _ _ _ _ hc h=>by rw[hc,if_neg cJ];exact h
 refine key _ _ _ (by decide +kernel) ?_
 apply aI;refine⟨gJ iF _,?_⟩
 refine MR (s0:=s) (n:=items.size) (J:=λacc h=>h.IsRevIter I l ((items.size:Int)-1-(acc.length:Int))/\h.IsList l items/\acc=items.toList.reverse.take acc.length/\∀b o,b≠I->b≠s.heap.objs.size->s.heap.get? b=some o->h.get? b=some o)
  (F:=λacc h=>acc=items.toList.reverse/\∀b o,b≠I->b≠s.heap.objs.size->s.heap.get? b=some o->h.get? b=some o) .none hz ?_ ?_ ?_ (λh' acc c hsz hF hS'=>⟨rfl,?_⟩) items.size #[] h2 _ rfl (gL _) ?_ hS2
 ·rintro acc h h' ⟨J1,J2,J3,J4⟩ hSo hz up
  exact⟨J1.at λo e=>up _ o neI e,J2.at λo e=>up _ o nel e,J3,λb o n1 n2 e=>up b o n2 (J4 b o n1 n2 e)⟩
 ·rintro acc s' o Q' E' hlt ⟨J1,J2,J3,J4⟩ hSo k
  have e:items[items.size-1-acc.length]? = some (items[items.size-1-acc.length]'(by lia)):=aZ _
  refine wpAny_pyNext_rev_item (i:=items.size-1-acc.length) (by rw[show ((items.size-1-acc.length:Nat):Int)=(items.size:Int)-1-(acc.length:Int) by lia];exact J1) J2 e λh' it' sb=>k _ h' ⟨?_,J2.at λo e=>?_,?_,λb o n1 n2 e=>?_⟩ ?_
  ·rw[show ((items.size-1-acc.length:Nat):Int)-1=(items.size:Int)-1-((acc++[items[items.size-1-acc.length]'(by lia)]).length:Int) by simp;lia] at it'
   exact it'
  ·rw[sb.2 _ ne];exact e
  ·rw[dI,rE,mD,<-J3]
   congr 1
   rw[aF (by simp;lia),List.getElem_reverse]
   simp
  ·rw[sb.2 b n1];exact J4 b o n1 n2 e
  ·rw[sb.2 _ (Ne.symm neI)];exact hSo
 ·rintro acc s' o Q' E' hlen ⟨J1,J2,J3,J4⟩ hSo k
  rw[hlen] at J3
  refine wpAny_pyNext_rev_end (l:=l) (by simp[hh]) (by rw[show (-1:Int)=(items.size:Int)-1-(acc.length:Int) by lia];exact J1) λh' eb=>k h' ⟨?_,λb o n1 n2 e=>eb b o n1 (J4 b o n1 n2 e)⟩ (eb _ _ (Ne.symm neI) hSo)
  rw[J3,mQ]
  simp
 ·exact⟨by simpa using hi2,hl2,rfl,λb o _ n2 e=>up2 b o n2 e⟩
 ·refine q h' c ?_ λb o n1 e=>hF.2 b o n1 (bH (aU e)) e
  rw[hS',<-hF.1]
end
end
section
open PySem PySem.Spec PyProof.Rows L2
theorem boot_sorted:bootBuiltins "sorted" = some (.builtin "sorted"):=by decide +kernel
theorem boot_set:bootBuiltins "set" = some (.type "set"):=by decide +kernel
theorem WL {prog:bV} {w:dE}:∀{ns:List Int} {us:List aD},Vals (ns.map V.int) us->ItemsAre (intKind prog w) ns us
 | [],_,h=>by cases h;exact .nil
 | n::ns,_,h=>by
  cases h with
  | cons h1 t =>
   obtain⟨t',rfl⟩:=h1
   exact .cons (intKind_is _ _ _ _) (WL t)
def NX (te:RE):RA:=λρ Q=>te ρ λx=>∃nss:List (List Int),x = .lst (nss.map nQ)/\nss.length<64/\(∀ns∈nss,ns≠[])/\∀mss:List (List Int),mss.Pairwise (λx y=>oG y x=false)->(∀ns,ns∈mss↔ns∈nss)->mss.length<=nss.length->Q (mss.map nQ)
def NW (te:RE):RA:=λρ Q=>te ρ λx=>∃ds:List D,x = .lst ds/\Q ds.reverse
theorem YB {K:aH} {H:Hp}:∀(out:List aD) (mss:List (List Int)),out.length=mss.length->(∀(i:Nat) (v:aD),out[i]? = some v->∃a,v = .ref a/\H a=some (.tup ((mss.getD i []).map V.int)))->∃ws:List V,Vals ws out/\Reps K H (mss.map nQ) ws
 | [],[],_,_=>⟨[],.nil,.nil⟩
 | [],_::_,h,_=>by simp at h
 | _::_,[],h,_=>by simp at h
 | v::out,ms::mss,h,k=>by
  obtain⟨ws,h1,h2⟩:=YB (K:=K) (H:=H) out mss (by simpa using h) λi v e=>k (i+1) v (by simpa using e)
  obtain⟨a,rfl,ha⟩:=k 0 v rfl
  exact⟨.ref a::ws,.cons rfl h1,.cons (.tup ha Reps.ints) h2⟩
section
variable {X:Cx} {e:Expr} {te:RE} {p pz pos posz:Pos}
theorem ZH {k:Nat} (hr:Room k X.A) (hms:X.mg "sorted" = none) (hmz:X.mg "set" = none) (hc:X.calm=true) (h:DB X e te) (hgs:Gl X "sorted":=by rfl) (hgz:Gl X "set":=by rfl)
  (hs:starEach [.Call (.Name "set" pz) [e] [] posz] X.env=[(false,eval (.Call (.Name "set" pz) [e] [] posz) X.env)]:=by rfl) (hn:starEach [] X.env=[]:=by rfl) (h1:starEach [e] X.env=[(false,eval e X.env)]:=by rfl) :
  DO X (.Call (.Name "sorted" p) [.Call (.Name "set" pz) [e] [] posz] [] pos) (NX te):=by
 intro pins s σ H Q I hh_0
 obtain⟨ρ,P,st,q,kq⟩:=hh_0
 refine hU (vQ I hgs hms boot_sorted ?_)
 refine rQ ?_ (by rw[hs,hn]) (by rw[hn];rfl)
 rw[hs]
 show wpAny _ _ (spliced ((false,eval (.Call (.Name "set" pz) [e] [] posz) X.env)::backTo pos [])) _ _ s
 refine pS (hU (vQ I hgz hmz boot_set ?_))
 refine fY (thn (vS h h1 hn posz pins s σ H (λvs H1=>∃(nss:List (List Int)) (v:V),vs=[v]/\Same H H1/\RepB X.K H1 (.lst (nss.map nQ)) v/\nss.length<64/\(∀ns∈nss,ns≠[])/\∀mss:List (List Int),mss.Pairwise (λx y=>oG y x=false)->(∀ns,ns∈mss↔ns∈nss)->mss.length<=nss.length->P (mss.map nQ)) I
  ⟨ρ,_,st,q,λx v H1 hx s1 r1=>?_⟩) λus s1 ⟨vs,H1,I1,r1,q1⟩=>?_) (by rw[h1,hn]) (by rw[hn];rfl)
 ·obtain⟨nss,rfl,a1,a2,a3⟩:=hx
  exact⟨nss,v,rfl,s1,r1,a1,a2,a3⟩
 obtain⟨nss,v,rfl,s01,rb,h64,hne,hP⟩:=q1
 obtain⟨l,vs,rfl,hq,rr⟩:=rb.lst
 obtain⟨u,rfl,rx⟩:=vals1 r1
 cases rx
 obtain⟨its,rv,pl,hz⟩:=I1.list hq
 have l1:=rr.length
 have l2:=rv.length
 rw[cI] at l1
 have each:∀(i:Nat) (u:aD),its[i]? = some u->∃ns a,nss[i]? = some ns/\vs[i]? = some (.ref a)/\u = .ref a/\IsTupleKey (intKind X.prog X.w) s1.heap ns a:=λi u e=>by
  have hi:i<nss.length:=by have:=(aX.mp e).1;lia
  obtain⟨v,e1,e2⟩:=rr.get (i:=i) (d:=nQ nss[i]) (by rw[bJ,aF hi];rfl)
  obtain⟨a,rfl,ha⟩:=Reps.tupI_inv e2
  obtain⟨u',f1,f2⟩:=rv.get e1
  rw[e] at f1;cases f1
  cases f2
  obtain⟨ts,g1,g2,_⟩:=I1.tuple (SqT.of (K:=X.K) ha)
  obtain⟨o,go,gc,n,gd⟩:=g2
  exact⟨_,a,aF hi,e1,rfl,o,ts.toArray,n,go,gc,gd,by simpa using WL g1⟩
 have hu:=hr.un
 refine PC (key:=λi=>nss.getD i []) (I1.ok.hd hc) (by lia) pl.isList (λi u e=>?_) (by simp;lia) λh2 tk D up=>?_
 ·obtain⟨ns,a,n1,_,rfl,hk⟩:=each i u (by simpa using e)
  refine⟨a,rfl,?_⟩
  have:nss.getD i []=ns:=by rw[dL,n1];rfl
  rw[this];exact hk
 refine qG ?_
 obtain⟨es,ST,d1,d2,d3⟩:=D
 have keyAt:∀{ns:List Int} {a:Addr},IsTupleKey (intKind X.prog X.w) s1.heap ns a->IsTupleKey (intKind X.prog X.w) h2 ns a:=λ⟨o,its,n,g1,g2⟩=>⟨o,its,n,up _ _ g1,g2⟩
 have elem:∀e∈es.toList,∃(i:Nat) (ns:List Int) (a:Addr),nss[i]? = some ns/\vs[i]? = some (.ref a)/\e.2 = .ref a/\IsTupleKey (intKind X.prog X.w) h2 ns a:=λe he=>by
  obtain⟨j,hj,ej⟩:=d1 e he
  obtain⟨ns,a,n1,n2,n3,hk⟩:=each j e.2 (by simpa using ej)
  exact⟨j,ns,a,n1,n2,n3,keyAt hk⟩
 refine JY (s:={ s1 with heap:=h2,toks:=tk }) (A:=X.A) (I1.ok.hd hc) ST (by simp at d3;lia) (nss:=nss) hne (λe he=>?_) λh3 Dd out mss c big g1 g2 g3 g4 g5 g6 up3=>?_
 ·obtain⟨i,ns,a,n1,n2,n3,hk⟩:=elem e he
  exact⟨ns,eY n1,a,n3,hk⟩
 have kp:∀b o,s1.heap.get? b=some o->h3.get? b=some o:=λb o e=>up3 b o (up b o e)
 have I3:Inv X pins σ H1 { s1 with heap:=h3,toks:=tk }:=I1.kept kp
 have szS:s1.heap.objs.size<h2.objs.size:=by obtain⟨⟨ep,t,ho,_⟩,_⟩:=ST;exact aU ho
 have big2:s1.heap.objs.size<=Dd:=by have:h2.objs.size<=Dd:=big;lia
 have hS0:H1 Dd=none:=I1.hok.fresh big2
 have tupAt:∀{i:Nat} {ns:List Int} {a:Addr},nss[i]? = some ns->vs[i]? = some (.ref a)->H1 a=some (.tup (ns.map V.int)):=λ{i ns a} n1 n2=>by
  obtain⟨w,f1,f2⟩:=rr.get (i:=i) (d:=nQ ns) (by rw[bJ,n1];rfl)
  rw[n2] at f1;cases f1
  obtain⟨b,e,hb⟩:=Reps.tupI_inv f2
  cases e;exact hb
 obtain⟨ws,VV,RR⟩:=YB (K:=X.K) (H:=H1) out mss g2.1 λi v e=>by
  obtain⟨x,hx,ex⟩:=g3 v (eY e)
  obtain⟨j,ns,a,n1,n2,n3,hk⟩:=elem x hx
  obtain⟨b,eb,hb⟩:=g2.2 i v e
  rw[<-ex,n3] at eb;cases eb
  refine⟨a,by rw[<-ex,n3],?_⟩
  have hk3:IsTupleKey (intKind X.prog X.w) h3 ns a:=by obtain⟨o,its,n,q1,q2⟩:=hk;exact⟨o,its,n,up3 _ _ q1,q2⟩
  rw[hb.inj hk3]
  exact tupAt n1 n2
 have lo:out.length<=64:=by rw[g2.1,g6];simp at d3;lia
 have lw:=VV.length
 have I4:=I1.trackO (a:=Dd) (w:=.lst ws) I3 big2 hS0 ⟨by rw[lO];lia,out,c,VV,g1⟩
 refine⟨.ref Dd,_,I4,rfl,kq _ _ _ H1 (hP mss g5 (λns=>?_) (by rw[g6];simp at d3;lia)) s01 hS0 RR⟩
 rw[g4 ns]
 constructor
 ·rintro⟨x,hx,a,e1,e2⟩
  obtain⟨j,ms,b,n1,n2,n3,hk⟩:=elem x hx
  rw[e1] at n3;cases n3
  rw[e2.inj hk];exact eY n1
 ·intro h
  obtain⟨j,hj,rfl⟩:=eQ h
  obtain⟨y,hy,b,e1,e2⟩:=d2 j (by simp;lia)
  refine⟨y,hy,b,e1,?_⟩
  have:nss.getD j []=nss[j]:=by simp[hj]
  rw[this] at e2;exact e2
theorem ZG (hml:X.mg "list" = none) (hmz:X.mg "reversed" = none) (hc:X.calm=true) (h:DB X e te) (hgl:Gl X "list":=by rfl) (hgz:Gl X "reversed":=by rfl)
  (hs:starEach [.Call (.Name "reversed" pz) [e] [] posz] X.env=[(false,eval (.Call (.Name "reversed" pz) [e] [] posz) X.env)]:=by rfl) (hn:starEach [] X.env=[]:=by rfl) (h1:starEach [e] X.env=[(false,eval e X.env)]:=by rfl) :
  DO X (.Call (.Name "list" p) [.Call (.Name "reversed" pz) [e] [] posz] [] pos) (NW te):=by
 intro pins s σ H Q I hh_0
 obtain⟨ρ,P,st,q,kq⟩:=hh_0
 refine hU (vQ I hgl hml boot_list ?_)
 refine fY ?_ (by rw[hs,hn]) (by rw[hn];rfl)
 rw[hs]
 show wpAny _ _ (spliced ((false,eval (.Call (.Name "reversed" pz) [e] [] posz) X.env)::backTo pos [])) _ _ s
 refine pS (hU (vQ I hgz hmz boot_reversed ?_))
 refine fY (thn (vS h h1 hn posz pins s σ H (λvs H1=>∃(ds:List D) (v:V),vs=[v]/\Same H H1/\RepB X.K H1 (.lst ds) v/\P ds.reverse) I
  ⟨ρ,_,st,q,λx v H1 hx s1 r1=>?_⟩) λus s1 ⟨vs,H1,I1,r1,q1⟩=>?_) (by rw[h1,hn]) (by rw[hn];rfl)
 ·obtain⟨ds,rfl,a1⟩:=hx
  exact⟨ds,v,rfl,s1,r1,a1⟩
 obtain⟨ds,v,rfl,s01,rb,hP⟩:=q1
 obtain⟨l,vs,rfl,hq,rr⟩:=rb.lst
 obtain⟨u,rfl,rx⟩:=vals1 r1
 cases rx
 obtain⟨its,rv,pl,hz⟩:=I1.list hq
 have l1:=rr.length
 have l2:=rv.length
 have lt:l<s1.heap.objs.size:=by obtain⟨o,e,_⟩:=pl.isList;exact aU e
 refine call_reversed_list pl.isList ?_
 refine qG ?_
 have g0:(s1.heap.push (revObj l ((its.toArray.size:Int)-1))).get? s1.heap.objs.size=some (revObj l ((its.toArray.size:Int)-1)):=bI _ rfl
 have k1:∀b o,s1.heap.get? b=some o->(s1.heap.push (revObj l ((its.toArray.size:Int)-1))).get? b=some o:=λb o e=>aN _ e
 have z1:(s1.heap.push (revObj l ((its.toArray.size:Int)-1))).objs.size=s1.heap.objs.size+1:=gD ..
 generalize s1.heap.push (revObj l ((its.toArray.size:Int)-1))=h2 at g0 k1 z1
 refine OY (s:={ s1 with heap:=h2 }) (A:=X.A) (l:=l) (I1.ok.hd hc) (bH lt) (by simp;lia) ⟨_,g0,rfl,rfl⟩ (pl.isList.at λo e=>k1 _ o e) λh3 c g1 up=>?_
 show EP X pins σ Q (.ref h2.objs.size) _
 rw[show (lK { s1 with heap:=h2 }).objs.size=s1.heap.objs.size+1 from z1] at g1
 rw[z1]
 have kp:∀b o,s1.heap.get? b=some o->h3.get? b=some o:=λb o e=>up b o (bH (aU e)) (k1 b o e)
 have I3:Inv X pins σ H1 { s1 with heap:=h3 }:=I1.kept (t':=s1.toks) kp
 have hS0:H1 (s1.heap.objs.size+1)=none:=I1.hok.fresh (Nat.le_succ _)
 have VV:Vals vs.reverse its.reverse:=by
  clear hq pl hz l1 l2 rr g1 g0
  induction rv with
  | nil=>exact .nil
  | cons r t ih =>
   simp only[uW]
   exact Vals.append ih (.cons r .nil)
 have I4:=I1.trackO (a:=s1.heap.objs.size+1) (w:=.lst vs.reverse) I3 (Nat.le_succ _) hS0 ⟨by simp;lia,its.reverse,c,VV,by simpa using g1⟩
 exact⟨.ref (s1.heap.objs.size+1),_,I4,rfl,kq _ _ _ H1 hP s01 hS0 rr.reverse⟩
end
section
variable {X:Cx} {tg:Expr}
def Xe (lo:Int) (n:Nat):List D:=(dM n).map λk:Nat=>D.int (lo+(k:Int)*2)
structure StpOk (j:Int):Prop where
 lo:-(2 ^ 60)<=j
 hi:j<2 ^ 60
def Uf (t:RA):RA:=λρ Q=>t ρ λds=>match ds with
 | [.int i,.int j,.int c]=>(StpOk i/\StpOk j/\c=2)/\Q (Xe i ((j-i+1) / 2).toNat)
 | _=>False
end
end
end L2.R2
namespace L2
open PySem PySem.Spec PyProof.Rows
section
variable {κ:Type} [DecidableEq κ]
def Bq (kvs:List (κ × V)) (k:κ):Option V:=(kvs.find? λkv=>decide (kv.1=k)).map (·.2)
theorem YL {p:κ × V} {r:List (κ × V)} {k:κ} (e:p.1=k):Bq (p::r) k=some p.2:=by simp[Bq,mZ,e]
theorem YK {p:κ × V} {r:List (κ × V)} {k:κ} (e:¬p.1=k):Bq (p::r) k=Bq r k:=by simp[Bq,mZ,e]
theorem RelO.getD {o:Option V} {u:Option aD} {d:V} {d':aD} (r:RelO o u) (rd:RelV d d'):RelV (o.getD d) (u.getD d'):=by
 cases o with
 | none=>cases u with
  | none=>exact rd
  | some _=>exact (show False from r).elim
 | some _=>cases u with
  | none=>exact (show False from r).elim
  | some _=>exact r
theorem KV.val {kvs:List (κ × V)} {vs:List (κ × aD)} (r:KV kvs vs) (k:κ):RelO (Bq kvs k) (valueAt vs k):=by
 unfold KV at r
 induction r with
 | nil=>exact rR
 | @cons p q ps qs h t ih =>
  obtain⟨h1,h2⟩:=h
  by_cases e:p.1=k
  ·have e':q.1=k:=h1.symm.trans e
   have b:valueAt (q::qs) k=some q.2:=by simp[valueAt,mZ,e']
   rw[YL e,b];exact h2
  ·have e':¬q.1=k:=λz=>e (h1.trans z)
   have b:valueAt (q::qs) k=valueAt qs k:=by simp[valueAt,mZ,e']
   rw[YK e,b];exact ih
end
abbrev KT (H:Hp):List (List Key × V)->List (List Key × Addr × aD)->Prop:=Paired λp q=>p.1=q.1/\H q.2.1=some (.tup (p.1.map kV))/\RelV p.2 q.2.2
theorem KT.val {H:Hp} {kvs:List (List Key × V)} {xs:List (List Key × Addr × aD)} (r:KT H kvs xs) (k:List Key):RelO (Bq kvs k) ((atKey xs k).map (·.2)):=by
 induction r with
 | nil=>exact rR
 | @cons p q ps qs h t ih =>
  obtain⟨h1,_,h2⟩:=h
  by_cases e:p.1=k
  ·have e':q.1=k:=h1.symm.trans e
   have b:atKey (q::qs) k=some q.2:=by simp[atKey,mZ,e']
   rw[YL e,b];exact h2
  ·have e':¬q.1=k:=λz=>e (h1.trans z)
   have b:atKey (q::qs) k=atKey qs k:=by simp[atKey,mZ,e']
   rw[YK e,b];exact ih
section
variable {P:bV} {w:dE} {H:Hp} {h:Heap} {a:Addr}
end
section
variable {X:Cx} {pins:List (Addr × Obj)} {σ:St} {H:Hp} {s:aG} {a:Addr} {y v:V} {u r:aD} {o:Option V} {A:dF} {E:aD->aG->Prop}
end
section
variable {X:Cx} {pins:List (Addr × Obj)} {σ:St} {H:Hp} {s:aG} {a:Addr} {kvs:List (Key × V)} {k:Key} {u:aD} {A:dF} {E:aD->aG->Prop}
end
section
variable {X:Cx} {o i e value:Expr} {pos pos' tpos:Pos} {td ty tv:TE}
end
section
variable {X:Cx} {pos:Pos}
end
abbrev VV:List (V × V)->List (aD × aD)->Prop:=Paired λp q=>RelV p.1 q.1/\RelV p.2 q.2
section
variable {X:Cx} {pins:List (Addr × Obj)} {σ:St} {H:Hp} {s:aG} {a:Addr} {y d:V} {u r:aD} {o:Option V} {A:dF} {E:aD->aG->Prop}
end
section
variable {X:Cx} {o e f:Expr} {apos cpos:Pos} {td ty tx:TE}
end
section
variable {X:Cx} {pins:List (Addr × Obj)} {σ:St} {H:Hp} {s:aG} {a:Addr} {kvs:List (Key × V)} {A:dF} {E:aD->aG->Prop}
end
section
variable {X:Cx} {pins:List (Addr × Obj)} {σ:St} {H:Hp} {s:aG} {a:Addr} {y:V} {u:aD} {A:dF} {E:aD->aG->Prop}
end
end L2
namespace L2.R2
section
open PySem PySem.Spec PyProof.Rows L2
section
variable {X:Cx}
end
def Wm:List (Int × List D)->Int->List (Int × List D)
 | [],k=>[(k,[])]
 | (k',ds)::r,k=>if k'=k then (k',ds)::r else (k',ds)::Wm r k
def putL:List (Int × List D)->Int->D->List (Int × List D)
 | [],k,d=>[(k,[d])]
 | (k',ds)::r,k,d=>if k'=k then (k',ds++[d])::r else (k',ds)::putL r k d
section
variable {K:aH} {H₀ H H':Hp} {kvs:List (Int × List D)} {kws:List (Key × V)} {as:List Addr} {k:Int}
end
section
variable {X:Cx} {e k:Expr} {pos pos' p apos cpos npos spos dpos lpos:Pos} {te tk:RE} {x:Str}
def Wq (i:Nat):RS:=λE ρ=>E.nx (ρ.set i (some (.dcl [])))
def rDApp (i:Nat) (tk te:RE):RS:=λE ρ=>match ρ[i]? with
 | some (some (.dcl kvs))=>tk ρ λkd=>match kd with
  | .int k=>Sz (kvs.length+1)/\te (ρ.set i (some (.dcl (Wm kvs k)))) λd=>(∀p∈kvs,Sz (p.2.length+1))/\E.nx (ρ.set i (some (.dcl (putL kvs k d))))
  | _=>False
 | _=>False
def Jf:List Int->List D->Int->Option D
 | k'::ks,d::ds,k=>if k'=k then some d else Jf ks ds k
 | _,_,_=>none
def dKey:R22:=λx y Q=>match x,y with
 | .dct ks ds,.int k=>∃d,Jf ks ds k=some d/\Q d
 | _,_=>False
end
end
section
open PySem PySem.Spec PyProof.Rows L2 PySem.W
theorem BN:∀{ns:List Int} {us:List aD},IntsAre us ns->Vals (ns.map V.int) us
 | [],[],_=>.nil
 | n::ns,u::us,h=>by
  cases h with
  | cons _ t h=>exact .cons ⟨_,rfl⟩ (BN h)
def Yr (te:RE):RA:=λρ Q=>te ρ λx=>∃ns:List Int,x = .lst (ns.map .int)/\ns.length<64/\∀ms:List Int,ms.Perm ns->ms.Pairwise (·<=·)->Q (ms.map .int)
def Yt (te:RE):RA:=λρ Q=>te ρ λx=>∃nss:List (List Int),x = .lst (nss.map nQ)/\nss.length<64/\(∀ns∈nss,ns≠[])/\∀mss:List (List Int),mss.Perm nss->mss.Pairwise (λx y=>oG y x=false)->Q (mss.map nQ)
def Yk (te:RE):RA:=λρ Q=>te ρ λx=>∃(ks:List Int) (ds:List D),x = .dct ks ds/\ks.length=ds.length/\Q (ks.map .int)
section
variable {X:Cx} {e:Expr} {te:RE} {p pos:Pos}
end
end
section
open PySem PySem.Spec PyProof.Rows L2
section
variable {X:Cx} {e:Expr} {pos apos cpos npos p2 p3 p4:Pos} {te:RE} {x:Str}
def Ws (i:Nat) (te:RE):RS:=λE ρ=>match ρ[i]? with
 | some (some (.own xs))=>te ρ λd=>match d with
  | .lst ys=>Sz (xs.length+ys.length)/\E.nx (ρ.set i (some (.own (xs++ys))))
  | _=>False
 | _=>False
def alt {α:Type}:List α->List α
 | []=>[]
 | [x]=>[x]
 | x::_::r=>x::alt r
def rAlt (k:Nat) (te:RE):RA:=λρ Q=>te ρ λx=>match x with
 | .lst ds=>Q (alt (ds.drop k))
 | _=>False
end
section
variable {X:Cx} {tg:Expr}
def riFar (t:RA):RA:=λρ Q=>t ρ λds=>match ds with
 | [.int i,.int j]=>Q (sS i (j-i).toNat)
 | _=>False
def Vf:R22:=λx y Q=>match x,y with
 | .bl a,.bl b=>Q (.int ((if a then 1 else 0)-(if b then 1 else 0)))
 | _,_=>False
end
end
end L2.R2
namespace HT
open PySem PyProof.Rows
section
open PySem.SeqAt
open PySem.AutoSeq1 (wpAny_loadPart')
open PySem.MeetsSeq PySem.MeetsSeq2 PySem.MeetsSeq3
end
section
variable {prog:bV} {w:dE} {A:dF} {E:aD->aG->Prop} {s:aG}
end
end HT
namespace L2.R2
section
open PySem PySem.Spec PyProof.Rows L2
section
variable {prog:bV} {w:dE} {A:dF} {E:aD->aG->Prop} {s:aG}
end
section
variable {X:Cx}
def Xx:List D->(D->Prop)->Prop:=λds Q=>∃ns ms,ds=[nQ ns,nQ ms]/\Q (nQ (if HT.lexLt ms ns=true then ms else ns))
def Xw:List D->(D->Prop)->Prop:=λds Q=>∃ns ms,ds=[nQ ns,nQ ms]/\Q (nQ (if HT.lexLt ns ms=true then ms else ns))
end
section
variable {X:Cx} {pins:List (Addr × Obj)} {σ:St} {H:Hp} {s:aG}
theorem Inv.thaw {a:Addr} {xs:List V} {o:Obj} (I:Inv X pins σ H s) (h:H a=some (.frz o (.lst xs))) (h0:X.H₀ a=none):Inv X pins σ (upd H a (.lst xs)) s:=by
 have nn:∀b,H b=none->upd H a (.lst xs) b=none:=λb q=>by rw[cT (by rintro rfl;rw[h] at q;cases q)];exact q
 have ne0:∀b u,X.H₀ b=some u->b≠a:=λb u q z=>by subst z;rw[h0] at q;cases q
 refine⟨I.ok,I.os,I.bare,⟨I.base.keep,I.base.slot,λb o q n x=>nn b (I.base.free b o q n x),I.base.there,λb ys q=>?_,λb o u q=>?_,λb ps q=>?_⟩,I.loc,I.cell,nn _ I.free,λx c e=>nn _ (I.freeC x c e),λp hp=>?_,λb u q=>?_,I.len⟩
 ·rw[cT (ne0 b _ q)];exact I.base.tups b ys q
 ·rw[cT (ne0 b _ q)];exact I.base.frzs b o u q
 ·rw[cT (ne0 b _ q)];exact I.base.tbls b ps q
 ·obtain⟨p1,p2,p3⟩:=I.pin p hp
  exact⟨p1,nn _ p2,p3⟩
 ·have st:∀{b:Addr} {u:HO},ObjOk X.prog X.w H s.heap b u->ObjOk X.prog X.w (upd H a (.lst xs)) s.heap b u:=λ{b u} q =>
   q.stay (λc v _ w=>w) (λc w=>by rw[cT (by rintro rfl;rw[h] at w;cases w)];exact w) λc ys w=>by rw[cT (by rintro rfl;rw[h] at w;cases w)];exact w
  by_cases hb:b=a
  ·subst hb
   rw[fK] at q;cases q
   exact st (show ObjOk X.prog X.w H s.heap b (.frz o (.lst xs)) from I.hok b _ h).2
  ·rw[cT hb] at q
   exact st (I.hok b u q)
end
section
variable {X:Cx} {e:Expr} {t:RT}
def Ye (i:Nat) (ρ:En):En:=match ρ[i]? with
 | some (some (.own ds))=>ρ.set i (some (.d (.lst ds)))
 | _=>ρ
end
def JL (t u:RS):RS:=λE ρ=>t { nx:=u E,rt:=λ_=>False } ρ
def rRetO (i:Nat):RS:=λE ρ=>match ρ[i]? with
 | some (some (.own xs))=>E.rt (.lst xs)
 | _=>False
section
variable {X:Cx} {st:Stmt} {rest:List Stmt} {t u:RS} {x:Str} {p pos:Pos}
end
section
variable {P:bV} {w:dE} {K:aH} {mg:Str->Option aD} {base:Heap}
end
def Yf (F:FD) (t:RA):RA:=λρ Q=>t ρ λds=>F ds λd=>match d with
 | .lst xs=>Q xs
 | _=>False
section
variable {X:Cx} {k:Nat} {ps:List Str} {F:FD} {x:Str} {p pos:Pos} {e:Expr} {es:List Expr} {t:RA}
end
section
variable {prog:bV} {w:dE} {A:dF} {E:aD->aG->Prop} {s:aG}
end
section
variable {X:Cx} {tg a:Expr} {t:RA} {pos p pos2 p2:Pos}
structure RvOk (j:Int):Prop where
 lo:0<=j
 hi:j<2 ^ 62
def Yz (t:RA):RA:=λρ Q=>t ρ λds=>match ds with
 | [.int j]=>RvOk j/\Q (sS 0 j.toNat).reverse
 | _=>False
end
def dNeL:R22:=λx y Q=>match x,y with
 | .lst xs,.lst ys=>xs.length=ys.length/\match eqL (eqF 5) xs ys with
  | some b=>Q (.bl !b)
  | none=>False
 | _,_=>False
section
variable {X:Cx}
end
section
variable {K:aH} {H₀ H:Hp}
end
section
variable {X:Cx} {e k:Expr} {pos pos' p p1 p2 apos cpos npos spos:Pos} {te tk:RE} {x:Str}
def rBNew (i:Nat):RS:=λE ρ=>E.nx (ρ.set i (some (.box false [[],[]])))
def rBApp (i:Nat) (tk te:RE):RS:=λE ρ=>match ρ[i]? with
 | some (some (.box false xss))=>tk ρ λkd=>match kd with
  | .int k=>∃(j:Nat) (ds:List D),(k=(j:Int)/\xss[j]? = some ds/\Sz (ds.length+1))/\te ρ λd=>E.nx (ρ.set i (some (.box false (xss.set j (ds++[d])))))
  | _=>False
 | _=>False
end
def rRetB (i:Nat) (ta tb:RA):RS:=λE ρ=>match ρ[i]? with
 | some (some (.own xs))=>ta ρ λys=>tb ρ λzs=>E.rt (.tup [.lst xs,.lst ys,.lst zs])
 | _=>False
section
variable {X:Cx} {st:Stmt} {rest:List Stmt} {t u:RS} {x:Str} {p pos tp:Pos} {j:Nat} {e1 e2:Expr} {ta tb:RA}
end
section
variable {P:bV} {w:dE} {K:aH} {mg:Str->Option aD} {base:Heap}
end
def rSetB (j:Nat) (F:FD) (t:RA):RS:=λE ρ=>t ρ λds=>F ds λd=>∃xss:List (List D),d = .tup (xss.map .lst)/\E.nx (ρ.set j (some (.box true xss)))
section
variable {X:Cx} {k j:Nat} {ps:List Str} {F:FD} {x y:Str} {p pos pos' cpos:Pos} {e:Expr} {es:List Expr} {t:RA}
end
section
variable {X:Cx} {pins:List (Addr × Obj)} {σ:St} {s:aG}
end
section
variable {K:aH} {H₀ H H':Hp}
end
def lendB (i:Nat) (ρ:En):En:=match ρ[i]? with
 | some (some (.box true xss))=>ρ.set i (some (.d (.tup (xss.map .lst))))
 | _=>ρ
section
variable {X:Cx} {e:Expr} {t:RT}
end
section
variable {X:Cx} {ρ:En} {σ:St} {H:Hp}
end
def rBFor (i j:Nat):RS:=λE ρ=>match ρ[i]? with
 | some (some (.box true xss))=>(j<ρ.length/\∀ds∈xss,Sz (ds.length+1))/\E.nx ((ρ.set j none).set i (some (.box true (xss.map (· ++ [.non])))))
 | _=>False
section
variable {X:Cx} {x y:Str} {pos cpos apos npos pos' xpos epos:Pos} {jn:Nat}
end
def rGet2 (ta tk tf:RE):RE:=λρ Q=>ta ρ λx=>match x with
 | .dct ks ds=>tk ρ λy=>match y with
  | .int k=>tf ρ λz=>Q ((Jf ks ds k).getD z)
  | _=>False
 | _=>False
section
variable {X:Cx} {a k f:Expr} {ta tk tf:RE} {apos cpos:Pos}
end
def dInI:R22:=λx y Q=>match x,y with
 | .int i,.lst ds=>∃ns:List Int,ds=ns.map .int/\Q (.bl (decide (i∈ns)))
 | _,_=>False
section
variable {X:Cx}
end
section
variable {prog:bV} {w:dE} {A:dF} {E:aD->aG->Prop} {s:aG}
end
def rgLst (n:Nat) (g:RGs):RG:=λd ρ Q=>match d with
 | .lst ds=>ds.length=n/\g ds ρ Q
 | _=>False
section
variable {X:Cx} {pos:Pos}
end
def Nh:R22:=λx y Q=>match eqF 9 x y with
 | some b=>Q (.bl b)
 | none=>False
section
variable {X:Cx}
theorem Te {k:Nat} (hr:Room k X.A):OpD X (compareOp .Eq) Nh:=by
 intro pins s σ H x y v u Q I rx ry hh_0
 obtain⟨d,e,P,r1,r2,q,kk⟩:=hh_0
 unfold Nh at q
 split at q
 ·rename_i b hb
  have hu:=hr.units
  have:uJ X.A s v u b:=by
   by_cases hl:∃xs ys,d = .lst xs/\e = .lst ys
   ·obtain⟨xs,ys,rfl,rfl⟩:=hl
    obtain⟨a,vs,rfl,h1,q1⟩:=r1.lst
    obtain⟨c,ws,rfl,h2,q2⟩:=r2.lst
    cases rx;cases ry
    exact (MQ I (A:=X.A) (n:=8) hb h1 q1 h2 q2 (by lia) λ{d e v u x y b} hk f2 f4 g4 g6=>(xS I 8 hk f2 f4 g4 g6 (by show X.A.units+1+8<cLine;lia)).2).1
   ·have p1:Rep X.K H d x:=by
     rcases r1 with r | ⟨ds,a,vs,e1,_⟩
     ·exact r
     ·subst e1;cases e <;> first | (cases hb;done) | exact absurd ⟨_,_,rfl,rfl⟩ hl
    have p2:Rep X.K H e y:=by
     rcases r2 with r | ⟨ds,a,vs,e1,_⟩
     ·exact r
     ·subst e1;cases d <;> first | (cases hb;done) | exact absurd ⟨_,_,rfl,rfl⟩ hl
    exact (xS I (A:=X.A) 9 hb p1 p2 rx ry (by lia)).1
  exact this _ _ _ _ ⟨.bl b,H,I,rfl,kk _ _ H q (Same.refl H) (.bl b)⟩
 ·exact q.elim
end
open PySem.W in
section
variable {K:aH} {prog:bV} {w:dE} {A:dF} {E:aD->aG->Prop} {s:aG} {x C:Addr} {o:Obj}
open PySem.W Builtin Builtin.ObjectAttr Builtin.Getset_descriptor
end
section
variable {P:bV} {w:dE} {H H':Hp} {h h':Heap} {a:Addr} {u:HO}
end
section
variable {P:bV} {w:dE} {C:Addr} {outer:List Env} {H H':Hp} {s s':aG} {a:Addr} {B:Heap} {a0:aD} {h6:Heap}
end
section
variable {X:Cx} {pins:List (Addr × Obj)} {σ:St} {H H1:Hp} {s s1:aG} {C e:Addr} {E:XK} {EE:aD->aG->Prop}
end
open PySem.W in
section
variable {X:Cx} {C:Addr} {x:Str} {np cpos pos:Pos} {msg:Str} {j:Nat} {p:Pos}
end
section
variable {X:Cx} {C:Addr} {k:Nat} {ps:List Str} {F:List D->Prop} {x:Str} {p pos:Pos} {e:Expr} {es:List Expr} {t:RA}
end
section
variable {X:Cx} {pins:List (Addr × Obj)} {σ:St} {H:Hp} {s:aG}
end
section
variable {K:aH}
open PySem.W in
end
section
variable {X:Cx} {C e:Addr} {oe:Obj} {b:Bool}
end
section
variable {X:Cx} {C:Addr} {k:Nat} {ps:List Str} {F:List D->Prop} {g:Str} {ea:Expr} {es:List Expr} {t:RA} {q1 q2 q3 q4 q5 q6 q7 q8 q9 q10 q11 q12 q13 q14 q15 q16 q17 q18 q19 q20 q21 q22 q23 q24 q25 q26 q27 q28 q29 q30 q31:Pos} {j1 j2 j3:Nat}
end
section
variable {P:bV} {w:dE} {K:aH} {mg:Str->Option aD} {base:Heap}
end
section
variable {X:Cx} {C:Addr} {c:Expr} {tc:RT} {x:Str} {np cpos pos pos2 p:Pos} {msg:Str} {j:Nat} {rest:List Stmt}
end
section
variable {prog:bV} {w:dE} {A:dF} {E:aD->aG->Prop} {h:Heap} {g:Array GenState} {d:Drawn} {t:Nat} {os:OsState}
variable {nm qn:Str} {C N:Addr} {bs bm bB:List aD} {hd:Bool} {sn:List Str} {sub:List aD} {ab:Bool} {col:Option Bool} {dd:Option Addr} {k0 k1 k2 k3 k5:Option aD} {B nI iI:String}
end
section
variable {K:aH} {prog:bV} {w:dE} {A:dF} {E:aD->aG->Prop} {s:aG} {e C:Addr} {oe:Obj} {x:Str} {v:aD}
open PySem.W Builtin Builtin.ObjectAttr
end
section
variable {prog:bV} {w:dE} {A:dF} {E:aD->aG->Prop} {h:Heap} {g:Array GenState} {d:Drawn} {t:Nat} {os:OsState}
variable {nm qn:Str} {C N:Addr} {bs bm:List aD} {hd:Bool} {sn:List Str} {sub:List aD} {ab:Bool} {col:Option Bool} {dd:Option Addr} {k0 k1 k2 k3 k5:Option aD} {nI:String}
end
open PySem.W in
open PySem.W in
open PySem.W in
section
variable {P:bV} {w:dE} {H:Hp} {h:Heap} {C e dx:Addr}
end
section
variable {X:Cx} {C Cb f:Addr} {x y self:Str} {p p0 p1 p2 apos pos pos':Pos} {msg:Str} {j i:Nat}
end
section
variable {X:Cx} {C Cb f:Addr} {y x:Str} {k:Nat} {p pos:Pos} {a:Expr} {ta:TE}
end
section
variable {X:Cx} {pins:List (Addr × Obj)} {σ:St} {H H1:Hp} {s s1:aG} {C e dx:Addr} {E:XK} {EE:aD->aG->Prop}
end
section
variable {M:Model} {A:dF} {E:aD->aG->Prop} {env:Env} {nm q:Str} {C N:Addr} {bs bm:List aD} {hd:Bool} {sn:List Str} {sub:List aD} {ab:Bool} {col:Option Bool} {dd:Option Addr} {k0 k1 k2 k3 k5:Option aD} {nI:String}
end
def Yo (PP:Int->Prop) (te:RE):RS:=λ_ ρ=>te ρ λd=>match d with
 | .int c=>PP c
 | _=>False
section
variable {X:Cx} {C Cb f:Addr} {y x:Str} {k:Nat} {p np cpos pos:Pos} {a:Expr} {te:RE} {PP:Int->Prop}
end
abbrev FDX:=List D->(D->Prop)->(Int->Prop)->Prop
section
variable {P:bV} {w:dE} {K:aH} {mg:Str->Option aD} {base:Heap} {C:Addr} {y x:Str} {ps:List Str} {k:Nat}
end
def Yg (F:FDX) (PP:Int->Prop) (t:RA):RE:=λρ Q=>t ρ λds=>F ds Q PP
section
variable {X:Cx} {C:Addr} {y x:Str} {k:Nat} {ps:List Str} {F:FDX} {PP:Int->Prop} {p pos:Pos} {e:Expr} {es:List Expr} {t:RA}
end
section
variable {X:Cx} {pins:List (Addr × Obj)} {σ:St} {H:Hp} {s:aG} {a:Addr} {φ:Heap->Prop}
end
section
variable {X:Cx} {C:Addr} {y:Str} {k:Nat} {ps:List Str} {F:FDX} {PP:Int->Prop} {x:Str} {p pos:Pos} {e:Expr} {es:List Expr} {t:RA}
end
section
variable {X:Cx} {C:Addr} {k:Nat} {ps:List Str} {F:FDX} {g y vn:Str} {ea:Expr} {es:List Expr} {t:RA} {q1 q2 q3 q4 q5 q6 q7 q8 q9 q10 q11 q12 q13 q14:Pos} {j1:Nat}
end
abbrev FDE:=List D->(Int->Prop)->Prop
def rSetE (j:Nat) (F:FDE) (C:Addr) (y:Str) (t:RA):RS:=λE ρ=>t ρ λds=>∃PP,F ds PP/\∀c,PP c->E.nx (ρ.set j (some (.exc C y c)))
def rIsiE (i:Nat) (C:Addr) (b:Bool):RE:=λρ Q=>match ρ[i]? with
 | some (some (.exc C' _ _))=>C'=C/\Q (.bl b)
 | _=>False
def rColE (i:Nat) (C:Addr) (y:Str):RE:=λρ Q=>match ρ[i]? with
 | some (some (.exc C' y' c))=>(C'=C/\y'=y)/\Q (.int c)
 | _=>False
def rColN (te:RE):RE:=λρ Q=>te ρ λd=>match d with
 | .int c=>Q (.int c)
 | _=>False
section
variable {X:Cx} {k j i:Nat} {ps:List Str} {F:FDE} {x y z:Str} {p p1 p2 p3 p4 pos pos' cpos:Pos} {e:Expr} {es:List Expr} {t:RA} {C:Addr} {b:Bool}
end
section
variable {X:Cx} {k i:Nat} {x y:Str} {p p1 pos cpos:Pos} {a:Expr} {te:RE} {C Cb f:Addr}
end
end
section
open PySem PySem.W PyProof.Rows
section
variable {prog:bV} {w:dE} {A:dF} {E:aD->aG->Prop} {s:aG} {κ:SortKind} {O:KeyOrd} {k:Keyed->O.α} {G:Keyed->Prop}
def at' (a:Array Keyed) (i:Nat):Keyed:=a.getD i (gH,gH)
section
variable {left:Bool} {key:Keyed} {arr:Array Keyed} {base n:Nat} {bey:Nat->Bool} {Q:Option Nat->SortSt->Prop} {st:SortSt}
end
end
section
variable {α:Type} {R:α->α->Prop} {al bl out A A1 A2 B B1 B2:List α}
end
section
variable {prog:bV} {w:dE} {A:dF} {E:aD->aG->Prop} {s:aG} {κ:SortKind} {O:KeyOrd} {k:Keyed->O.α} {G:Keyed->Prop}
section
variable {a b out:Array Keyed} {ia ib m:Nat}
end
section
variable {a b out:Array Keyed} {ia ib mg ac bc n0:Nat} {st:SortSt} {F:Option aD} {P:Array (Nat × Nat × Nat)} {X:Array Keyed}
end
end
section
variable {prog:bV} {w:dE} {A:dF} {E:aD->aG->Prop} {s:aG} {κ:SortKind} {O:KeyOrd} {k:Keyed->O.α} {G:Keyed->Prop}
section
variable {a b out:Array Keyed} {na nb q:Nat}
end
section
variable {a b out:Array Keyed} {na nb mg ac bc n0:Nat} {st:SortSt} {F:Option aD} {P:Array (Nat × Nat × Nat)} {X:Array Keyed}
end
end
section
variable {prog:bV} {w:dE} {A:dF} {E:aD->aG->Prop} {s:aG} {κ:SortKind} {O:KeyOrd} {k:Keyed->O.α} {G:Keyed->Prop}
end
section
variable {prog:bV} {w:dE} {A:dF} {E:aD->aG->Prop} {s:aG} {κ:SortKind} {O:KeyOrd} {k:Keyed->O.α} {G:Keyed->Prop}
section
variable {X:Array Keyed} {P:Array (Nat × Nat × Nat)} {st:SortSt}
end
end
section
variable {prog:bV} {w:dE} {A:dF} {E:aD->aG->Prop} {s:aG} {κ:SortKind} {O:KeyOrd} {k:Keyed->O.α} {G:Keyed->Prop} {X:Array Keyed} {st:SortSt}
end
end
section
open PySem PySem.W PySem.SetTable PyProof.Rows
section
variable {prog:bV} {w:dE} {A:dF} {E:aD->aG->Prop} {s:aG}
end
end
section
open PySem PySem.Spec PyProof.Rows L2
def Uv (te:RE):RA:=λρ Q=>te ρ λx=>∃nss:List (List Int),x = .lst (nss.map nQ)/\nss.length<76/\(∀ns∈nss,ns≠[])/\∀mss:List (List Int),mss.Pairwise (λx y=>oG y x=false)->(∀ns,ns∈mss↔ns∈nss)->mss.length<=nss.length->Q (mss.map nQ)
section
variable {X:Cx} {e:Expr} {te:RE} {p pz pos posz:Pos}
end
def Xq (te:RE):RE:=λρ Q=>te ρ λx=>∃nss:List (List Int),x = .lst (nss.map nQ)/\nss.length<=75/\∀mss:List (List Int),mss.Nodup->(∀ns,ns∈mss↔ns∈nss)->Q (.int mss.length)
section
variable {X:Cx} {e:Expr} {te:RE} {p pz pos posz:Pos}
end
def Xp:R22:=λx y Q=>match y with
 | .lst ds=>∃(ks:List Int) (nss:List (List Int)),x=nQ ks/\ds=nss.map nQ/\Q (.bl (!decide (ks∈nss)))
 | _=>False
section
variable {X:Cx}
end
end
section
open PySem PySem.Spec PyProof.Rows L2 PySem.W
section
variable {prog:bV} {w:dE} {A:dF} {E:aD->aG->Prop} {s:aG} {d it:Addr} {es:Array DictEntry} {ep i:Nat}
end
def Uy (ks:List (List Int)) (k:List Int):List (List Int):=if k∈ks then ks else ks++[k]
def Wn {α:Type} (ks:List (List Int)) (xs:List α) (k:List Int) (x:α):List α:=if k∈ks then mR (λk' y=>if k'=k then x else y) ks xs else xs++[x]
def VX:List (List Int)->List D->List Int->Option D
 | k'::ks,d::ds,k=>if k'=k then some d else VX ks ds k
 | _,_,_=>none
section
variable {X:Cx} {e k f:Expr} {pos pos' p npos apos cpos spos:Pos} {te tk tf:RE} {x:Str}
def rTNew (i:Nat):RS:=λE ρ=>E.nx (ρ.set i (some (.dt [] [])))
def rTPut (i:Nat) (tk te:RE):RS:=λE ρ=>match ρ[i]? with
 | some (some (.dt ks xs))=>te ρ λd=>tk ρ λkd=>∃kk:List Int,kd = .tup (kk.map .int)/\Sz (ks.length+1)/\E.nx (ρ.set i (some (.dt (Uy ks kk) (Wn ks xs kk d))))
 | _=>False
def rTGet (i:Nat) (tk tf:RE):RE:=λρ Q=>match ρ[i]? with
 | some (some (.dt ks xs))=>tk ρ λkd=>tf ρ λz=>∃kk:List Int,kd = .tup (kk.map .int)/\Q ((VX ks xs kk).getD z)
 | _=>False
def Yu (i:Nat):RA:=λρ Q=>match ρ[i]? with
 | some (some (.dt ks xs))=>Q (ks.map nQ)
 | _=>False
end
section
variable {X:Cx} {e a k f:Expr} {pos p apos cpos:Pos} {te ta tk tf:RE}
def Yl (te:RE):RA:=λρ Q=>te ρ λx=>∃(ks:List (List Int)) (ds:List D),x = .dtt ks ds/\Q (ks.map nQ)
def dKeyU:R22:=λx y Q=>match x with
 | .dtt ks ds=>∃(kk:List Int) (d:D),y = .tup (kk.map .int)/\VX ks ds kk=some d/\Q d
 | _=>False
def rGetU (ta tk tf:RE):RE:=λρ Q=>ta ρ λx=>match x with
 | .dtt ks ds=>tk ρ λy=>tf ρ λz=>∃kk:List Int,y = .tup (kk.map .int)/\Q ((VX ks ds kk).getD z)
 | _=>False
end
section
variable {prog:bV} {w:dE} {A:dF} {E:aD->aG->Prop} {s:aG} {d it v:Addr} {es:Array DictEntry} {ep i:Nat}
end
def Yx (te:RE):RA:=λρ Q=>te ρ λd=>match d with
 | .dtt ks _=>Q (ks.map nQ)
 | _=>False
section
variable {X:Cx} {e tg:Expr} {te:RE} {apos cpos:Pos}
end
section
variable {prog:bV} {w:dE} {A:dF} {E:aD->aG->Prop} {s:aG} {d it v:Addr} {es:Array DictEntry} {ep i:Nat} {ok ov:aD}
end
def Xs (te:RE):RA:=λρ Q=>te ρ λd=>match d with
 | .dtt ks ds=>Q (mR (λk x=>D.tup [nQ k,x]) ks ds)
 | _=>False
section
variable {X:Cx} {e:Expr} {te:RE} {apos cpos:Pos} {elts:List Expr} {k:Nat} {tp:Pos}
end
end
section
open PySem PySem.Spec PyProof.Rows L2
section
variable {X:Cx} {e a:Expr} {pos apos cpos npos:Pos} {te ta:RE} {x:Str}
def rInsD (i:Nat) (ta te:RE):RS:=λE ρ=>match ρ[i]? with
 | some (some (.own xs))=>ta ρ λk=>te ρ λd=>∃j:Nat,k = .int (j:Int)/\j<=xs.length/\Sz (xs.length+1)/\E.nx (ρ.set i (some (.own (xs.take j++d::xs.drop j))))
 | _=>False
def Yj (i:Nat) (te:RE):RE:=λρ Q=>te (Ye i ρ) λd=>∃n:Int,d = .int n/\Q d
end
end
section
open PySem PySem.W PySem.Spec PySem.SetTable PyProof.Rows L2
section
variable {prog:bV} {w:dE} {A:dF} {E:aD->aG->Prop} {s:aG}
end
section
open PySem.SeqAt
open PySem.AutoSeq1 (wpAny_loadPart')
open PySem.MeetsSeq PySem.MeetsSeq2 PySem.MeetsSeq3
end
section
variable {prog:bV} {w:dE} {A:dF} {E:aD->aG->Prop} {s:aG}
end
def Rh:List (Int × Int)->List Int
 | []=>[]
 | z::r=>z.1::z.2::Rh r
def Vr (p:Int × List (Int × Int)):List Int:=p.1::Rh p.2
abbrev pnt (z:Int × Int):D:=.tup [.int z.1,.int z.2]
abbrev pcD (p:Int × List (Int × Int)):D:=.tup [.int p.1,.tup (p.2.map pnt)]
section
variable {X:Cx} {pins:List (Addr × Obj)} {σ:St} {H:Hp} {s:aG} {A:dF}
end
def Ys (te:RE):RA:=λρ Q=>te ρ λx=>∃ps:List (Int × List (Int × Int)),x = .lst (ps.map pcD)/\ps.length<64/\∀qs:List (Int × List (Int × Int)),qs.Perm ps->qs.Pairwise (λx y=>oG (Vr y) (Vr x)=false)->Q (qs.map pcD)
section
variable {X:Cx} {e:Expr} {te:RE} {p pos:Pos}
end
end
section
open PySem PySem.Spec PyProof.Rows L2
def rTryE (je:Nat) (C:Addr) (y:Str) (F:FDX) (t:RA) (rb:RS):RS:=λE ρ=>t ρ λds=>∃PP,F ds (λ_=>False) PP/\∀c,PP c->rb { nx:=λρ'=>E.nx (ρ'.set je none),rt:=λ_=>False } (ρ.set je (some (.exc C y c)))
section
variable {X:Cx} {C cc:Addr} {k je:Nat} {ps:List Str} {F:FDX} {g y cn:Str} {ea:Expr} {es:List Expr} {t:RA} {q4 q5 q6 q7 q11 q12:Pos} {bst:Stmt} {bss:List Stmt} {rb:RS}
end
abbrev Ru (i j:Nat) (ds:List D) (ρ:En):En:=(ρ.set i none).set j (some (.own ds))
def rBPop (i jw:Nat) (tk:RE) (tt:RT) (tj:RE):RS:=λE ρ=>match ρ[i]? with
 | some (some (.box false xss))=>tk ρ λkd=>match kd with
  | .int k=>∃(j:Nat) (ds:List D),(k=(j:Int)/\xss[j]? = some ds/\jw<ρ.length)/\tt (Ru i jw ds ρ) λb=>if b=true then tj (Ru i jw ds ρ) λd=>∃m:Nat,(d = .int (m:Int)/\m<ds.length/\Sz ds.length)/\E.nx ((ρ.set i (some (.box false (xss.set j (ds.eraseIdx m))))).set jw none) else E.nx (ρ.set jw none)
  | _=>False
 | _=>False
section
variable {X:Cx} {e k test:Expr} {pos pos' p p1 p2 apos cpos npos spos wpos ipos epos:Pos} {tj tk:RE} {tt:RT} {x w:Str}
end
def dNeZ:R22:=λx y Q=>match x,y with
 | .lst xs,.lst []=>Q (.bl !xs.isEmpty)
 | _,_=>False
section
variable {X:Cx}
end
abbrev FM:=List (List Int)->List D->List D->(List Int->D->Prop)->Prop
def rMut (i:Nat) (F:FM) (t:RA):RS:=λE ρ=>match ρ[i]? with
 | some (some (.dt ks xs))=>t ρ λds=>Sz (ks.length+1)/\F ks xs ds λkk d=>E.nx (ρ.set i (some (.dt (Uy ks kk) (Wn ks xs kk d))))
 | _=>False
section
variable {X:Cx} {k:Nat} {ps:List Str} {F:FM} {x y:Str} {p py pos spos:Pos} {es:List Expr} {t:RA}
end
section
variable {X:Cx} {e k f:Expr} {pos pos' p npos apos cpos:Pos} {te tk tf:RE} {x:Str} {a:Addr} {ks:List (List Int)} {xs:List D} {ws:List V}
def rRGet (i:Nat) (a:Addr) (ks:List (List Int)) (xs:List D) (tk tf:RE):RE:=λρ Q=>ρ[i]? = some (some (.raw (.ref a)))/\tk ρ λkd=>tf ρ λz=>∃kk:List Int,kd = .tup (kk.map .int)/\Q ((VX ks xs kk).getD z)
end
abbrev RM:=(List Int->D->Prop)->En->Prop
def rSeqM (t:RS) (u:RM):RM:=λP ρ=>t { nx:=u P,rt:=λ_=>False } ρ
def rPutM (i:Nat) (a:Addr) (tk te:RE):RM:=λP ρ=>ρ[i]? = some (some (.raw (.ref a)))/\te ρ λd=>tk ρ λkd=>∃kk:List Int,kd = .tup (kk.map .int)/\P kk d
def rRetF (t:RA):RS:=λE ρ=>t ρ λxs=>E.rt (.lst xs)
section
variable {X:Cx} {st:Stmt} {rest:List Stmt} {e k:Expr} {pos pos' npos:Pos} {t:RS} {u:RM} {te tk:RE} {x:Str} {a:Addr} {ks:List (List Int)} {xs:List D} {ws:List V}
end
section
variable {P:bV} {w:dE} {K:aH} {mg:Str->Option aD} {base:Heap}
end
end
section
open PySem PySem.Spec PySem.W PyProof.Rows L2
section
variable {prog:bV} {w:dE} {A:dF} {E:aD->aG->Prop} {s:aG} {name qual:Str} {params:Arguments} {body:Expr} {scope:Scope} {clos:List (Str × Addr)} {pm ctv v:aD} {f c':Addr} {x:Str} {Q:aD->aG->Prop}
end
section
variable {prog:bV} {w:dE} {A:dF} {env:Env} {h:Heap} {a b:Expr} {pos:Pos} {i j:Int} {m:Str->Option aD} {x:Str}
end
section
variable {prog:bV} {w:dE} {A:dF} {E:aD->aG->Prop} {s:aG} {L l f:Addr} {m:Str->Option aD} {vs:List aD} {kz:List Int} {Q:aD->aG->Prop}
end
end
section
open PySem PySem.Spec PyProof.Rows L2
section
variable {P:bV} {w:dE} {K:aH} {mg:Str->Option aD} {base:Heap}
end
section
variable {X:Cx} {pins:List (Addr × Obj)} {σ:St} {H:Hp} {s:aG}
end
abbrev pr2 (p:Int × Int):D:=.tup [.int p.1,.int p.2]
def Xr (j:Nat) (te:RE):RA:=λρ Q=>te ρ λx=>∃(B:Int) (fs:List (Int × Int)),ρ[j]? = some (some (.d (.int B)))/\x = .lst (fs.map pr2)/\fs.length<64/\(∀f∈fs,DivOk B f.2/\MulOk f.1 (B.fdiv f.2)) /\
 ∀gs:List (Int × Int),gs.Perm fs->gs.Pairwise (λp q=>p.1*B.fdiv p.2<=q.1*B.fdiv q.2)->Q (gs.map pr2)
section
variable {X:Cx} {e:Expr} {te:RE} {p pos kp lpos:Pos} {x y dn:Str} {c T:Addr} {k j:Nat} {params:Arguments} {scope:Scope} {p1 p2 p3 p4 p5 p6 p7 p8 p9:Pos} {n1 n2:Nat}
end
section
variable {K K':aH}
end
section
variable {P:bV} {w:dE} {K:aH} {mg:Str->Option aD} {base:Heap} {x:Str} {st:Stmt} {N ps:List Str} {k:Nat} {F:FD} {t:RS}
theorem DefAt.mkD (Z:DefAt K mg x st ps) (len:∀ds Q,F ds Q->ds.length=ps.length) (pure:∀ds Q,F ds Q->t { nx:=λ_=>Q .non,rt:=Q } (dW N ds))
  (hbody:∀{f:Addr} {cdv:aD} {A:dF} {outer:List Env} {s:aG} {H:Hp} {E:XK},N.Nodup->Room k (A.deeper (envOfC x (fZ st) s.heap.objs.size f cdv)) ->
   DSs (BU CX0 P w K mg base N x (fZ st) f cdv A outer s H E).nox (qS st) t)
  (Sc:FnScope N ps (fZ st):=by exact⟨rfl,rfl,rfl,by decide +kernel,rfl,by decide +kernel,by decide +kernel⟩):FnAt P w K mg base x ps (k+1) F :=
 Z.ok Sc (λ_ _ _ _ _ _=>hbody Sc.nd) len pure
theorem def_mk {h:Heap} {f:Addr} {oc:aD} {od an:Option Addr} {osl:Array (Option aD)} {kV doc pm cdv ct:aD} (X:K.In h) (G:h.Ns mainGlobals mg) (a:tM K mainGlobals x=some (some (.ref f)))
  (l:K.lookup f=some ⟨oc,od,.func (oS x x (GG st) (qS st) (fZ st) .none kV doc pm an cdv ct),osl⟩) (c:uI K cdv x=true) (k:mG K (.ref f)=true)
  (b:∀us:List aD,us.length=ps.length->bindArgs (oS x x (GG st) (qS st) (fZ st) .none kV doc pm an cdv ct) ⟨us,[]⟩=pure (ps.zip us)):DefAt K mg x st ps :=
 ⟨_,_,Si (st:=st) l c k,PySem.W.mg_of X G a,b⟩
end
section
variable {X:Cx} {k n:Nat} {ps:List Str} {F:FD} {x:Str} {p pos:Pos} {e:Expr} {es:List Expr} {t:RA}
theorem bC (C:FnAt X.prog X.w X.K X.mg X.base x ps k F) (hr:Room n X.A) (ha:DA X (e::es) t) (hk:k<=n:=by decide) (hg:Gl X x:=by rfl)
  (hdb:(x == ("__debug__":Str))=false:=by decide) (he:starEach (e::es) X.env=(false,eval e X.env)::starEach es X.env:=by rfl) (hpl:(backTo pos (starEach es X.env)).any (·.1)=false:=by rfl) :
  DE X (.Call (.Name x p) (e::es) [] pos) (cV F t):=Jg C (hr.mono hk) ha hg hdb he hpl
theorem aE {i:Int} {j:Nat}:DB X (.Constant (.int i) j pos) (rC (.int i)):=DE.bor jA
theorem eb {t:RE} (h:DE X e t):DB X e t:=DE.bor h
end
mutual
inductive Spn (G H:Hp):D->V->Prop
 | non {v:V}:Spn G H .non v
 | bl {b:Bool} {v:V}:Spn G H (.bl b) v
 | int {i:Int} {v:V}:Spn G H (.int i) v
 | str {x:Str} {v:V}:Spn G H (.str x) v
 | tup {a:Addr} {vs:List V} {ds:List D} (h:H a=some (.tup vs)) (r:Spns G H ds vs):Spn G H (.tup ds) (.ref a)
 | lst {a:Addr} {o:Obj} {vs:List V} {ds:List D} (h:H a=some (.frz o (.lst vs))) (g:G a=none):Spn G H (.lst ds) (.ref a)
inductive Spns (G H:Hp):List D->List V->Prop
 | nil:Spns G H [] []
 | cons {d:D} {v:V} {ds:List D} {vs:List V} (h:Spn G H d v) (t:Spns G H ds vs):Spns G H (d::ds) (v::vs)
end
inductive NoL:D->Prop
 | non:NoL .non
 | bl {b:Bool}:NoL (.bl b)
 | int {i:Int}:NoL (.int i)
 | str {x:Str}:NoL (.str x)
 | nil:NoL (.tup [])
 | cons {d:D} {ds:List D} (h:NoL d) (t:NoL (.tup ds)):NoL (.tup (d::ds))
section
variable {K:aH} {G H H':Hp}
mutual
theorem Spn.keep (k:∀b xs,H b=some (.tup xs)->H' b=some (.tup xs)) (f:∀b o u,H b=some (.frz o (.lst u))->∃o' u',H' b=some (.frz o' (.lst u'))):∀{d:D} {v:V},Spn G H d v->Spn G H' d v
 | _,_,.non=>.non
 | _,_,.bl=>.bl
 | _,_,.int=>.int
 | _,_,.str=>.str
 | _,_,.tup h r=>.tup (k _ _ h) (Spns.keep k f r)
 | _,_,.lst h g=>let ⟨_,_,e⟩:=f _ _ _ h;.lst e g
theorem Spns.keep (k:∀b xs,H b=some (.tup xs)->H' b=some (.tup xs)) (f:∀b o u,H b=some (.frz o (.lst u))->∃o' u',H' b=some (.frz o' (.lst u'))):∀{ds:List D} {vs:List V},Spns G H ds vs->Spns G H' ds vs
 | _,_,.nil=>.nil
 | _,_,.cons h t=>.cons (Spn.keep k f h) (Spns.keep k f t)
end
theorem Spn.kp (k:Keep H H') {d:D} {v:V} (s:Spn G H d v):Spn G H' d v:=s.keep k.tups λb o u h=>⟨o,u,k.frzs b o _ h⟩
theorem Spns.kp (k:Keep H H') {d:List D} {v:List V} (s:Spns G H d v):Spns G H' d v:=s.keep k.tups λb o u h=>⟨o,u,k.frzs b o _ h⟩
theorem Spns.get:∀{ds:List D} {vs:List V} {i:Nat} {d:D},Spns G H ds vs->ds[i]? = some d->∃v,vs[i]? = some v/\Spn G H d v
 | _,_,_,_,.nil,e=>by simp at e
 | _,_,0,_,.cons h _,e=>by simp at e;subst e;exact⟨_,rfl,h⟩
 | _,_,i+1,d,.cons _ t,e=>by
  obtain⟨v,h1,h2⟩:=Spns.get (i:=i) (d:=d) t (by simpa using e)
  exact⟨v,by simpa using h1,h2⟩
theorem NoL.spn {d:D} (n:NoL d):∀{v:V},Rep K H d v->Spn G H d v:=by
 have key:∀{d:D},NoL d->(∀{v:V},Rep K H d v->Spn G H d v)/\∀{ds:List D} {vs:List V},d = .tup ds->Reps K H ds vs->Spns G H ds vs:=by
  intro d n
  induction n with
  | non=>exact⟨λ_=>.non,λe=>by cases e⟩
  | bl=>exact⟨λ_=>.bl,λe=>by cases e⟩
  | int=>exact⟨λ_=>.int,λe=>by cases e⟩
  | str=>exact⟨λ_=>.str,λe=>by cases e⟩
  | nil =>
   have q:∀{ds:List D} {vs:List V},D.tup [] = .tup ds->Reps K H ds vs->Spns G H ds vs:=λe r=>by cases e;cases r;exact .nil
   exact⟨λr=>by cases r with | tup h r=>exact .tup h (q rfl r),q⟩
  | @cons d ds h t ih1 ih2 =>
   have q:∀{es:List D} {vs:List V},D.tup (d::ds) = .tup es->Reps K H es vs->Spns G H es vs:=λe r=>by
    cases e
    cases r with
    | cons r1 r2=>exact .cons (ih1.1 r1) (ih2.2 rfl r2)
   exact⟨λr=>by cases r with | tup h r=>exact .tup h (q rfl r),q⟩
 intro v r
 exact (key n).1 r
end
def frR (d:D):aH->Hp->Hp->V->Prop:=λ_ H₀ H v=>Spn H₀ H d v
def Kz (G:Hp) (d:D):aH->Hp->Hp->V->Prop:=λK _ H v=>Rep K G d v/\Keep G H
def QE (G:Hp) (d:D):aH->Hp->Hp->V->Prop:=λ_ H₀ H v=>Same H₀ G/\Spn G H d v
def Vv (X:Cx) (t:RE):TE:=λσ H Q=>∃ρ P,StOk X ρ σ H/\t ρ P/\∀d v H',P d->Same H H'->Rep X.K H' d v->Spn X.H₀ H' d v->Q v H'
def DN (X:Cx) (e:Expr) (t:RE):Prop:=PE X e (Vv X t)
def Ta (X:Cx) (t:RA):TA:=λσ H Q=>∃ρ P,StOk X ρ σ H/\t ρ P/\∀ds vs H',P ds->Same H H'->Reps X.K H' ds vs->Spns X.H₀ H' ds vs->Q vs H'
def DNA (X:Cx) (es:List Expr) (t:RA):Prop:=PA X es (Ta X t)
def Bf (t:RE):RE:=λρ Q=>t ρ λd=>NoL d/\Q d
def rFr (i:Nat):RE:=λρ Q=>match ρ[i]? with
 | some (some (.mem true d R))=>R=frR d/\Q d
 | _=>False
def Ew (i:Nat) (ρ:En):En:=match ρ[i]? with
 | some (some (.own ds))=>ρ.set i (some (.mem true (.lst ds) (frR (.lst ds))))
 | _=>ρ
section
variable {X:Cx} {e:Expr} {es:List Expr} {te:RE} {t:RA} {pos:Pos}
theorem Cu (h:DE X e te):DN X e (Bf te):=PE.mono h λσ H Q hh=>iP hh λρ P st q k=>⟨ρ,_,st,q,λd v H' p s r=>k d v H' p.2 s r (p.1.spn r)⟩
theorem Rc (i:Nat) {x:Str} (hN:X.N[i]? = some x:=by rfl) (hv:Vis X.env.scope x:=by walk_at "vis") (hd:(x == ("__debug__":Str))=false:=by decide)
  (hcd:(x == ("__classdict__":Str))=false:=by decide):DN X (.Name x pos) (rFr i):=by
 refine PE.mono (pv i hN hv hd hcd) λσ H Q hh=>iP hh λρ P st q k=>?_
 unfold rFr at q
 split at q
 ·rename_i d R e
  obtain⟨v,h1,h2⟩:=st.rel i _ e
  obtain⟨rfl,q⟩:=q
  exact⟨v,h1,k d v H q (Same.refl H) (h2.1 rfl) (h2.2 H (Keep.refl H))⟩
 ·exact q.elim
theorem TC:DNA X [] aV:=PA.mono NO λσ H Q hh=>iP hh λρ P st q k=>k [] [] H q (Same.refl H) .nil .nil
theorem sI (ha:DN X e te) (hr:DNA X es t) (hs:starEach (e::es) X.env=(false,eval e X.env)::starEach es X.env:=by rfl):DNA X (e::es) (aC te t) :=
 PA.mono (xZ ha hr hs) λσ H Q hh=>iP hh λρ P st q k=>⟨ρ,_,st,q,λd v H1 hd s1 r1 p1=>⟨ρ,_,st.ext s1,hd,λds vs H2 hds s2 r2 p2=>k (d::ds) (v::vs) H2 hds (s1.trans s2) (.cons (r1.keep (.of s2)) r2) (.cons (p1.kp (.of s2)) p2)⟩⟩
theorem ZF {x1} (h:DNA X es t):DN X (.Tuple es x1 pos) (jP t) :=
 PE.mono (Le h) λσ H Q hh=>iP hh λρ P st q k=>⟨ρ,_,st,q,λds vs H1 hd s1 r p1=>⟨by rw[<-r.length];exact hd.1.ok,λp hp=>by
  have sm:Same H1 (upd H1 p (.tup vs)):=Same.fn λb u e=>by rw[cT (eT e hp)];exact e
  exact k (.tup ds) (.ref p) _ hd.2 (s1.trans sm) (.tup fK (r.keep (.of sm))) (.tup fK (p1.kp (.of sm)))⟩⟩
end
def IJ (X:Cx) (t:RS):TS:=λDe σ H=>∃ρ E,StOk X ρ σ H/\t E ρ/\(∀ρ,¬E.nx ρ)/\∀d v H',E.rt d->Same X.H₀ H'->Rep X.K H' d v->Spn X.H₀ H' d v->De.rt v H'
section
variable {X:Cx} {st:Stmt} {rest sts:List Stmt} {t u:RS} {e:Expr} {te:RE} {pos:Pos}
theorem wI (h1:DS X st t) (h2:PSs X rest (IJ X u)):PSs X (st::rest) (IJ X (JL t u)) :=
 PSs.mono (NS h1 h2) λDe σ H ⟨ρ,E,so,q,n,r⟩=>⟨ρ,_,so,q,λρ' σ' H' hq k s'=>⟨ρ',E,s',hq,n,r⟩,λ_ _ _ z=>z.elim,λ_ _ _ z=>z.elim,λ_ _ _ z=>z.elim⟩
theorem Jn (h:DN X e te):PSs X [.Return (some e) pos] (IJ X (fV te)) :=
 PSs.mono (Ds (Li h)) λDe σ H ⟨ρ,E,so,q,n,r⟩=>⟨ρ,_,so,q,λd v H' hd s' rr p=>r d v H' hd (so.same.trans s') rr p⟩
theorem Cw (i:Nat) (h:PSs X sts (IJ X t)):PSs X sts (IJ X (λE ρ=>t E (Ew i ρ))):=by
 intro pins s σ H De I ⟨ρ,E,so,q,n,r⟩
 have q:t E (Ew i ρ):=q
 unfold Ew at q
 split at q
 ·rename_i ds ex
  obtain⟨v,h1,p,vs,rfl,hp,h0,rr⟩:=so.rel i _ ex
  obtain⟨o,I2⟩:=Inv.freeze I hp
  have kp:Keep H (upd H p (.frz o (.lst vs))):=Keep.chg1 hp (.inl ⟨_,rfl⟩)
  have rep:Rep X.K (upd H p (.frz o (.lst vs))) (.lst ds) (.ref p):=.lst (.inl ⟨o,fK⟩) (rr.keep kp)
  obtain⟨so2,k2⟩:=so.updW (x':=.mem true (.lst ds) (frR (.lst ds))) (v':=.ref p) ex h1 (H':=upd H p (.frz o (.lst vs))) (λb o h w=>by rw[cT (by rintro rfl;exact w rfl)];exact h)
   ⟨λ_=>rep,λH2 k=>.lst (k.frzs _ _ _ fK) h0⟩ λa o=>o.elim
  rw[oJ h1] at so2
  exact h pins s σ _ De I2 ⟨_,E,so2,q,n,r⟩
 ·exact h pins s σ H De I ⟨ρ,E,so,q,n,r⟩
end
def spN (K:aH) (F:FD):Sp:=λvs H Q _=>TabsIn K H/\∃ds P,Reps K H ds vs/\F ds P/\∀d v H1,P d->Same H H1->Rep K H1 d v->Spn H H1 d v->Q v H1
structure FnAtN (P:bV) (w:dE) (K:aH) (mg:Str->Option aD) (base:Heap) (x:Str) (ps:List Str) (k:Nat) (F:FD):Prop where
 ex:∃f fd,FnOk P w K mg base CX0 k f fd ps (spN K F)/\Binds K fd ps []/\mG K (.ref f)=true/\mg x=some (.ref f)
section
variable {P:bV} {w:dE} {K:aH} {mg:Str->Option aD} {base:Heap} {x:Str} {st:Stmt} {N ps:List Str} {k:Nat} {F:FD} {t:RS}
theorem DefAt.mkN (Z:DefAt K mg x st ps) (len:∀ds Q,F ds Q->ds.length=ps.length) (pure:∀ds Q,F ds Q->t { nx:=λ_=>False,rt:=Q } (dW N ds))
  (hbody:∀{f:Addr} {cdv:aD} {A:dF} {outer:List Env} {s:aG} {H:Hp} {E:XK},N.Nodup->Room k (A.deeper (envOfC x (fZ st) s.heap.objs.size f cdv)) ->
   PSs (BU CX0 P w K mg base N x (fZ st) f cdv A outer s H E).nox (qS st) (IJ (BU CX0 P w K mg base N x (fZ st) f cdv A outer s H E).nox t))
  (Sc:FnScope N ps (fZ st):=by exact⟨rfl,rfl,rfl,by decide +kernel,rfl,by decide +kernel,by decide +kernel⟩):FnAtN P w K mg base x ps (k+1) F:=by
 obtain⟨f,fd,a,b,c⟩:=Z.ex
 refine⟨f,fd,?_,.all c,a.kp,b⟩
 refine a.ok Sc (λvs H Q E ⟨_,ds,P',r,h,_⟩=>by rw[<-r.length];exact len ds P' h) λcdv A outer s H vs Q E hr ⟨tb,ds,P',r,h,kk⟩=>⟨_,hbody (cdv:=cdv) (A:=A) (outer:=outer) (s:=s) (H:=H) (E:=E) Sc.nd hr,?_⟩
 exact⟨dW N ds,_,OL (X:=(BU CX0 P w K mg base N x (fZ st) f cdv A outer s H E).nox) tb r,pure ds P' h,λ_ z=>z,λd v H' hq sm rr sp=>kk d v H' hq sm rr sp⟩
def AE (X:Cx) (t:RS):TS:=λDe σ H=>∃ρ E,StOk X ρ σ H/\t E ρ/\(∀ρ,¬E.nx ρ)/\(∀ρ,¬E.bk ρ)/\(∀ρ,¬E.ct ρ)/\∀d v H',E.rt d->Same X.H₀ H'->Rep X.K H' d v->De.rt v H'
theorem Os {qual:Str} {f:Addr} {fd:lY} (Fu:Fun K x qual st f fd) (len:∀ds Q,F ds Q->ds.length=ps.length) (pure:∀ds Q,F ds Q->t { nx:=λ_=>False,rt:=Q } (dW N ds))
  (hbody:∀{cdv:aD} {A:dF} {outer:List Env} {s:aG} {H:Hp} {E:XK},N.Nodup->Room k (A.deeper (envOfC qual (fZ st) s.heap.objs.size f cdv)) ->
   PSs (BU CX0 P w K mg base N qual (fZ st) f cdv A outer s H E).nox (qS st) (AE (BU CX0 P w K mg base N qual (fZ st) f cdv A outer s H E).nox t))
  (Sc:FnScope N ps (fZ st):=by exact⟨rfl,rfl,rfl,by decide +kernel,rfl,by decide +kernel,by decide +kernel⟩):FnOk P w K mg base CX0 (k+1) f fd ps (spD K F):=by
 refine Fu.ok Sc (λvs H Q E ⟨_,ds,P,r,h,_⟩=>by rw[<-r.length];exact len ds P h) λcdv A outer s H vs Q E hr ⟨tb,ds,P',r,h,kk⟩=>⟨_,hbody (cdv:=cdv) (A:=A) (outer:=outer) (s:=s) (H:=H) (E:=E) Sc.nd hr,?_⟩
 exact⟨dW N ds,_,OL (X:=(BU CX0 P w K mg base N qual (fZ st) f cdv A outer s H E).nox) tb r,pure ds P' h,λ_ z=>z,λ_ z=>z,λ_ z=>z,λd v H' hq sm rv=>kk d v H' hq sm rv⟩
end
def rF (t u:RS):RS:=λE ρ=>t { nx:=u E,rt:=E.rt } ρ
section
variable {X:Cx} {st:Stmt} {rest sts:List Stmt} {t u:RS} {e:Expr} {te:RE} {pos:Pos}
theorem jJ (h1:DS X st t) (h2:PSs X rest (AE X u)):PSs X (st::rest) (AE X (rF t u)) :=
 PSs.mono (NS h1 h2) λDe σ H ⟨ρ,E,so,q,n,b,c,r⟩=>⟨ρ,_,so,q,λρ' σ' H' hq k s'=>⟨ρ',E,s',hq,n,b,c,r⟩,λd v H' hd k s' rr=>r d v H' hd s' rr,λ_ _ _ z=>z.elim,λ_ _ _ z=>z.elim⟩
theorem Nt (h:DSs X sts t):PSs X sts (AE X t) :=
 PSs.mono h λDe σ H ⟨ρ,E,so,q,n,b,c,r⟩=>⟨ρ,E,so,q,λρ' _ _ z=>(n ρ' z).elim,λd v H' hd _ s' rr=>r d v H' hd s' rr,λρ' _ _ z=>(b ρ' z).elim,λρ' _ _ z=>(c ρ' z).elim⟩
end
def Ky (G:Hp):Option S->Option S
 | some (.d x)=>some (.mem true x (Kz G x))
 | y=>y
def Lr (j:Nat) (F:FD) (t:RA):RS:=λE ρ=>t ρ λds=>F ds λd=>∀G,E.nx ((ρ.map (Ky G)).set j (some (.mem true d (QE G d))))
theorem StOk.old {X:Cx} {ρ:En} {σ:St} {H:Hp} (so:StOk X ρ σ H):StOk X (ρ.map (Ky H)) σ H:=by
 have back:∀(i:Nat) (x:S),(ρ.map (Ky H))[i]? = some (some x)->(∃d,x = .mem true d (Kz H d)/\ρ[i]? = some (some (.d d)))\/ρ[i]? = some (some x):=λi x e=>by
  rw[bJ] at e
  cases q:ρ[i]? with
  | none=>rw[q] at e;cases e
  | some y =>
   rw[q] at e
   cases y with
   | none=>cases e
   | some y =>
    cases y with
    | d d=>cases e;exact .inl ⟨d,rfl,rfl⟩
    | _=>cases e;exact .inr rfl
 refine⟨by rw[cI];exact so.len,so.same,λi x e=>?_,λi j x y v u a e1 e2 e3 e4 o1 o2=>?_,so.t0⟩
 ·rcases back i x e with ⟨d,rfl,e2⟩ | e2
  ·obtain⟨v,h1,h2⟩:=so.rel i _ e2
   exact⟨v,h1,λ_=>h2,λH2 k=>⟨h2,k⟩⟩
  ·exact so.rel i x e2
 ·rcases back i x e1 with ⟨d,rfl,_⟩ | e1'
  ·exact o1.elim
  ·rcases back j y e2 with ⟨d,rfl,_⟩ | e2'
   ·exact o2.elim
   ·exact so.sep i j x y v u a e1' e2' e3 e4 o1 o2
section
variable {X:Cx} {k n j:Nat} {ps:List Str} {F:FD} {x y:Str} {p pos pos' cpos:Pos} {e:Expr} {es:List Expr} {t:RA}
theorem Nr (hN:X.N.Nodup) (C:FnAtN X.prog X.w X.K X.mg X.base x ps k F) (hr:Room n X.A) (ha:DA X (e::es) t) (hk':k<=n:=by decide) (hg:Gl X x:=by rfl) (hi:X.N[j]? = some y:=by rfl) (hx:Loc X.env.scope y:=by walk_at "vis")
  (hs:swapsWith (.Call (.Name x p) (e::es) [] cpos) (some (.Name y pos')) pos.line X.env=pure false:=by rfl) (hf:X.fn y=true\/X.env.scope.names.lookup y=some .local:=by walk_at "loc")
  (hdb:(x == ("__debug__":Str))=false:=by decide) (he:starEach (e::es) X.env=(false,eval e X.env)::starEach es X.env:=by rfl) (hpl:(backTo cpos (starEach es X.env)).any (·.1)=false:=by rfl) :
  DS X (.Assign [.Name y pos'] (.Call (.Name x p) (e::es) [] cpos) pos) (Lr j F t):=by
 obtain⟨f,fd,G,hb,hk,hm⟩:=C.ex
 refine PS.mono (Ap hN hi hx (Do (E:=E0) G (hr.mono hk') hg hm hk hb .nil Rs ha hdb he hpl) hs hf) λDe σ H hh=>rW hh λρ E so q n r bk ct=>?_
 refine⟨ρ,_,so,q,λds vs H1 hd s1 rr=>?_⟩
 show spN X.K F (vs++[]) H1 _ E0
 rw[eV]
 have so1:=so.ext s1
 refine⟨so1.tabs,ds,_,rr,hd,λd v H2 hn s2 rp sp=>?_⟩
 exact n _ _ _ (hn H1) (.of (s1.trans s2)) ((so1.old).put s2 (x':=.mem true d (QE H1 d)) ⟨λ_=>rp,λH3 k3=>⟨so1.same,sp.kp k3⟩⟩ λa o=>o.elim)
end
def Lp (j:Nat) (Pt:D->Prop) (t:RS):RS:=λE ρ=>∃d b G ρ',ρ[j]? = some (some (.mem b d (QE G d)))/\Pt d/\ρ'.length=ρ.length /\
 (∀i x,ρ'[i]? = some (some x)->(i=j/\x = .mem false d (QE G d))\/∃y,x = .mem true y (Kz G y)/\ρ[i]? = some (some x))/\t E ρ'
def Hx (k l:Int) (d:D):Prop:=∃ds es xs,d = .tup ds/\atI ds k=some (.tup es)/\atI es l=some (.lst xs)
section
variable {X:Cx} {ρ ρ':En} {σ:St} {H G:Hp} {pins:List (Addr × Obj)} {s:aG}
theorem StOk.clr {j:Nat} {d:D} {b:Bool} {a:Addr} {o o':Obj} {us:List V} (so:StOk X ρ σ H) (e:ρ[j]? = some (some (.mem b d (QE G d)))) (ha:H a=some (.frz o (.lst us))) (g:G a=none) (hl:ρ'.length=ρ.length)
  (h:∀i x,ρ'[i]? = some (some x)->(i=j/\x = .mem false d (QE G d))\/∃y,x = .mem true y (Kz G y)/\ρ[i]? = some (some x)):X.H₀ a=none/\StOk X ρ' σ (upd H a (.frz o' (.lst []))):=by
 obtain⟨v,h1,_,h2⟩:=so.rel j _ e
 obtain⟨sg,sp⟩:=h2 H (Keep.refl H)
 have h0:=sg.free g
 have ne:∀c u,H c=some u->(∀o u',u≠.frz o u')->upd H a (.frz o' (.lst [])) c=some u:=λc u q n=>by
  rw[cT (by rintro rfl;rw[ha] at q;cases q;exact n _ _ rfl)];exact q
 have ng:∀{Z:Hp} (c:Addr) (u:HO),Z a=none->Z c=some u->c≠a:=λc u n q z=>by subst z;rw[n] at q;cases q
 have lam:LamK H (upd H a (.frz o' (.lst []))):=.of (λc φ q=>ne c _ q λ_ _ z=>by cases z) λc ps q=>ne c _ q λ_ _ z=>by cases z
 have sm:Same X.H₀ (upd H a (.frz o' (.lst []))):=⟨λc u q nt=>by rw[cT (ng c u h0 q)];exact so.same.get c u q nt,so.same.tbls.trans lam⟩
 have kg:Keep G H->Keep G (upd H a (.frz o' (.lst []))):=λk=>⟨λc xs q=>by rw[cT (ng c _ g q)];exact k.tups c xs q,λc ob u q=>by rw[cT (ng c _ g q)];exact k.frzs c ob u q,λc φ q=>by rw[cT (ng c _ g q)];exact k.exts c φ q,
  λc fs q=>by rw[cT (ng c _ g q)];exact k.xds c fs q,k.tbls.trans lam⟩
 refine⟨h0,by rw[hl];exact so.len,sm,λi x ei=>?_,λi k x y v u a' e1 e2 e3 e4 o1 o2=>?_,so.t0⟩
 ·rcases h i x ei with ⟨rfl,rfl⟩ | ⟨y,rfl,ey⟩
  ·refine⟨v,h1,λz=>(by cases z),λH3 k3=>⟨sg,Spn.kp k3 (sp.keep (λc xs q=>ne c _ q λ_ _ z=>by cases z) λc ob u q=>?_)⟩⟩
   by_cases hc:c=a
   ·subst hc;exact⟨_,_,fK⟩
   ·exact⟨ob,u,by rw[cT hc];exact q⟩
  ·obtain⟨w,g1,g2,g3⟩:=so.rel i _ ey
   obtain⟨r0,k0⟩:=g3 H (Keep.refl H)
   exact⟨w,g1,λ_=>r0.keep (kg k0),λH3 k3=>⟨r0,(kg k0).trans k3⟩⟩
 ·rcases h i x e1 with ⟨rfl,rfl⟩ | ⟨y,rfl,ey⟩ <;> exact o1.elim
end
section
variable {X:Cx} {x:Str} {npos spos spos2 apos cpos pos kp lp:Pos} {k l:Int} {jk jl:Nat} {rest:List Stmt} {u:RS}
theorem Ik {e:Expr} {to:TE} {j:Nat} {Pt:D->Prop} (he:PE X e to)
  (hto:∀{ρ:En} {σ:St} {H H':Hp} {d:D} {G:Hp} {b:Bool},StOk X ρ σ H->ρ[j]? = some (some (.mem b d (QE G d)))->Pt d->∃a o us,H a=some (.frz o (.lst us))/\G a=none/\∀(H':Hp) Q,(∀c xs,H c=some (.tup xs)->H' c=some (.tup xs))->Q (.ref a) H'->to σ H' Q)
  (hbase:attributeBase e "clear" X.env (eval e X.env)=eval e X.env) (hline:(apos.endLine == cpos.line)=true) (hsw:swapsWith (.Call (.Attribute e "clear" apos) [] [] cpos) none pos.line X.env=pure false) (h2:PSs X rest (AE X u)) :
  PSs X (.Expr (.Call (.Attribute e "clear" apos) [] [] cpos) pos::rest) (AE X (Lp j Pt u)):=by
 intro pins s σ H De I ⟨ρ,E,so,q,n,bk,ct,r⟩
 obtain⟨d,b,G,ρ',e1,pt,hl,hk,hn⟩:=q
 obtain⟨a,o,us,ha,ga,hQ⟩:=hto (H':=H) so e1 pt
 have h0:X.H₀ a=none:=(so.clr (o':=o) e1 ha ga hl hk).1
 have I1:=Inv.thaw I ha h0
 have tu:∀c xs,H c=some (.tup xs)->upd H a (.lst us) c=some (.tup xs):=λc xs q=>by rw[cT (by rintro rfl;rw[ha] at q;cases q)];exact q
 refine wX (thn (UI (pos:=pos) (Lc mF PySem.F.slot_list_clear PySem.F.type_list_clear Ko he hbase hline) hsw pins s σ _ { nx:=λσ' H'=>σ'=σ/\H'=upd (upd H a (.lst us)) a (.lst []),rt:=λ_ _=>False,bk:=λ_ _=>False,ct:=λ_ _=>False } I1 ?_) λf s1 q=>?_)
 ·refine hQ _ _ tu ⟨.inl ⟨rfl,us,SqL.of fK⟩,a,us,rfl,rfl,fK,rfl,rfl⟩
 ·cases f with
  | next =>
   obtain⟨σ',H',I2,rfl,rfl⟩:=q
   obtain⟨o',I3⟩:=Inv.freeze I2 (a:=a) (xs:=[]) fK
   have eH:upd (upd (upd H a (.lst us)) a (.lst [])) a (.frz o' (.lst []))=upd H a (.frz o' (.lst [])):=by
    funext c
    by_cases hc:c=a
    ·subst hc;rw[fK,fK]
    ·rw[cT hc,cT hc,cT hc,cT hc]
   rw[eH] at I3
   exact h2 pins s1 σ' _ De I3 ⟨ρ',E,(so.clr e1 ha ga hl hk).2,hn,n,bk,ct,r⟩
  | ret v=>obtain⟨_,_,_,_,_,z⟩:=q;exact z.elim
  | brk=>obtain⟨_,_,_,z⟩:=q;exact z.elim
  | cont=>obtain⟨_,_,_,z⟩:=q;exact z.elim
end
theorem Spns.length {G H:Hp}:∀{ds:List D} {vs:List V},Spns G H ds vs->ds.length=vs.length
 | _,_,.nil=>rfl
 | _,_,.cons _ t=>by simp[Spns.length t]
theorem Spns.at {G H:Hp} {ds:List D} {vs:List V} {i:Int} {d:D} (r:Spns G H ds vs) (h:atI ds i=some d):∃v,atI vs i=some v/\Spn G H d v:=by
 unfold atI at h ⊢
 rw[<-r.length]
 cases e:ixN ds.length i with
 | none=>rw[e] at h;cases h
 | some j =>
  rw[e] at h
  exact r.get h
section
variable {X:Cx} {x:Str} {npos spos spos2 apos cpos pos kp lp:Pos} {k l:Int} {jk jl:Nat} {rest:List Stmt} {u:RS}
theorem RC (j:Nat) (h2:PSs X rest (AE X u)) (hN:X.N[j]? = some x:=by rfl) (hv:Vis X.env.scope x:=by walk_at "vis") (hd:(x == ("__debug__":Str))=false:=by decide) (hcd:(x == ("__classdict__":Str))=false:=by decide)
  (hbase:attributeBase (.Subscript (.Subscript (.Name x npos) (.Constant (.int k) jk kp) spos) (.Constant (.int l) jl lp) spos2) "clear" X.env (eval (.Subscript (.Subscript (.Name x npos) (.Constant (.int k) jk kp) spos) (.Constant (.int l) jl lp) spos2) X.env)=eval (.Subscript (.Subscript (.Name x npos) (.Constant (.int k) jk kp) spos) (.Constant (.int l) jl lp) spos2) X.env:=by rfl)
  (hline:(apos.endLine == cpos.line)=true:=by rfl) (hsw:swapsWith (.Call (.Attribute (.Subscript (.Subscript (.Name x npos) (.Constant (.int k) jk kp) spos) (.Constant (.int l) jl lp) spos2) "clear" apos) [] [] cpos) none pos.line X.env=pure false:=by rfl) :
  PSs X (.Expr (.Call (.Attribute (.Subscript (.Subscript (.Name x npos) (.Constant (.int k) jk kp) spos) (.Constant (.int l) jl lp) spos2) "clear" apos) [] [] cpos) pos::rest) (AE X (Lp j (Hx k l) u)):=by
 refine Ik (Ld ZN (Ld ZN (pv j hN hv hd hcd) An (λ_ _=>rfl)) An (λ_ _=>rfl)) ?_ hbase hline hsw h2
 intro ρ σ H H' d G b so e pt
 obtain⟨ds,es,xs,rfl,e1,e2⟩:=pt
 obtain⟨v,h1,_,h3⟩:=so.rel j _ e
 obtain⟨_,sp⟩:=h3 H (Keep.refl H)
 cases sp with
 | tup hp r =>
  obtain⟨v2,f1,s2⟩:=r.at e1
  cases s2 with
  | tup hq r2 =>
   obtain⟨v3,f2,s3⟩:=r2.at e2
   cases s3 with
   | lst ha ga=>exact⟨_,_,_,ha,ga,λH2 Q kt q=>⟨_,h1,_,_,_,_,rfl,rfl,SqT.of (kt _ _ hp),f1,_,_,_,_,rfl,rfl,SqT.of (kt _ _ hq),f2,q⟩⟩
end
def Nk:R22:=λx y Q=>match x,y with
 | .lst xs,.lst ys=>xs.length=ys.length/\match eqL (eqF 8) xs ys with
  | some b=>Q (.bl !b)
  | none=>False
 | _,_=>False
section
variable {X:Cx}
theorem Tf {k:Nat} (hr:Room k X.A):OpD X (compareOp .NotEq) Nk:=by
 intro pins s σ H x y v u Q I rx ry hh_0
 obtain⟨d,e,P,r1,r2,q,kk⟩:=hh_0
 have hu:=hr.un
 unfold Nk at q
 split at q
 ·rename_i xs ys
  obtain⟨hl,q⟩:=q
  split at q
  ·rename_i b h
   obtain⟨a,vs,rfl,h1,q1⟩:=r1.lst
   obtain⟨c,ws,rfl,h2,q2⟩:=r2.lst
   cases rx;cases ry
   obtain⟨its,rv,ht,_⟩:=I.list h1
   obtain⟨its2,rv2,ht2,_⟩:=I.list h2
   have l1:xs.length=its.length:=q1.length.trans rv.length
   have l2:ys.length=its2.length:=q2.length.trans rv2.length
   have rc:SeqAt.RcNeAt X.A s (.ref a) (.ref c) (!b):=by
    have:=SeqAt.RcNeAt.lists (A:=X.A) (s:=s) (e:=λj=>match xs[j]?,ys[j]? with | some x,some y=>(eqF 8 x y).getD false | _,_=>false) ht.isList ht2.isList (by simp;lia) (by lia) (λj g1 g2=>?_)
    ·have al:=BH h
     simp only[bD,<-l1] at this
     rw[<-hl,Nat.min_self,beq_self_eq_true,vI] at al
     rw[<-al]
     exact this
    ·simp only[bD] at g1 g2
     have e1:xs[j]? = some (xs[j]'(by lia)):=aF _
     have e2:ys[j]? = some (ys[j]'(by lia)):=aF _
     obtain⟨k,hk⟩:=GJ h j _ _ e1 e2
     rw[e1,e2]
     simp only[hk,kO]
     obtain⟨v1,f1,f2⟩:=q1.get e1
     obtain⟨v2,f3,f4⟩:=q2.get e2
     obtain⟨u1,g3,g4⟩:=rv.get f1
     obtain⟨u2,g5,g6⟩:=rv2.get f3
     have a1:its.toArray[j]=u1:=by
      have:=aF g1
      rw[this] at g3
      simpa using dN g3
     have a2:its2.toArray[j]=u2:=by
      have:=aF g2
      rw[this] at g5
      simpa using dN g5
     rw[a1,a2]
     exact (xS I 8 hk f2 f4 g4 g6 (by show X.A.units+1+8<cLine;lia)).2
   exact rc _ _ _ _ ⟨.bl _,H,I,rfl,kk _ _ H q (Same.refl H) (.bl _)⟩
  ·exact q.elim
 ·exact q.elim
end
abbrev rcI (i:Int):RE:=rC (.int i)
abbrev ixV (i:Nat) (k:Int):RE:=r2 dIx (aL i) (rC (.int k))
abbrev sdV (d:D):Option S:=some (.d d)
def oI:RS :=
 dY (eX 4 (r2 pF (aL 2) (aL 3)))
 (dY (eX 2 (cG 3))
 (eX 3 (cG 4)))
def vH:RS :=
 dY (eX 2 (rCB PK (aC (cG 0) aV)))
 (dY (eX 3 (rCB PK (aC (cG 1) aV)))
 (dY (ES (dX (r2 (pV true) (aL 3) (rcI 0))) oI)
 (fV (cG 2))))
def YA (F_shared_divisor:FD):RS :=
 dY (kG (dX (r2 (pV false) (aL 1) (rcI 0))) ((λ_ _=>False)) iB)
 (dY (eX 2 (cV F_shared_divisor (aC (cG 0) (aC (cG 1) aV))))
 (dY (kG (dX (r2 (nG λi j=>decide (i<j)) (aL 1) (rcI 0))) (eX 2 (r1 wF (aL 2))) iB)
 (fV (jP (aC (r2 jW (aL 0) (aL 2)) (aC (r2 jW (aL 1) (aL 2)) aV))))))
def CW:RS :=
 fV (CO (r1 (BV "int") (cG 0)) (Lq (r1 (BV "bool") (cG 0))))
def Dx (tI:FD):RS :=
 fV (cV tI (aC (r2 mH (r2 eJ (ixV 0 0) (ixV 1 1)) (r2 eJ (ixV 1 0) (ixV 0 1))) (aC (r2 eJ (ixV 0 1) (ixV 1 1)) aV)))
def XZ (tI:FD):RS :=
 fV (cV tI (aC (r2 kT (r2 eJ (ixV 0 0) (ixV 1 1)) (r2 eJ (ixV 1 0) (ixV 0 1))) (aC (r2 eJ (ixV 0 1) (ixV 1 1)) aV)))
def pX:RS :=
 Uc 0 1 (aC (cG 1) (aC (r2 pF (aL 0) (aL 1)) aV))
def yO:RS :=
 dY (eX 0 (rCB PK (aC (cG 0) aV)))
 (dY (eX 1 (rCB PK (aC (cG 1) aV)))
 (dY (ES (dX (r2 (nG λi j=>decide (j<i)) (aL 1) (rcI 0))) pX)
 (fV (cG 0))))
def SC:RS :=
 fV (jP (aC (r2 eJ (aL 0) (ixV 1 0)) (aC (ixV 1 1) aV)))
def Lx (HL:FD) (nY:FD):RS :=
 dY (eX 2 (ixV 0 0))
 (fV (jP (aC (cV HL (aC (cV nY (aC (cG 2) (aC (ixV 1 0) aV))) (aC (ixV 0 1) aV))) (aC (cV HL (aC (cV nY (aC (cG 2) (aC (ixV 1 1) aV))) (aC (ixV 0 2) aV))) aV))))
def RY (QJ:FD):RS :=
 dY (eX 2 (cV QJ (aC (cG 1) (aC (jP (aC (ixV 0 1) (aC (ixV 0 2) aV))) aV))))
 (fV (jP (aC (r2 eJ (ixV 0 0) (ixV 1 0)) (aC (ixV 2 0) (aC (ixV 2 1) aV)))))
def JP (nY:FD):RS :=
 dY (eX 1 (ixV 0 0))
 (fV (jP (aC (cG 1) (aC (cV nY (aC (r1 wF (aL 1)) (aC (ixV 0 1) aV))) (aC (cV nY (aC (r1 wF (aL 1)) (aC (ixV 0 2) aV))) aV)))))
def uQ (F_shared_divisor:FD):RS :=
 fV (r2 eJ (aL 0) (r2 jW (aL 1) (cV F_shared_divisor (aC (cG 0) (aC (cG 1) aV)))))
def Dy:RS :=
 dY (eX 3 (r2 eJ (r2 kT (ixV 1 0) (ixV 0 0)) (r2 kT (ixV 2 1) (ixV 0 1))))
 (dY (eX 4 (r2 eJ (r2 kT (ixV 1 1) (ixV 0 1)) (r2 kT (ixV 2 0) (ixV 0 0))))
 (fV (r2 kT (aL 3) (aL 4))))
def oX:RS :=
 Dv 1
def wV (vK:FD):RS :=
 dY (ES (Bd (dX (r2 (nG λi j=>decide (j<i)) (r1 rT (aL 1)) (rcI 1))) (dX (r2 (nG λi j=>decide (i<=j)) (cV vK (aC (r2 dIx (aL 1) (r1 wF (rcI 2))) (aC (r2 dIx (aL 1) (r1 wF (rcI 1))) (aC (cG 2) aV)))) (rcI 0)))) oX)
 (vB 1 (cG 2))
def CY (vK:FD):RS :=
 dY (sZ 1 (qD aV))
 (dY (oW (riL (cG 0)) (fB 2) (wV vK))
 (fV (UN (aL 1) qX (AM (r1 wF (rcI 1))))))
def wQ:RS :=
 eX 0 (r2 jW (aL 0) (aL 1))
def CU:RS :=
 dY (oW (OE (aC (cG 2) aV)) (fB 3) wQ)
 (fV (r2 pF (aL 0) (aL 1)))
def wR (Zn:FD):RS :=
 dY (eX 2 (cV Zn (aC (cG 0) (aC (cG 1) aV))))
 (fV (jP (aC (r2 jW (aL 0) (aL 2)) (aC (r2 jW (aL 1) (aL 2)) aV))))
def yP:RS :=
 fV (r2 dIx ((λρ Q=>(qD (aC (rcI 1) (aC (r2 mH (rcI 1) (r2 pF (r2 jW (aL 0) (rcI 3)) (rcI 12))) (aC (r2 mH (rcI 1) (r2 pF (r2 jW (aL 0) (rcI 3)) (r2 VR (rcI 10) (rcI 9)))) aV)))) ρ λds=>Q (.lst ds))) (r2 pF (aL 0) (rcI 3)))
def AO (Zn:FD):RS :=
 eX 2 (cV Zn (aC (cV Zn (aC (cG 2) (aC (cG 3) aV))) (aC (cG 4) aV)))
def JM (Zn:FD):RS :=
 dY (eX 2 (cG 0))
 (dY (oW (riL (cG 1)) (rJ 2 (iH (fB 3) (iH (fB 4) rH))) (AO Zn))
 (dY (sZ 5 (yL (riL (cG 1)) 2 [2] (rJ 2 (iH (fB 0) (iH (fB 1) rH))) (jP (aC (r2 jW (aL 0) (aL 2)) (aC (r2 jW (aL 1) (aL 2)) aV)))))
 (dY (eX 6 (Be (aL 5) (r1 Co (aL 5))))
 (fV (jP (aC (r2 jW (aL 0) (aL 2)) (aC (r1 ML (r2 CC (UN (aL 5) (AM (cG 6)) qX) (UN (aL 5) qX (AM (cG 6))))) aV)))))))
def DD:RS :=
 fV ((λρ Q=>(Bg (aL 0) (r2 CC (UN (aL 0) (AM (rcI 1)) qX) (UN (aL 0) qX (AM (rcI 1))))) ρ λds=>Q (.lst ds)))
def RZ:RS :=
 fV (r2 kT (r2 mH (r2 eJ (ixV 0 0) (ixV 1 0)) (r2 eJ (ixV 0 1) (ixV 1 1))) (r2 eJ (ixV 0 2) (aL 2)))
def OA (F_half_round:FD):RS :=
 dY (eX 1 ((λρ Q=>(NX (aL 0)) ρ λds=>Q (.lst ds))))
 (fV (r2 CC (cV F_half_round (aC (cG 1) aV)) (cV F_half_round (aC ((λρ Q=>(NW (aL 1)) ρ λds=>Q (.lst ds))) aV))))
def DF (F_shared_divisor:FD):RS :=
 eX 3 (cV F_shared_divisor (aC (cV F_shared_divisor (aC (cG 3) (aC (cG 4) aV))) (aC (cG 5) aV)))
def OB (tT:FD) (F_shared_divisor:FD):RS :=
 dY (eX 2 (cV tT (aC (cG 1) aV)))
 (dY (kG (dX (r2 (nG λi j=>decide (i<j)) (r1 rT (aL 2)) (rcI 3))) (fV (rC .non)) iB)
 (dY (eX 3 (cG 0))
 (dY (oW (riL (cG 2)) (rJ 2 (iH (fB 4) (iH (fB 5) rH))) (DF F_shared_divisor))
 (fV (jP (aC (r2 jW (aL 0) (aL 3)) (aC (r1 ML ((λρ Q=>(yL (riL (cG 2)) 2 [3] (rJ 2 (iH (fB 0) (iH (fB 1) rH))) (jP (aC (r2 jW (aL 0) (aL 2)) (aC (r2 jW (aL 1) (aL 2)) aV)))) ρ λds=>Q (.lst ds)))) aV)))))))
def JO:RS :=
 dY (eX 4 (rCB PK (aC (cG 1) aV)))
 (dY (eX 5 (rCB PK (aC (cG 3) aV)))
 (fV (jP (aC (r2 mH (r2 eJ (ixV 0 0) (aL 5)) (r2 eJ (ixV 2 0) (aL 4))) (aC (r2 mH (r2 eJ (ixV 0 1) (aL 5)) (r2 eJ (ixV 2 1) (aL 4))) (aC (r2 mH (aL 4) (aL 5)) aV))))))
def tG (F_crossing:FD):RS :=
 dY (kG (dX (r2 (nG λi j=>decide (i<=j)) (ixV 3 1) (rcI 0))) (vB 2 (jP (aC (r2 dIx (ixV 3 0) (rcI 0)) (aC (r2 dIx (ixV 3 0) (rcI 1)) (aC (rcI 1) aV))))) iB)
 (kG (dX (r2 (nG λi j=>decide (i<j)) (r2 eJ (ixV 3 1) (ixV 4 1)) (rcI 0))) (vB 2 (cV F_crossing (aC (ixV 3 0) (aC (ixV 3 1) (aC (ixV 4 0) (aC (ixV 4 1) aV)))))) iB)
def wW (F_crossing:FD) (F_neighbours:FD):RS :=
 dY (sZ 2 (qD aV))
 (dY (oW (riL (cV F_neighbours (aC ((λρ Q=>(Bg (aL 0) (aL 1)) ρ λds=>Q (.lst ds))) aV))) (rJ 2 (iH (fB 3) (iH (fB 4) rH))) (tG F_crossing))
 ((λE ρ=>(fV (cG 2)) E (xU 2 ρ))))
def vG:RS :=
 eX 5 (r2 eJ (aL 5) (ixV 6 2))
def AU (vY:FD) (F_points_within:FD) (oM:FD):RS :=
 dY (eX 2 (ixV 0 0))
 (dY (sZ 3 (yL (riT (ixV 0 1)) 1 [1,2] (fB 0) (cV vY (aC (cG 1) (aC (cG 0) (aC (cG 2) aV))))))
 (dY (kG (dX (r2 (nG λi j=>decide (i<=j)) (r1 Jd (aL 3)) (rcI 0))) (fV (cG 0)) iB)
 (dY (kG (dX (r2 (nG λi j=>decide (j<=i)) (r1 Je (aL 3)) (rcI 0))) (fV (rC .non)) iB)
 (dY ((λE ρ=>(eX 4 (cV F_points_within (aC (ixV 0 1) (aC (cG 3) aV)))) E (xU 3 ρ)))
 (dY (eX 5 (rcI 1))
 (dY (oW (riL (cG 4)) (fB 6) vG)
 (dY (sZ 7 (yL (riL (cG 4)) 3 [5] (rJ 3 (iH (fB 0) (iH (fB 1) (iH (fB 2) rH)))) (jP (aC (r2 eJ (aL 0) (r2 jW (aL 3) (aL 2))) (aC (r2 eJ (aL 1) (r2 jW (aL 3) (aL 2))) aV)))))
 ((λE ρ=>(fV (cV oM (aC (r2 eJ (aL 2) (aL 5)) (aC (cG 7) aV)))) E (xU 7 ρ))))))))))
def Lw (F_part_within:FD):RS :=
 dY (eX 2 (jP (aC (r1 wF (ixV 1 0)) (aC (r1 wF (ixV 1 1)) (aC (r1 wF (ixV 1 2)) aV)))))
 (fV (jP (aC (cV F_part_within (aC (cG 0) (aC (cG 1) aV))) (aC (cV F_part_within (aC (cG 0) (aC (cG 2) aV))) aV))))
def vE:RS :=
 dY (eX 6 (r2 dIx (aL 3) (r2 kT (aL 5) (rcI 1))))
 (dY (eX 7 (r2 kT (r2 eJ (ixV 1 0) (aL 2)) (r2 eJ (ixV 6 0) (ixV 1 2))))
 (dY (eX 8 (r2 kT (r2 eJ (ixV 1 1) (aL 2)) (r2 eJ (ixV 6 1) (ixV 1 2))))
 (dY (eX 9 (r2 kT (r2 eJ (r2 kT (r2 dIx (r2 dIx (aL 3) (aL 5)) (rcI 0)) (ixV 6 0)) (aL 8)) (r2 eJ (r2 kT (r2 dIx (r2 dIx (aL 3) (aL 5)) (rcI 1)) (ixV 6 1)) (aL 7))))
 (kG (rOr (dX (r2 (KC false) (aL 4) (rC .non))) (dX (r2 (nG λi j=>decide (i<j)) (aL 9) (aL 4)))) (eX 4 (cG 9)) iB))))
def AS:RS :=
 dY (Ln (cG 0) (rJ 2 (iH (fB 2) (iH (fB 3) rH))))
 (dY (eX 4 (rC .non))
 (dY (oW (OE (aC (r1 rT (aL 3)) aV)) (fB 5) vE)
 (fV (r2 kT (rCB Iu (aC (r2 (nG λi j=>decide (j<i)) (aL 4) (rcI 0)) aV)) (rCB Iu (aC (r2 (nG λi j=>decide (i<j)) (aL 4) (rcI 0)) aV))))))
def HA:RS :=
 dY (eX 3 (r2 eJ (r2 kT (ixV 1 0) (ixV 0 0)) (r2 kT (ixV 2 1) (ixV 1 1))))
 (fV (r2 kT (aL 3) (r2 eJ (r2 kT (ixV 1 1) (ixV 0 1)) (r2 kT (ixV 2 0) (ixV 1 0)))))
def pL (Zp:FD):RS :=
 dY (kG (rOr (qE (dX (r1 (BV "tuple") (cG 1)))) (dX (r2 (pV true) (r1 rT (aL 1)) (rcI 2)))) (fV (rC (.bl false))) iB)
 (kG (rOr (qE (dX (cV Zp (aC (ixV 1 0) aV)))) (qE (dX (cV Zp (aC (ixV 1 1) aV))))) (fV (rC (.bl false))) iB)
def rG (Zp:FD):RS :=
 dY (kG (rOr (qE (dX (r1 (BV "tuple") (cG 0)))) (rOr (dX (r2 (pV true) (r1 rT (aL 0)) (rcI 2))) (rOr (qE (dX (cV Zp (aC (ixV 0 0) aV)))) (dX (r2 (nG λi j=>decide (i<j)) (ixV 0 0) (rcI 1)))))) (fV (rC (.bl false))) iB)
 (dY (kG (rOr (qE (dX (r1 (BV "tuple") (ixV 0 1)))) (dX (r2 (nG λi j=>decide (i<j)) (r1 rT (ixV 0 1)) (rcI 3)))) (fV (rC (.bl false))) iB)
 (dY (oW (riT (ixV 0 1)) (fB 1) (pL Zp))
 (fV (rC (.bl true)))))
def tF (Zn:FD) (A6:FD):RS :=
 dY (eX 3 (cV Zn (aC (cV Zn (aC (cG 3) (aC (r2 dIx (r2 dIx (aL 2) (aL 5)) (rcI 0)) aV))) (aC (r2 dIx (r2 dIx (aL 2) (aL 5)) (rcI 1)) aV))))
 (dY (kG (dX (r2 (nG λi j=>decide (i<=j)) (cV A6 (aC (r2 dIx (aL 2) (r2 kT (aL 5) (rcI 2))) (aC (r2 dIx (aL 2) (r2 kT (aL 5) (rcI 1))) (aC (r2 dIx (aL 2) (aL 5)) aV)))) (rcI 0))) (fV (rC (.bl false))) iB)
 (kG (Bd (dX (r2 Nj (r2 dIx (aL 2) (r2 kT (aL 5) (rcI 1))) (r2 dIx (aL 2) (r2 kT (aL 5) (rcI 2))))) (dX (r2 Nj (r2 dIx (aL 2) (r2 kT (aL 5) (rcI 1))) (r2 dIx (aL 2) (aL 5))))) (eX 4 (r2 mH (aL 4) (rcI 1))) iB))
def wT (Zn:FD) (A0:FD) (A6:FD):RS :=
 dY (kG (qE (dX (cV A0 (aC (cG 0) aV)))) (fV (rC (.bl false))) iB)
 (dY (Ln (cG 0) (rJ 2 (iH (fB 1) (iH (fB 2) rH))))
 (dY (eX 3 (cG 1))
 (dY (eX 4 (rcI 0))
 (dY (oW (OE (aC (r1 rT (aL 2)) aV)) (fB 5) (tF Zn A6))
 (fV (CO (r2 (pV false) (aL 3) (rcI 1)) (CO (r2 (pV false) (aL 4) (rcI 1)) (r2 dEq (ixV 2 0) (r1 Co (aL 2))))))))))
def SB (oM:FD) (F_shared_multiple:FD):RS :=
 dY (eX 2 (ixV 1 1))
 (dY (eX 3 (ixV 1 2))
 (dY (eX 4 (cV F_shared_multiple (aC (cV F_shared_multiple (aC (ixV 0 0) (aC (ixV 2 1) aV))) (aC (ixV 3 1) aV))))
 (dY (eX 5 (r2 eJ (ixV 1 0) (r2 jW (aL 4) (ixV 0 0))))
 (dY (eX 6 (r2 eJ (ixV 2 0) (r2 jW (aL 4) (ixV 2 1))))
 (dY (eX 7 (r2 eJ (ixV 3 0) (r2 jW (aL 4) (ixV 3 1))))
 (fV (cV oM (aC (cG 4) (aC ((λρ Q=>(yL (riT (ixV 0 1)) 2 [5,6,7] (rJ 2 (iH (fB 0) (iH (fB 1) rH))) (jP (aC (r2 mH (r2 eJ (aL 2) (aL 0)) (aL 3)) (aC (r2 mH (r2 eJ (aL 2) (aL 1)) (aL 4)) aV)))) ρ λds=>Q (.lst ds))) aV)))))))))
def tE (Zn:FD) (Zp:FD):RS :=
 dY (kG (rOr (qE (dX (r1 (BV "tuple") (cG 0)))) (rOr (dX (r2 (pV true) (r1 rT (aL 0)) (rcI 2))) (rOr (qE (dX (cV Zp (aC (ixV 0 0) aV)))) (qE (dX (cV Zp (aC (ixV 0 1) aV))))))) (fV (rC (.bl false))) iB)
 (fV (CO (r2 (nG λi j=>decide (j<i)) (ixV 0 1) (rcI 0)) (r2 (pV false) (cV Zn (aC (ixV 0 0) (aC (ixV 0 1) aV))) (rcI 1))))
def AR (Zq:FD) (A8:FD) (Zp:FD):RS :=
 dY (kG (rOr (qE (dX (r1 (BV "tuple") (cG 0)))) (rOr (dX (r2 (pV true) (r1 rT (aL 0)) (rcI 2))) (qE (dX (cV A8 (aC (ixV 0 0) aV)))))) (fV (rC (.bl false))) iB)
 (dY (eX 1 (ixV 0 1))
 (dY (kG (rOr (qE (dX (r1 (BV "tuple") (cG 1)))) (rOr (dX (r2 (pV true) (r1 rT (aL 1)) (rcI 3))) (rOr (qE (dX (cV Zp (aC (ixV 1 0) aV)))) (dX (r2 (pV true) (rCB PK (aC (ixV 1 0) aV)) (rcI 1)))))) (fV (rC (.bl false))) iB)
 (fV (CO (cV Zq (aC (ixV 1 1) aV)) (cV Zq (aC (ixV 1 2) aV))))))
def yM (Zy:FD):RS :=
 kG (qE (dX (cV Zy (aC (cG 1) aV)))) (fV (rC (.bl false))) iB
def GY (Zy:FD):RS :=
 dY (kG (qE (dX (r1 (BV "list") (cG 0)))) (fV (rC (.bl false))) iB)
 (dY (oW (riL (cG 0)) (fB 1) (yM Zy))
 (fV (rC (.bl true))))
def vC:RS :=
 dY (eX 3 (r2 dIx (ixV 0 1) (r2 kT (aL 2) (rcI 1))))
 (dY (eX 4 (r2 dIx (ixV 0 1) (aL 2)))
 (eX 1 (r2 kT (r2 mH (aL 1) (r2 eJ (ixV 3 0) (ixV 4 1))) (r2 eJ (ixV 3 1) (ixV 4 0)))))
def AN:RS :=
 dY (eX 1 (rcI 0))
 (dY (oW (OE (aC (r1 rT (ixV 0 1)) aV)) (fB 2) vC)
 (fV (jP (aC (cG 1) (aC (r2 eJ (ixV 0 0) (ixV 0 0)) aV)))))
def CP:RS :=
 fV (jP (aC (r2 mH (r2 eJ (ixV 0 0) (ixV 1 1)) (r2 eJ (ixV 1 0) (ixV 0 1))) (aC (r2 eJ (ixV 0 1) (ixV 1 1)) aV)))
def wO (Zz:FD) (A3:FD):RS :=
 eX 1 (cV Zz (aC (cG 1) (aC (cV A3 (aC (ixV 2 0) aV)) aV)))
def CS (Zz:FD) (A3:FD):RS :=
 dY (eX 1 (jP (aC (rcI 0) (aC (rcI 1) aV))))
 (dY (oW (riL (cG 0)) (fB 2) (wO Zz A3))
 (fV (cG 1)))
def vD:RS :=
 dY (kG (rOr (dX (r2 (nG λi j=>decide (i<j)) (aL 3) (rcI 0))) (dX (r2 (nG λi j=>decide (j<i)) (aL 3) (ixV 0 0)))) (fV (rC (.bl false))) iB)
 (dY (eX 5 (r2 kT (r2 eJ (aL 4) (ixV 1 1)) (r2 eJ (aL 3) (ixV 1 0))))
 (kG (rOr (dX (r2 (nG λi j=>decide (i<j)) (aL 5) (rcI 0))) (dX (r2 (nG λi j=>decide (j<i)) (r2 eJ (aL 5) (ixV 2 1)) (r2 eJ (r2 eJ (ixV 2 0) (ixV 1 1)) (ixV 0 0))))) (fV (rC (.bl false))) iB))
def AQ:RS :=
 dY (oW (riT (ixV 0 1)) (rJ 2 (iH (fB 3) (iH (fB 4) rH))) vD)
 (fV (rC (.bl true)))
def yQ:RS :=
 dY (eX 3 (r2 pF (r2 eJ (r2 eJ (r2 mH (r2 pF (aL 0) (r2 VR (rcI 10) (rcI 9))) (rcI 7)) (r2 mH (r2 pF (aL 0) (r2 VR (rcI 10) (rcI 9))) (rcI 31))) (rcI 48271)) (rcI 2147483629)))
 (dY (eX 4 (r2 mH (rcI 1) (r2 pF (aL 3) (rcI 1008))))
 (dY (eX 5 (r2 mH (rcI 1) (r2 pF (r2 pF (r2 eJ (aL 3) (rcI 69621)) (rcI 2147483587)) (rcI 9972))))
 (dY (eX 6 (r2 eJ (r2 eJ (r2 eJ (rcI 1009) (rcI 9973)) (ixV 1 1)) (ixV 2 1)))
 (fV (jP (aC (r2 eJ (r2 eJ (r2 eJ (aL 4) (rcI 9973)) (ixV 1 1)) (ixV 2 1)) (aC (r2 mH (r2 eJ (r2 eJ (r2 eJ (aL 4) (ixV 1 0)) (rcI 9973)) (ixV 2 1)) (r2 eJ (r2 eJ (r2 eJ (aL 5) (ixV 2 0)) (rcI 1009)) (ixV 1 1))) (aC (cG 6) aV))))))))
def wU (Zu:FD) (Zo:FD):RS :=
 dY (eX 4 (r2 mH (rcI 1) (cV Zu (aC (r2 jW (aL 0) (rcI 18)) (aC (rcI 3) (aC (cG 3) aV))))))
 (dY (eX 5 (r2 mH (rcI 1) (r2 pF (cV Zu (aC (r2 jW (aL 0) (rcI 35)) (aC (rcI 4) (aC (cG 3) aV)))) (rcI 3))))
 (vB 2 (cV Zo (aC (r2 mH (r2 eJ (r2 dIx (r2 dIx (aL 2) (r1 wF (rcI 1))) (rcI 0)) (aL 5)) (r2 eJ (aL 4) (r2 dIx (r2 dIx (aL 2) (r1 wF (rcI 1))) (rcI 1)))) (aC (r2 eJ (r2 dIx (r2 dIx (aL 2) (r1 wF (rcI 1))) (rcI 1)) (aL 5)) aV)))))
def CV (Zu:FD) (Zo:FD):RS :=
 dY (sZ 2 (qD (aC (cV Zo (aC (r2 kT (r2 pF (aL 0) (rcI 9)) (rcI 4)) (aC (r2 mH (rcI 1) (r2 pF (r2 jW (aL 0) (rcI 9)) (rcI 2))) aV))) aV)))
 (dY (oW (OE (aC (r2 kT (aL 1) (rcI 1)) aV)) (fB 3) (wU Zu Zo))
 ((λE ρ=>(fV (cG 2)) E (xU 2 ρ))))
def AT (Zo:FD):RS :=
 dY (eX 1 (r2 dIx ((λρ Q=>(qD (aC (rcI 9) (aC (r2 VR (rcI 10) (rcI 30)) aV))) ρ λds=>Q (.lst ds))) (r2 pF (r2 jW (aL 0) (rcI 2)) (rcI 2))))
 (dY (eX 2 (cV Zo (aC (r2 kT (r2 pF (r2 eJ (r2 pF (r2 eJ (aL 0) (rcI 48271)) (rcI 1000000007)) (rcI 69621)) (r2 mH (r2 eJ (rcI 2) (aL 1)) (rcI 1))) (aL 1)) (aC (r2 mH (rcI 1) (r2 pF (r2 jW (aL 0) (rcI 4)) (rcI 4))) aV))))
 (dY (eX 3 (cV Zo (aC (r2 kT (r2 pF (aL 0) (r2 mH (r2 eJ (rcI 2) (aL 1)) (rcI 1))) (aL 1)) (aC (r2 mH (rcI 1) (r2 pF (r2 jW (aL 0) (rcI 16)) (rcI 3))) aV))))
 (fV (jP (aC (r2 kT (rcI 1) (r2 eJ (rcI 2) (r2 pF (aL 0) (rcI 2)))) (aC (cG 2) (aC (cG 3) aV)))))))
def GZ:RS :=
 dY (kG (dX (r2 (nG λi j=>decide (i<j)) (aL 1) (r1 rT (aL 0)))) (fV (r2 pF (r2 dIx (aL 0) (aL 1)) (r2 mH (r2 VR (rcI 10) (rcI 60)) (rcI 7)))) iB)
 (fV (rcI 0))
def NY (vX:FD) (vZ:FD) (rK:FD):RS :=
 fV (jP (aC (cV vZ (aC (ixV 0 0) (aC (cG 1) aV))) (aC (cV vX (aC (cV rK (aC (cG 1) aV)) (aC (ixV 0 1) aV))) aV)))
def SA (F_carried:FD):RS :=
 fV (cV F_carried (aC (cG 0) (aC (jP (aC (rcI 1) (aC (jP (aC (rcI 0) (aC (rcI 1) aV))) (aC (cG 1) aV)))) aV)))
def yN (Zr:FD):RS :=
 dY (eX 3 (r2 eJ (r2 dIx (aL 0) (rC (.int 1))) (r2 dIx (aL 1) (rC (.int 1)))))
 (dY (eX 4 (r2 eJ (r2 dIx (aL 0) (rC (.int 0))) (r2 dIx (aL 1) (rC (.int 1)))))
 (dY (eX 5 (r2 eJ (r2 dIx (aL 1) (rC (.int 0))) (r2 dIx (aL 0) (rC (.int 1)))))
 (dY (kG (dX (r2 (nG λi j=>decide (i<j)) (aL 2) (rC (.int 3)))) (dY (eX 6 (jP (aC (rC (.int 0)) (aC (rC (.int 0)) aV))))
 (dY (eX 7 (jP (aC (cG 3) (aC (cG 4) aV))))
 (dY (eX 8 (jP (aC (cG 3) (aC (r2 mH (aL 4) (aL 5)) aV))))
 (dY (eX 9 (jP (aC (rC (.int 0)) (aC (cG 5) aV))))
 (dY (kG (dX (r2 (pV false) (aL 2) (rC (.int 0)))) (fV ((λρ Q=>(qD (aC (cV Zr (aC (cG 3) (aC ((λρ Q=>(qD (aC (cG 6) (aC (cG 7) (aC (cG 8) (aC (cG 9) aV))))) ρ λds=>Q (.lst ds))) aV))) aV)) ρ λds=>Q (.lst ds)))) iB)
 (dY (kG (dX (r2 (pV false) (aL 2) (rC (.int 1)))) (fV ((λρ Q=>(qD (aC (cV Zr (aC (cG 3) (aC ((λρ Q=>(qD (aC (cG 6) (aC (cG 7) (aC (cG 8) aV)))) ρ λds=>Q (.lst ds))) aV))) (aC (cV Zr (aC (cG 3) (aC ((λρ Q=>(qD (aC (cG 6) (aC (cG 8) (aC (cG 9) aV)))) ρ λds=>Q (.lst ds))) aV))) aV))) ρ λds=>Q (.lst ds)))) iB)
 (fV ((λρ Q=>(qD (aC (cV Zr (aC (cG 3) (aC ((λρ Q=>(qD (aC (cG 6) (aC (cG 7) (aC (cG 9) aV)))) ρ λds=>Q (.lst ds))) aV))) (aC (cV Zr (aC (cG 3) (aC ((λρ Q=>(qD (aC (cG 7) (aC (cG 8) (aC (cG 9) aV)))) ρ λds=>Q (.lst ds))) aV))) aV))) ρ λds=>Q (.lst ds)))))))))) iB)
 (dY (eX 10 ((λρ Q=>(qD (aC (jP (aC (cG 3) (aC (cG 4) aV))) (aC (jP (aC (cG 3) (aC (r2 mH (aL 4) (r2 eJ (rC (.int 3)) (aL 5))) aV))) aV))) ρ λds=>Q (.lst ds))))
 (dY (eX 11 (cV Zr (aC (r2 eJ (rC (.int 3)) (aL 3)) (aC ((λρ Q=>(qD (aC (jP (aC (rC (.int 0)) (aC (rC (.int 0)) aV))) (aC (r2 dIx (aL 10) (rC (.int 0))) (aC (r2 dIx (aL 10) (rC (.int 1))) (aC (jP (aC (rC (.int 0)) (aC (r2 eJ (rC (.int 3)) (aL 5)) aV))) aV))))) ρ λds=>Q (.lst ds))) aV))))
 (fV ((λρ Q=>(qD (aC (cG 11) (aC (cV Zr (aC (r2 eJ (rC (.int 3)) (aL 3)) (aC ((λρ Q=>(qD (aC (r2 dIx (aL 10) (rC (.int 0))) (aC (jP (aC (r2 eJ (rC (.int 3)) (aL 3)) (aC (r2 eJ (rC (.int 3)) (aL 4)) aV))) (aC (jP (aC (r2 eJ (rC (.int 3)) (aL 3)) (aC (r2 mH (r2 eJ (rC (.int 3)) (aL 4)) (r2 eJ (rC (.int 3)) (aL 5))) aV))) (aC (r2 dIx (aL 10) (rC (.int 1))) aV))))) ρ λds=>Q (.lst ds))) aV))) aV))) ρ λds=>Q (.lst ds)))))))))
def JN:RS :=
 dY (Ln (cG 0) (rJ 3 (iH (fB 2) (iH (fB 3) (iH (fB 4) rH)))))
 (dY (eX 5 (r2 eJ (r2 mH (r2 eJ (r2 eJ (aL 2) (ixV 1 0)) (ixV 3 1)) (r2 eJ (ixV 3 0) (ixV 1 2))) (ixV 4 1)))
 (dY (eX 6 (r2 eJ (r2 mH (r2 eJ (r2 eJ (aL 2) (ixV 1 1)) (ixV 4 1)) (r2 eJ (ixV 4 0) (ixV 1 2))) (ixV 3 1)))
 (fV (jP (aC (cG 5) (aC (cG 6) (aC (r2 eJ (r2 eJ (ixV 1 2) (ixV 3 1)) (ixV 4 1)) aV)))))))
def tD (A7:FD) (A4:FD):RS :=
 dY (eX 5 (cV A4 (aC (cG 3) (aC (cG 1) aV))))
 (dY (kG (dX (r2 (pV false) (aL 5) (rcI 0))) (fV (rC .non)) iB)
 (kG (dX (r2 (pV false) (aL 5) (rcI 1))) (vB 2 (cV A7 (aC (cG 4) (aC (cG 1) aV)))) iB))
def wS (A7:FD) (A4:FD):RS :=
 dY (sZ 2 (qD aV))
 (dY (oW (riL (cG 0)) (rJ 2 (iH (fB 3) (iH (fB 4) rH))) (tD A7 A4))
 ((λE ρ=>(fV (cG 2)) E (xU 2 ρ))))
def yR:RS :=
 fV (jP (aC (r2 eJ (r1 wF (ixV 0 0)) (ixV 1 1)) (aC (r2 eJ (ixV 0 1) (ixV 1 1)) (aC (r2 eJ (ixV 0 1) (ixV 1 0)) aV))))
def CQ:RS :=
 fV (CO (r2 (pV false) (r2 eJ (ixV 0 0) (ixV 1 2)) (r2 eJ (ixV 1 0) (ixV 0 2))) (r2 (pV false) (r2 eJ (ixV 0 1) (ixV 1 2)) (r2 eJ (ixV 1 1) (ixV 0 2))))
def wP (Zx:FD):RS :=
 kG (qE (dX (cV Zx (aC (ixV 4 0) (aC (cG 3) (aC (cG 2) aV)))))) (fV (rC (.bl false))) iB
def CT (B5:FD) (B7:FD) (Zx:FD) (Zq:FD) (Zp:FD):RS :=
 dY (kG (rOr (qE (dX (r1 (BV "tuple") (cG 0)))) (rOr (dX (r2 (pV true) (r1 rT (aL 0)) (rcI 3))) (rOr (qE (dX (cV Zp (aC (ixV 0 0) aV)))) (dX (r2 dNe (ixV 0 0) (aL 1)))))) (fV (rC (.bl false))) iB)
 (dY (kG (rOr (dX (r2 dNe (ixV 0 1) (aL 2))) (rOr (qE (dX (cV Zq (aC (ixV 0 1) aV)))) (qE (dX (cV B7 (aC (ixV 0 2) aV)))))) (fV (rC (.bl false))) iB)
 (dY (oW (riL (ixV 0 2)) (fB 4) (wP Zx))
 (dY (eX 5 (cV B5 (aC (ixV 0 2) aV)))
 (fV (r2 (pV false) (r2 eJ (ixV 5 0) (ixV 2 1)) (r2 eJ (r2 eJ (rcI 2) (ixV 2 0)) (ixV 5 1)))))))
def vF (B4:FD) (Zt:FD):RS :=
 dY (eX 5 (cV Zt (aC (cG 1) (aC (cG 4) aV))))
 (dY (eX 6 (r2 eJ (r2 kT (r2 eJ (ixV 4 1) (ixV 3 1)) (r2 eJ (ixV 3 0) (ixV 4 0))) (ixV 2 1)))
 (dY (eX 6 (r2 kT (aL 6) (r2 eJ (r2 eJ (ixV 2 0) (ixV 3 1)) (ixV 4 2))))
 (dY (kG (rOr (dX (r2 (KC false) (aL 5) (rC .non))) (dX (r2 (pV false) (aL 6) (rcI 0)))) (fV (rC (.bl true))) iB)
 (dY (eX 7 (cV Zt (aC (r2 dIx (ixV 0 0) (rcI 2)) (aC (cG 4) aV))))
 (dY (kG (dX (r2 (nG λi j=>decide (j<i)) (aL 6) (rcI 0))) (dY (eX 8 (r2 kT (r2 eJ (ixV 4 1) (ixV 2 1)) (r2 eJ (ixV 2 0) (ixV 4 2))))
 (eX 7 (cV Zt (aC (r2 dIx (ixV 0 1) (rcI 2)) (aC (jP (aC (r2 eJ (ixV 4 0) (ixV 2 1)) (aC (cG 8) (aC (r2 eJ (ixV 4 2) (ixV 2 1)) aV)))) aV))))) iB)
 (fV (Ub (r2 (KC false) (aL 7) (rC .non)) (CO (r2 (pV false) (r1 rT (aL 7)) (rcI 1)) (CO (r2 (pV false) (r1 rT (aL 5)) (rcI 1)) (cV B4 (aC (ixV 7 0) (aC (ixV 5 0) aV))))))))))))
def DH (F_cut:FD) (F_lifted:FD):RS :=
 dY (eX 9 (cV F_cut (aC (cG 7) (aC (cG 3) aV))))
 (dY (kG (dX (r2 (KC true) (ixV 9 0) (rC .non))) (vB 5 (jP (aC (ixV 9 0) (aC (cG 8) aV)))) iB)
 (kG (dX (r2 (KC true) (ixV 9 1) (rC .non))) (vB 6 (cV F_lifted (aC (jP (aC (ixV 9 1) (aC (cG 8) aV))) (aC (cG 4) aV)))) iB))
def OC (F_cut:FD) (F_lifted:FD) (BA:FD) (F_slanted_line:FD):RS :=
 JL (eX 3 (cV F_slanted_line (aC (r2 dIx (aL 2) (ixV 0 0)) (aC (cG 1) aV))))
 (JL (eX 4 (cV BA (aC (jP (aC (rcI 0) (aC (rcI 1) aV))) (aC (cG 1) aV))))
 (JL (sZ 5 (qD aV))
 (JL (sZ 6 (qD aV))
 (JL (oW (riL (ixV 0 2)) (rJ 2 (iH (fB 7) (iH (fB 8) rH))) (DH F_cut F_lifted))
 ((λE ρ=>((λE ρ=>(fV (jP (aC (jP (aC (Bf (ixV 0 0)) (aC (Bf (cG 1)) (aC (rFr 5) aV)))) (aC (jP (aC (Bf (ixV 0 0)) (aC (Bf (cV BA (aC (ixV 0 1) (aC (cG 1) aV)))) (aC (rFr 6) aV)))) aV)))) E (Ew 6 ρ))) E (Ew 5 ρ)))))))
def CZ (Zv:FD) (Zs:FD):RS :=
 (λE ρ=>(kG (qE (dX (cV Zs (aC (cG 12) (aC (cG 6) (aC (cG 9) (aC (cG 4) (aC (cV Zv (aC (cG 13) (aC (cG 4) (aC (cG 5) aV)))) aV)))))))) (fV (rC (.bl false))) iB) E (xU 6 ρ))
def DC (A5:FD):RS :=
 vB 6 (jP (aC (cG 7) (aC (cV A5 (aC (r2 mH (r2 jW (aL 2) (rcI 288)) (r2 eJ (rcI 31) (r1 rT (aL 6)))) aV)) aV)))
def NZ (B3:FD) (Zw:FD) (A9:FD) (Zo:FD) (B6:FD) (A5:FD) (Zv:FD) (Zs:FD) (BB:FD):RS :=
 rF (eX 1 (cV B6 (aC (r2 jW (cV Zw (aC (cG 0) (aC (rcI 0) aV))) (rcI 4)) (aC (r2 mH (rcI 1) (r2 pF (cV Zw (aC (cG 0) (aC (rcI 0) aV))) (rcI 4))) aV))))
 (rF (eX 2 (cV Zw (aC (cG 0) (aC (rcI 1) aV))))
 (rF (eX 3 (r2 pF (aL 2) (r1 rT (aL 1))))
 (rF (eX 4 (r2 dIx (aL 1) (aL 3)))
 (rF (eX 5 (cV Zo (aC (r2 mH (rcI 1) (r2 pF (r2 jW (aL 2) (rcI 4)) (rcI 6))) (aC (r2 mH (rcI 1) (r2 pF (r2 jW (aL 2) (rcI 24)) (rcI 2))) aV))))
 (rF (sZ 6 (qD aV))
 (rF (oW (riL (cV A9 (aC (cG 4) (aC (cG 5) (aC (r2 pF (r2 jW (aL 2) (rcI 72)) (rcI 4)) aV))))) (fB 7) (DC A5))
 (rF (eX 8 (r2 mH (rcI 1) (r2 pF (cV Zw (aC (cG 0) (aC (rcI 2) aV))) (rcI 7))))
 (rF (eX 9 (cV Zo (aC (r2 eJ (aL 8) (ixV 5 0)) (aC (r2 eJ (rcI 8) (ixV 5 1)) aV))))
 (rF (eX 10 (cV Zo (aC (r2 eJ (r2 kT (rcI 8) (aL 8)) (ixV 5 0)) (aC (r2 eJ (rcI 8) (ixV 5 1)) aV))))
 (rF (eX 11 ((λρ Q=>(qD (aC (r1 GF (aL 6)) (aC (r1 GF (aL 1)) aV))) ρ λds=>Q (.lst ds))))
 (rF ((λE ρ=>(Lr 12 BB (aC (jP (aC (cG 3) (aC (cG 5) (aC (ixV 11 0) aV)))) (aC (cG 9) (aC (ixV 11 1) aV)))) E (xU 6 ρ)))
 (rF ((λE ρ=>(kG (rOr (qE (dX (r1 (BV "tuple") (cG 12)))) (rOr (dX (r2 (pV true) (r1 rT (aL 12)) (rcI 2))) (dX (r2 Nk (aL 11) ((λρ Q=>(qD (aC (cG 6) (aC (cG 1) aV))) ρ λds=>Q (.lst ds))))))) (fV (rC (.bl false))) iB) E (xU 6 ρ)))
 (rF (kG (rOr (qE (dX (cV B3 (aC (ixV 12 0) (aC (cG 3) (aC (cG 9) (aC (cG 4) aV))))))) (qE (dX (cV B3 (aC (ixV 12 1) (aC (cG 3) (aC (cG 10) (aC (cG 4) aV)))))))) (fV (rC (.bl false))) iB)
 (rF (oW (riL (r2 CC ((λρ Q=>(Dw (aL 0) qX (AM (rcI 8))) ρ λds=>Q (.lst ds))) ((λρ Q=>(qD (aC (cG 2) aV)) ρ λds=>Q (.lst ds))))) (fB 13) (CZ Zv Zs))
 (Lp 12 (Hx 0 2)
 (Lp 12 (Hx 1 2)
 ((λE ρ=>(fV (r2 Nh (aL 11) ((λρ Q=>(qD (aC (cG 6) (aC (cG 1) aV))) ρ λds=>Q (.lst ds))))) E (xU 6 ρ)))))))))))))))))))
theorem Uz {α:Type} (x:α) (xs:List α):atI (x::xs) 0=some x:=by
 unfold atI ixN;simp
theorem Va {α:Type} (x y:α) (xs:List α):atI (x::y::xs) 1=some y:=by
 unfold atI ixN
 rw[if_pos (by decide),if_pos (by simp only[bZ];lia)];rfl
theorem Vb {α:Type} (x y z:α) (xs:List α):atI (x::y::z::xs) 2=some z:=by
 unfold atI ixN
 rw[if_pos (by decide),if_pos (by simp only[bZ];lia)];rfl
theorem YY {α:Type} {xs:List α} {i:Int} {j:Nat} {x:α} (h:i=(j:Int)) (e:xs[j]? = some x):atI xs i=some x:=by
 subst h;exact Cg e
theorem Sb {x y:D} {Q:D->Prop}:dEq x y Q=(match eqF 6 x y with | some b=>Q (.bl b) | none=>False):=rfl
theorem BL.const {n:Nat} {i:Int} (h:i.natAbs<2 ^ n:=by decide):BL n i:=h
theorem NR {i j:Int} (h:0<=j/\j<=1000000/\i.natAbs<2 ^ 64:=by decide):PowOk i j:=⟨h⟩
theorem lV {j:Int} (h:j≠0:=by decide):ModOk j:=⟨h⟩
theorem Df {n:Nat} (h:n<=1000):n<=sizeLine:=fO h (by decide)
theorem pI {x:D} {xs:List D} {Q:D->Prop}:dIx (.tup (x::xs)) (.int 0) Q=Q x:=by simp only[dIx,Uz]
theorem oD {x y:D} {xs:List D} {Q:D->Prop}:dIx (.tup (x::y::xs)) (.int 1) Q=Q y:=by simp only[dIx,Va]
theorem uL {x y z:D} {xs:List D} {Q:D->Prop}:dIx (.tup (x::y::z::xs)) (.int 2) Q=Q z:=by simp only[dIx,Vb]
theorem xP {xs:List D} {i:Int} {Q:D->Prop} {x:D} (e:atI xs i=some x) (h:Q x):dIx (.lst xs) (.int i) Q:=by simp only[dIx,e];exact h
theorem Cn {xs:List D} {i:Int} {Q:D->Prop} (h0:0<=i) (h1:i<xs.length) (h:∀x,x∈xs->Q x):dIx (.lst xs) (.int i) Q:=by
 have hj:i.toNat<xs.length:=by lia
 exact xP (YY (j:=i.toNat) (by lia) (aF hj)) (h _ (oP hj))
theorem sQ {xs:List D} {k:Nat} {x:D} {Q:D->Prop} (e:xs[k]? = some x):dIx (.lst xs) (.int (k:Int)) Q=Q x:=by simp only[dIx,Cg e]
theorem VP {a0:D} {r:List D} {Q:D->Prop}:dIx (.lst (a0::r)) (.int 0) Q=Q a0:=sQ (k:=0) rfl
theorem VQ {a0 a1:D} {r:List D} {Q:D->Prop}:dIx (.lst (a0::a1::r)) (.int 1) Q=Q a1:=sQ (k:=1) rfl
theorem Iv {a0 a1 a2:D} {r:List D} {Q:D->Prop}:dIx (.lst (a0::a1::a2::r)) (.int 2) Q=Q a2:=sQ (k:=2) rfl
theorem Iw {a0 a1 a2 a3:D} {r:List D} {Q:D->Prop}:dIx (.lst (a0::a1::a2::a3::r)) (.int 3) Q=Q a3:=sQ (k:=3) rfl
theorem Ix {a0 a1 a2 a3 a4:D} {r:List D} {Q:D->Prop}:dIx (.lst (a0::a1::a2::a3::a4::r)) (.int 4) Q=Q a4:=sQ (k:=4) rfl
theorem Iy {a0 a1 a2 a3 a4 a5:D} {r:List D} {Q:D->Prop}:dIx (.lst (a0::a1::a2::a3::a4::a5::r)) (.int 5) Q=Q a5:=sQ (k:=5) rfl
theorem Iz {a0 a1 a2 a3 a4 a5 a6:D} {r:List D} {Q:D->Prop}:dIx (.lst (a0::a1::a2::a3::a4::a5::a6::r)) (.int 6) Q=Q a6:=sQ (k:=6) rfl
theorem Ja {a0 a1 a2 a3 a4 a5 a6 a7:D} {r:List D} {Q:D->Prop}:dIx (.lst (a0::a1::a2::a3::a4::a5::a6::a7::r)) (.int 7) Q=Q a7:=sQ (k:=7) rfl
theorem Jb {a0 a1 a2 a3 a4 a5 a6 a7 a8:D} {r:List D} {Q:D->Prop}:dIx (.lst (a0::a1::a2::a3::a4::a5::a6::a7::a8::r)) (.int 8) Q=Q a8:=sQ (k:=8) rfl
theorem Jc {a0 a1 a2 a3 a4 a5 a6 a7 a8 a9:D} {r:List D} {Q:D->Prop}:dIx (.lst (a0::a1::a2::a3::a4::a5::a6::a7::a8::a9::r)) (.int 9) Q=Q a9:=sQ (k:=9) rfl
theorem Et {a0 a1 a2 a3 a4 a5 a6 a7 a8 a9 a10:D} {r:List D} {Q:D->Prop}:dIx (.lst (a0::a1::a2::a3::a4::a5::a6::a7::a8::a9::a10::r)) (.int 10) Q=Q a10:=sQ (k:=10) rfl
theorem Eu {a0 a1 a2 a3 a4 a5 a6 a7 a8 a9 a10 a11:D} {r:List D} {Q:D->Prop}:dIx (.lst (a0::a1::a2::a3::a4::a5::a6::a7::a8::a9::a10::a11::r)) (.int 11) Q=Q a11:=sQ (k:=11) rfl
def iQ (n:Nat) (ds:List D):En:=ds.map (λd=>sdV d)++eM n none
theorem cN {N:List Str} {ds:List D} (n:Nat) (h:N.length=ds.length+n):dW N ds=iQ n ds:=by
 unfold dW iQ;rw[h,Nat.add_sub_cancel_left]
theorem So {i:Int}:WK "int" (.int i)=some true:=rfl
theorem Sm {i:Int}:WK "bool" (.int i)=some false:=rfl
theorem Sn {i:Bool}:WK "int" (.bl i)=some true:=rfl
theorem Sl {i:Bool}:WK "bool" (.bl i)=some true:=rfl
theorem Sq {xs:List D}:WK "tuple" (.tup xs)=some true:=rfl
theorem Yv {α:Type} {x:α}:eM 0 x=[]:=rfl
theorem Bj {α:Type} {x:α}:eM 1 x=[x]:=rfl
theorem Pw {α:Type} {x:α}:eM 2 x=[x,x]:=rfl
theorem Ly {α:Type} {x:α}:eM 3 x=[x,x,x]:=rfl
theorem Bk {α:Type} {x:α}:eM 4 x=[x,x,x,x]:=rfl
theorem Px {α:Type} {x:α}:eM 5 x=[x,x,x,x,x]:=rfl
theorem Ue {α:Type} {x:α}:eM 6 x=[x,x,x,x,x,x]:=rfl
theorem Ww {α:Type} {x:α}:eM 7 x=[x,x,x,x,x,x,x]:=rfl
theorem Wx {α:Type} {x:α}:eM 8 x=[x,x,x,x,x,x,x,x]:=rfl
theorem Wy {α:Type} {x:α}:eM 9 x=[x,x,x,x,x,x,x,x,x]:=rfl
theorem Wt {α:Type} {x:α}:eM 10 x=[x,x,x,x,x,x,x,x,x,x]:=rfl
theorem Wu {α:Type} {x:α}:eM 11 x=[x,x,x,x,x,x,x,x,x,x,x]:=rfl
theorem Wv {α:Type} {x:α}:eM 12 x=[x,x,x,x,x,x,x,x,x,x,x,x]:=rfl
theorem sz2:Sz (0+1+1):=⟨by decide⟩
theorem sz3:Sz (0+1+1+1):=⟨by decide⟩
theorem sz4:Sz (0+1+1+1+1):=⟨by decide⟩
theorem sz1:Sz (0+1):=⟨by decide⟩
theorem sz0:Sz 0:=⟨by decide⟩
local macro_rules | `(tactic| walk_at "rd")=>do
 let a <- ("Bf JL rF S.fz Wq Ws Vf dY iB fV Wr kG eX sZ Uc Ln fB rJ iH rH cG aL rC r2 r1 dX Bd rOr qE CO Ub Lq rIf aV aC jP qD cV rCB qX AM Dw oW Yw riL riT OE Yy Uf yL GB EI VD xU vB Dv Ud Bg Hd UN CC GF ML Xy dNe Be Wz Xa mH kT eJ jW pF VR wF nG pV KC Sb RH pI oD uL VP VQ Iv Iw Ix Iy Iz Ja Jb Jc Et Eu PK Iu Vd Ve rT BV So Sm Sn Sl Sq S.val iQ Yv Bj Pw Ly Bk Px Ue Ww Wx Wy Wt Wu Wv aT bU bG cC bZ eW aJ aR bQ bP eV vJ Bool.or_true Bool.false_or Bool.true_or fR nX if_true if_false aM sz0 sz1 sz2 sz3 sz4 true_and decide_eq_true_eq Int.reduceToNat Int.reducePow Int.reduceMul Int.reduceSub Int.reduceAdd Int.reduceNeg".splitOn " ").toArray.mapM λx=>`(Lean.Parser.Tactic.simpLemma| $(Lean.mkIdent x.toName):term)
 `(tactic| simp only[$a,*])
local macro_rules | `(tactic| walk_at "side")=>`(tactic| first | exact NR | exact lV | exact (BL.const (n:=9000) (by decide)).divOk (by decide) | exact (BL.const (n:=300) (by decide)).mulOk (BL.const (n:=300) (by decide)))
local macro_rules | `(tactic| walk_at "sides")=>`(tactic| repeat (refine And.intro (by walk_at "side") ?_))
theorem FW (i:Int):(if i<0 then -i else i)=((i.natAbs:Nat):Int):=by split <;> lia
theorem RF (x y:Nat):((x:Nat):Int).fmod (y:Nat)=((x % y:Nat):Int):=by
 rw[Int.fmod_eq_emod_of_nonneg _ (Int.natCast_nonneg y)];exact (Int.natCast_emod x y).symm
def yG:FD:=λds Q=>∃a b:Int,ds=[.int a,.int b]/\Q (.int (cD a b:Nat))
theorem Dg:∀ds Q,yG ds Q->ds.length=2:=by rintro ds Q ⟨a,b,rfl,_⟩;rfl
theorem IL (E:DEnds):∀(y x:Nat),E.nx [sdV (.int (SQ x y:Nat)),sdV (.int (0:Nat))] ->
  ES (dX (r2 (nG λi j=>decide (j<i)) (aL 1) (rcI 0))) pX E [sdV (.int (x:Nat)),sdV (.int (y:Nat))]:=by
 intro y
 induction y using JW with
 | ind y ih =>
  intro x h
  cases uG y with
  | inl hy =>
   subst hy
   refine⟨1,?_⟩
   unfold qZ
   walk_at "rd"
   rw[if_neg (by decide)]
   rw[DY] at h
   exact h
  | inr hy =>
   have h2:=ih (x % y) (jI x hy) y (by
    rw[qO y,<-Nat.gcd_rec,qO];exact h)
   obtain⟨n,hn⟩:=h2
   refine⟨n+1,?_⟩
   unfold qZ pX
   walk_at "rd"
   rw[if_pos (by lia)]
   refine⟨⟨by lia⟩,?_⟩
   rw[RF]
   exact hn
theorem IS:∀ds Q,yG ds Q->yO { nx:=λ_=>Q .non,rt:=Q } (dW ["_law_one","_law_other"] ds):=by
 rintro ds Q ⟨a,b,rfl,q⟩
 rw[cN 0 rfl]
 unfold yO
 walk_at "rd"
 rw[FW,FW]
 refine IL _ _ _ ?_
 walk_at "rd"
 exact q
theorem BW (E:DEnds) (u v:Option S):∀(y x:Nat) (r:Option S),(∀r,E.nx [u,v,sdV (.int (SQ x y:Nat)),sdV (.int (0:Nat)),r]) ->
  ES (dX (r2 (pV true) (aL 3) (rcI 0))) oI E [u,v,sdV (.int (x:Nat)),sdV (.int (y:Nat)),r]:=by
 intro y
 induction y using JW with
 | ind y ih =>
  intro x r h
  cases uG y with
  | inl hy =>
   subst hy
   refine⟨1,?_⟩
   unfold qZ
   walk_at "rd"
   rw[if_neg (by simp)]
   rw[DY] at h
   exact h r
  | inr hy =>
   obtain⟨n,hn⟩:=ih (x % y) (jI x hy) y (sdV (.int ((x % y:Nat)))) (by
    rw[qO y,<-Nat.gcd_rec,qO];exact h)
   refine⟨n+1,?_⟩
   unfold qZ oI
   walk_at "rd"
   rw[if_pos (by simp;lia)]
   refine⟨⟨by lia⟩,?_⟩
   rw[RF]
   exact hn
theorem BX:∀ds Q,yG ds Q->vH { nx:=λ_=>Q .non,rt:=Q } (dW ["one","other","larger","smaller","rest"] ds):=by
 rintro ds Q ⟨a,b,rfl,q⟩
 rw[cN 3 rfl]
 unfold vH
 walk_at "rd"
 rw[FW,FW]
 refine BW _ _ _ _ _ _ λr=>?_
 walk_at "rd"
 exact q
abbrev fr (a b:Int):D:=.tup [.int a,.int b]
theorem LN {a b:Int} (h:b≠0):0<(cD a b:Int):=by
 have:0<cD a b:=Int.gcd_pos_of_ne_zero_right a h
 lia
theorem BL.gcd {n:Nat} {a b:Int} (hb:b≠0) (h:BL n b):BL n (cD a b:Int):=by
 refine h.le ?_
 rw[Int.natAbs_natCast]
 exact vN (by lia) (Int.gcd_dvd_natAbs_right a b)
structure Low (a b p q:Int):Prop where
 pos:0<q
 cop:cD p q=1
 worth:p*b=a*q
 lea:p.natAbs<=a.natAbs
 leb:q.natAbs<=b.natAbs
theorem TY {a b:Int} (hb:0<b):Low a b (a.fdiv (cD a b:Nat)) (b.fdiv (cD a b:Nat)):=by
 have hg:0<(cD a b:Int):=LN (by lia)
 have ea:((cD a b:Nat):Int)∣a:=lZ ..
 have eb:((cD a b:Nat):Int)∣b:=lI ..
 rw[cS _ (by lia),cS _ (by lia)]
 have e1:a / (cD a b:Int)*(cD a b:Int)=a:=sU ea
 have e2:b / (cD a b:Int)*(cD a b:Int)=b:=sU eb
 have hc:cD (a / (cD a b:Int)) (b / (cD a b:Int))=1:=uS (by lia)
 generalize (cD a b:Int)=g at *
 generalize a / g=p at *
 generalize b / g=q at *
 subst e1 e2
 refine⟨?_,hc,by rw[pH,kK q g],?_,?_⟩
 ·exact iS hb (by lia)
 ·rw[iY];exact wD _ (by lia)
 ·rw[iY];exact wD _ (by lia)
theorem Oq {a b:Int} (hb:b<0):Low a b (a.fdiv (-(cD a b:Nat))) (b.fdiv (-(cD a b:Nat))):=by
 have h:=TY (a:=-a) (b:=-b) (by lia)
 have e:cD (-a) (-b)=cD a b:=by rw[Int.neg_gcd,Int.gcd_neg]
 rw[e] at h
 have f:∀x g:Int,(-x).fdiv g=x.fdiv (-g):=λx g=>by
  have:=Int.neg_fdiv_neg (-x) g
  rw[Int.neg_neg] at this
  exact this.symm
 rw[f,f] at h
 refine⟨h.pos,h.cop,?_,by have:=h.lea;lia,by have:=h.leb;lia⟩
 have w:=h.worth
 rw[Int.mul_neg,Int.neg_mul] at w
 exact Int.neg_inj.mp w
def tI:FD:=λds Q=>∃a b:Int,ds=[.int a,.int b]/\(b≠0/\BL 9000 b)/\∀p q,Low a b p q->Q (fr p q)
theorem Fq:∀ds Q,tI ds Q->ds.length=2:=by rintro ds Q ⟨a,b,rfl,_⟩;rfl
theorem Ba:∀ds Q,tI ds Q->YA yG { nx:=λ_=>Q .non,rt:=Q } (dW ["top","bottom","divisor"] ds):=by
 rintro ds Q ⟨a,b,rfl,⟨h0,hb⟩,q⟩
 rw[cN 1 rfl]
 unfold YA
 walk_at "rd"
 rw[if_neg h0]
 refine⟨a,b,rfl,?_⟩
 have hg:=LN (a:=a) h0
 have bg:=BL.gcd (a:=a) h0 hb
 walk_at "rd"
 split
 ·rename_i hlt
  refine⟨bg.neg.divOk (by lia),bg.neg.divOk (by lia),q _ _ (Oq hlt)⟩
 ·rename_i hlt
  refine⟨bg.divOk (by lia),bg.divOk (by lia),q _ _ (TY (by lia))⟩
def Hq (f:Int->Int->Int->Int->Int):FD:=λds Q=>∃a b c d:Int,ds=[fr a b,fr c d]/\(0<b/\0<d)/\(BL 4000 a/\BL 4000 b/\BL 4000 c/\BL 4000 d)/\∀p q,Low (f a b c d) (b*d) p q->Q (fr p q)
theorem WS {f:Int->Int->Int->Int->Int}:∀ds Q,Hq f ds Q->ds.length=2:=by rintro ds Q ⟨a,b,c,d,rfl,_⟩;rfl
abbrev HL:FD:=Hq λa b c d=>a*d+c*b
abbrev BA:FD:=Hq λa b c d=>a*d-c*b
theorem Gx:∀ds Q,HL ds Q->Dx tI { nx:=λ_=>Q .non,rt:=Q } (dW ["one","other"] ds):=by
 rintro ds Q ⟨a,b,c,d,rfl,⟨h1,h2⟩,⟨ba,bb,bc,bd⟩,q⟩
 rw[cN 0 rfl]
 unfold Dx
 walk_at "rd"
 refine⟨ba.mulOk bd,bc.mulOk bb,bb.mulOk bd,_,_,rfl,⟨qH (aY h1 h2),(bb.mul bd).mono (by decide)⟩,q⟩
theorem Az:∀ds Q,BA ds Q->XZ tI { nx:=λ_=>Q .non,rt:=Q } (dW ["one","other"] ds):=by
 rintro ds Q ⟨a,b,c,d,rfl,⟨h1,h2⟩,⟨ba,bb,bc,bd⟩,q⟩
 rw[cN 0 rfl]
 unfold XZ
 walk_at "rd"
 refine⟨ba.mulOk bd,bc.mulOk bb,bb.mulOk bd,_,_,rfl,⟨qH (aY h1 h2),(bb.mul bd).mono (by decide)⟩,q⟩
def QK:FD:=λds Q=>∃a b:Int,ds=[.int a,.int b]/\(0<b/\BL 9000 b)/\∀p q,Low a b p q->Q (fr p q)
theorem Ol:∀ds Q,QK ds Q->ds.length=2:=by rintro ds Q ⟨a,b,rfl,_⟩;rfl
def xA:FD:=λds Q=>∃a:Int,ds=[.int a]/\Q (.bl true)
theorem Ft:∀ds Q,xA ds Q->ds.length=1:=by rintro ds Q ⟨a,rfl,_⟩;rfl
theorem NV:∀ds Q,xA ds Q->CW { nx:=λ_=>Q .non,rt:=Q } (dW ["_law_found"] ds):=by
 rintro ds Q ⟨a,rfl,q⟩
 rw[cN 0 rfl]
 unfold CW
 walk_at "rd"
 exact q
theorem fF {a b:Int} (h:0<b):0<=a.fmod b/\a.fmod b<b:=⟨Int.fmod_nonneg_of_pos a h,Int.fmod_lt_of_pos a h⟩
theorem Oh:∀ds Q,Ho 63 ds Q->ds.length=1:=by rintro ds Q ⟨a,rfl,_⟩;rfl
theorem lD {g:RG} {t:RS} {E:DEnds} (J:List D->En->Prop)
  (step:∀x xs ρ,J (x::xs) ρ->∀F:DEnds,F.rt=E.rt->F.bk=E.nx->(∀ρ',J xs ρ'->F.nx ρ')->(∀ρ',J xs ρ'->F.ct ρ')->g x ρ λρ1=>t F ρ1) (last:∀ρ,J [] ρ->E.nx ρ):∀xs ρ,J xs ρ->WD g t xs E ρ
 | [],ρ,h=>last ρ h
 | x::xs,ρ,h=>step x xs ρ h _ rfl rfl (λρ' h'=>lD J step last xs ρ' h') λρ' h'=>lD J step last xs ρ' h'
theorem VH {α:Type} {g:RG} {te:RE} (R:En->Prop) (enc f:α->D):∀(src:List α) {Q:List D->Prop},(∀a∈src,∀ρ,R ρ->∀K:En->D->Prop,(∀ρ1,R ρ1->K ρ1 (f a))->g (enc a) ρ λρ1=>te ρ1 λd=>K ρ1 d) ->
  ∀(ρ:En) (acc:List D),R ρ->Q (acc++src.map f)->GB g te (src.map enc) ρ acc Q
 | [],Q,_,ρ,acc,_,q=>by
  show Q acc
  simpa using q
 | a::src,Q,step,ρ,acc,h,q=>by
  show g (enc a) ρ λρ'=>te ρ' λd=>GB g te (src.map enc) ρ' (acc++[d]) Q
  refine step a cF ρ h (λρ1 d=>GB g te (src.map enc) ρ1 (acc++[d]) Q) λρ1 h1=>?_
  exact VH R enc f src (λb hb=>step b (aW _ hb)) ρ1 _ h1 (by simpa using q)
theorem zV {α:Type} {g:RG} {te:RE} (R:En->Prop) (enc f:α->D) (src:List α) {Q:List D->Prop} {ρ:En} (step:∀a∈src,∀ρ,R ρ->∀K:En->D->Prop,(∀ρ1,R ρ1->K ρ1 (f a))->g (enc a) ρ λρ1=>te ρ1 λd=>K ρ1 d)
  (h:R ρ) (q:Q (src.map f)):GB g te (src.map enc) ρ [] Q:=VH R enc f src step ρ [] h (by simpa using q)
abbrev il (ns:List Int):D:=.lst (ns.map .int)
abbrev pt (p:Int × Int):D:=.tup [.int p.1,.int p.2]
abbrev pts (ps:List (Int × Int)):D:=.lst (ps.map pt)
theorem sM {n:Nat} (h:n<=100000):Sz n:=⟨fO h (by decide)⟩
abbrev big:Int:=1000000000000000000000000000000000000000000000000000000000007
structure Drawn (m:Nat) (xs:List Int):Prop where
 len:xs.length=m
 lo:∀x∈xs,0<=x
 hi:∀x∈xs,x<big
theorem Bi {lo:Int} {n:Nat}:(sS lo n).length=n:=by simp[sS]
theorem UZ {α:Type} {xs:List α} {x:α} (h:xs.getLast? = some x):atI xs (-1)=some x:=by
 have hne:xs≠[]:=λe=>by rw[e] at h;cases h
 have hl:0<xs.length:=kD.mpr hne
 unfold atI ixN
 rw[if_neg (by decide),if_pos (by lia)]
 rw[List.getLast?_eq_getElem?] at h
 show xs[((-1:Int)+(xs.length:Int)).toNat]? = some x
 rw[<-h];congr 1;lia
abbrev aff (p q r s ox oy:Int) (z:Int × Int):Int × Int:=(p*z.1+q*z.2+ox,r*z.1+s*z.2+oy)
theorem cR {t u:RS} {E:DEnds} {ρ:En} (I:En->Prop) (h1:∀K:En->Prop,(∀ρ',I ρ'->K ρ')->t { E with nx:=K } ρ) (h2:∀ρ',I ρ'->u E ρ'):dY t u E ρ:=h1 (u E) h2
def Mt:FD:=λds Q=>∃n:Int,ds=[.int n]/\∀s,1<=s->s<=1000000000->Q (.int s)
theorem Gv:∀ds Q,Mt ds Q->yP { nx:=λ_=>Q .non,rt:=Q } (dW ["_law_number"] ds):=by
 rintro ds Q ⟨n,rfl,q⟩
 rw[cN 0 rfl]
 unfold yP
 walk_at "rd"
 walk_at "sides"
 obtain⟨a0,a1⟩:=fF (a:=n) (b:=3) (by decide)
 obtain⟨b0,b1⟩:=fF (a:=n.fdiv 3) (b:=12) (by decide)
 obtain⟨c0,c1⟩:=fF (a:=n.fdiv 3) (b:=1000000000) (by decide)
 refine Cn a0 (by simpa using a1) λx hx=>?_
 simp only[aK,fS,or_false] at hx
 rcases hx with rfl | rfl | rfl
 ·exact q _ (by decide) (by decide)
 ·exact q _ (by lia) (by lia)
 ·exact q _ (by lia) (by lia)
theorem GW:∀ds Q,QK ds Q->wR yG { nx:=λ_=>Q .non,rt:=Q } (dW ["_law_top","_law_bottom","_law_most"] ds):=by
 rintro ds Q ⟨a,b,rfl,⟨h0,hb⟩,q⟩
 rw[cN 1 rfl]
 unfold wR
 walk_at "rd"
 refine⟨a,b,rfl,?_⟩
 have hg:=LN (a:=a) (b:=b) (by lia)
 have bg:=BL.gcd (a:=a) (b:=b) (by lia) hb
 walk_at "rd"
 exact⟨bg.divOk (by lia),bg.divOk (by lia),q _ _ (TY h0)⟩
structure DueOf (share:Int) (cs:List (Int × Int)) (m sh:Int) (ds:List (Int × Int)) (j:Nat):Prop where
 mpos:0<m
 sh_eq:share=m*sh
 cs_eq:cs=ds.map λz=>(m*z.1,m*z.2)
 j_lt:j<ds.length
 least:∀z∈ds,∀w,ds[j]? = some w->HT.lexLt [z.1,z.2] [w.1,w.2]=false
 cop:∀d:Nat,(d:Int)∣sh->(∀z∈ds,(d:Int)∣z.1/\(d:Int)∣z.2)->d=1
abbrev turned {α:Type} (j:Nat) (ds:List α):List α:=ds.drop j++ds.take j
def LV:FD:=λds Q=>∃(share:Int) (cs:List (Int × Int)),ds=[.int share,pts cs]/\(0<share/\BL 100 share)/\(cs≠[]/\cs.length<=100) /\
 ∀m sh zs j,DueOf share cs m sh zs j->Q (.tup [.int sh,.tup ((turned j zs).map pt)])
theorem Of:∀ds Q,LV ds Q->ds.length=2:=by rintro ds Q ⟨_,_,rfl,_⟩;rfl
structure GcdOf (share:Int) (zs:List (Int × Int)) (g:Nat):Prop where
 pos:0<g
 sh:(g:Int)∣share
 all:∀z∈zs,(g:Int)∣z.1/\(g:Int)∣z.2
 most:∀d:Nat,(d:Int)∣share->(∀z∈zs,(d:Int)∣z.1/\(d:Int)∣z.2)->d∣g
theorem GcdOf.bl {share:Int} {zs:List (Int × Int)} {g:Nat} (h:GcdOf share zs g) (hs:0<share) {n:Nat} (b:BL n share):BL n (g:Int):=by
 refine b.le ?_
 have:=BY hs h.sh
 lia
theorem GcdOf.snoc {share:Int} {zs:List (Int × Int)} {g:Nat} (h:GcdOf share zs g) (z:Int × Int):GcdOf share (zs++[z]) (cD (cD g z.1:Nat) z.2):=by
 have d1:((cD (cD g z.1:Nat) z.2:Nat):Int)∣((cD g z.1:Nat):Int):=lZ ..
 have d2:((cD g z.1:Nat):Int)∣(g:Int):=lZ ..
 have d3:((cD g z.1:Nat):Int)∣z.1:=lI ..
 have d4:((cD (cD g z.1:Nat) z.2:Nat):Int)∣z.2:=lI ..
 have dg:=lR d1 d2
 refine⟨?_,lR dg h.sh,λw hw=>?_,λd e1 e2=>?_⟩
 ·have:=h.pos
  have h1:0<cD g z.1:=kJ _ (by lia)
  exact kJ _ (by lia)
 ·rcases cY.mp hw with h' | h'
  ·obtain⟨a,b⟩:=h.all w h'
   exact⟨lR dg a,lR dg b⟩
  ·rw[dU.mp h']
   exact⟨lR d1 d3,d4⟩
 ·obtain⟨a,b⟩:=e2 z (by simp)
  have:=h.most d e1 λw hw=>e2 w (gK _ hw)
  have h1:(d:Int)∣((cD g z.1:Nat):Int):=JS (by exact_mod_cast this) a
  exact_mod_cast JS h1 b
theorem QW {xs:List D} {j:Nat} (h:j<=xs.length):cutD xs (some (j:Int)) none=xs.drop j:=by
 unfold cutD
 rw[HT.sIx_nat,HT.sIx_none,JV h,mQ (by simp)]
theorem Cl {xs:List D} {j:Nat} (h:j<=xs.length):cutD xs none (some (j:Int))=xs.take j:=by
 unfold cutD
 rw[HT.sIx_nat,HT.sIx_none,JV h];simp
theorem TJ (z w:Int × Int):eqF 6 (pt z) (pt w)=some (decide (z=w)):=by
 obtain⟨a,b⟩:=z
 obtain⟨c,d⟩:=w
 simp only[eqF,eqL]
 congr 1
 by_cases h1:a=c <;> by_cases h2:b=d <;> simp[h1,h2]
theorem UJ:∀ds Q,LV ds Q->JM yG { nx:=λ_=>Q .non,rt:=Q } (dW ["_law_share_here","_law_ring_here","_law_most","_law_x","_law_y","_law_corners","_law_at"] ds):=by
 rintro ds Q ⟨share,cs,rfl,⟨hs,bs⟩,⟨hne,hlen⟩,q⟩
 rw[cN 5 rfl]
 unfold JM
 simp only[iQ,Px,aT,bU,bG,cC]
 refine cR (λρ=>ρ=[sdV (.int share),sdV (pts cs),sdV (.int share),none,none,none,none]) (λK hK=>?_) ?_
 ·walk_at "rd"
  exact hK _ rfl
 rintro ρ rfl
 refine cR (λρ=>∃(g:Nat) (x y:Option S),GcdOf share cs g/\ρ=[sdV (.int share),sdV (pts cs),sdV (.int g),x,y,none,none]) (λK hK=>?_) ?_
 ·walk_at "rd"
  refine lD (λxs ρ=>∃(done rest:List (Int × Int)) (g:Nat) (x y:Option S),cs=done++rest/\xs=rest.map pt/\GcdOf share done g/\ρ=[sdV (.int share),sdV (pts cs),sdV (.int g),x,y,none,none]) ?_ ?_ _ _ ⟨[],cs,share.toNat,none,none,rfl,rfl,⟨by lia,?_,by simp,λd e1 _=>?_⟩,?_⟩
  ·rintro x xs ρ ⟨done,rest,g,u,v,e,ex,hg,rfl⟩ F _ _ hn _
   cases rest with
   | nil=>cases ex
   | cons z rest =>
    cases ex
    unfold AO
    walk_at "rd"
    refine⟨_,_,rfl,_,_,rfl,?_⟩
    exact hn _ ⟨done++[z],rest,_,_,_,by simpa using e,rfl,hg.snoc z,rfl⟩
  ·rintro ρ ⟨done,rest,g,u,v,e,ex,hg,rfl⟩
   have:rest=[]:=by simpa using ex.symm
   subst this
   rw[eV] at e
   subst e
   exact hK _ ⟨g,u,v,hg,rfl⟩
  ·have:(share.toNat:Int)=share:=by lia
   rw[this];exact oN _
  ·have:(share.toNat:Int)=share:=by lia
   exact_mod_cast (by rw[this];exact e1:(d:Int)∣(share.toNat:Int))
  ·have:(share.toNat:Int)=share:=by lia
   rw[this]
 rintro ρ ⟨g,x,y,hg,rfl⟩
 have gp:(0:Int)<g:=by have:=hg.pos;lia
 have gb:BL 9000 (g:Int):=(hg.bl hs bs).mono (by decide)
 obtain⟨zs,ez⟩:∃zs,zs=cs.map λz=>(z.1 / (g:Int),z.2 / (g:Int)):=⟨_,rfl⟩
 have ec:cs=zs.map λz=>((g:Int)*z.1,(g:Int)*z.2):=by
  rw[ez,dD]
  symm
  conv=>rhs;rw[<-nZ cs]
  refine pC λz hz=>?_
  obtain⟨a,b⟩:=hg.all z hz
  simp only[vL,id,iR a,iR b]
 refine cR (λρ=>ρ=[sdV (.int share),sdV (pts cs),sdV (.int g),x,y,some (.own (zs.map pt)),none]) (λK hK=>?_) ?_
 ·walk_at "rd"
  refine⟨sM (by simp;lia),?_⟩
  refine zV (λρ=>∃a b,ρ=[a,b,sdV (.int g)]) pt (λz=>pt (z.1 / (g:Int),z.2 / (g:Int))) cs ?_ ⟨_,_,rfl⟩ ?_
  ·rintro z hz ρ ⟨a,b,rfl⟩ K' hK'
   walk_at "rd"
   refine⟨gb.divOk (by lia),gb.divOk (by lia),?_⟩
   rw[cS _ (by lia),cS _ (by lia)]
   exact hK' _ ⟨_,_,rfl⟩
  ·refine hK _ ?_
   rw[ez,dD];rfl
 rintro ρ rfl
 have lz:zs.length=cs.length:=by rw[ez];simp
 have hz:zs≠[]:=by intro e;rw[e] at lz;exact hne (wA.mp lz.symm)
 refine cR (λρ=>∃j:Nat,(j<zs.length/\∀z∈zs,∀w,zs[j]? = some w->HT.lexLt [z.1,z.2] [w.1,w.2]=false)/\ρ=[sdV (.int share),sdV (pts cs),sdV (.int g),x,y,some (.own (zs.map pt)),sdV (.int j)]) (λK hK=>?_) ?_
 ·walk_at "rd"
  refine⟨⟨_,rfl⟩,zs.map λz=>[z.1,z.2],by rw[dD];rfl,by simpa using hz,λM hM hmin=>?_⟩
  obtain⟨w,hw,rfl⟩:=cB.mp hM
  have hlt:zs.findIdx (λz=>decide (z=w))<zs.length:=List.findIdx_lt_length_of_exists ⟨w,hw,by simp⟩
  have hat:=List.findIdx_getElem (w:=hlt)
  have hat':zs[zs.findIdx (λz=>decide (z=w))]=w:=by simpa using hat
  refine⟨zs.findIdx (λz=>decide (z=w)),⟨pt w,?_,?_⟩,λi d hi ed=>?_,λd hd=>?_,hK _ ⟨_,⟨hlt,λz hz v ev=>?_⟩,rfl⟩⟩
  ·rw[bJ,aF hlt,hat'];rfl
  ·show eqF 6 (pt w) (pt w)=_
   rw[TJ];simp
  ·rw[bJ] at ed
   cases e:zs[i]? with
   | none=>rw[e] at ed;cases ed
   | some z =>
    rw[e] at ed;cases ed
    show eqF 6 (pt z) (pt w)=_
    have hil:i<zs.length:=(aX.mp e).1
    have:=List.not_of_lt_findIdx hi
    rw[TJ]
    have e2:zs[i]=z:=by rw[aF hil] at e;exact dN e
    rw[e2] at this
    simpa using this
  ·obtain⟨z,_,rfl⟩:=cB.mp hd
   exact⟨_,TJ z w⟩
  ·rw[aF hlt,hat'] at ev;cases ev
   exact hmin _ (cB.mpr ⟨z,hz,rfl⟩)
 rintro ρ ⟨j,⟨hj,hleast⟩,rfl⟩
 walk_at "rd"
 have lm:(zs.map pt).length=zs.length:=by simp
 rw[QW (by lia),Cl (by lia)]
 refine⟨gb.divOk (by lia),sM (by simp;lia),?_⟩
 rw[cS _ (by lia)]
 have:=q g (share / g) zs j ⟨gp,(iR hg.sh).symm,ec,hj,hleast,λd e1 e2=>?_⟩
 ·rw[cU,List.map_drop,jN] at this
  exact this
 ·have h1:((g*d:Nat):Int)∣share:=by
   rw[<-iR hg.sh]
   push_cast
   exact yH (oN _) e1
  have h2:=hg.most (g*d) h1 λz hz=>by
   rw[ec] at hz
   obtain⟨w,hw,rfl⟩:=cB.mp hz
   obtain⟨a,b⟩:=e2 w hw
   push_cast
   exact⟨yH (oN _) a,yH (oN _) b⟩
  have h3:=vN hg.pos h2
  have h4:d≠0:=λe=>by
   subst e
   simp at h2
   have:=hg.pos;lia
  have h5:=hg.pos
  rcases Nat.lt_or_ge 1 d with h | h
  ·have:g*2<=g*d:=Nat.mul_le_mul_left _ h
   lia
  ·lia
def BP (z:Pt):Prop:=BL 20000 z.1/\BL 20000 z.2
def vK:FD:=λds Q=>∃a b c:Pt,ds=[pt a,pt b,pt c]/\(BP a/\BP b/\BP c)/\Q (.int (cQ a b c))
theorem Kj:∀ds Q,vK ds Q->ds.length=3:=by rintro ds Q ⟨_,_,_,rfl,_⟩;rfl
theorem Gy:∀ds Q,vK ds Q->Dy { nx:=λ_=>Q .non,rt:=Q } (dW ["one","middle","other","along","across"] ds):=by
 rintro ds Q ⟨a,b,c,rfl,⟨ba,bb,bc⟩,q⟩
 rw[cN 2 rfl]
 unfold Dy
 walk_at "rd"
 exact⟨(bb.1.sub ba.1).mulOk (bc.2.sub ba.2),(bb.2.sub ba.2).mulOk (bc.1.sub ba.1),q⟩
def SL:FD:=λds Q=>∃ps:List Pt,ds=[pts ps]/\(∀z∈ps,BP z)/\ps.length<=900/\Q (pts (sY ps))
theorem Kf:∀ds Q,SL ds Q->ds.length=1:=by rintro ds Q ⟨_,rfl,_⟩;rfl
theorem Hz {α:Type} (xs:List α) (x:α):atI (xs++[x]) (-1)=some x:=by
 unfold atI ixN
 rw[if_neg (by decide),if_pos (by simp;lia)]
 have:((-1:Int)+((xs++[x]).length:Nat)).toNat=xs.length:=by simp;lia
 simp only[this,HX]
 simp
theorem Ia {α:Type} (xs:List α) (x y:α):atI (xs++[x,y]) (-2)=some x:=by
 unfold atI ixN
 rw[if_neg (by decide),if_pos (by simp;lia)]
 have:((-2:Int)+((xs++[x,y]).length:Nat)).toNat=xs.length:=by simp;lia
 simp only[this,HX]
 simp
theorem MV (E:DEnds) (u:Option S) (p:Pt) (hp:BP p):∀s:List Pt,(∀z∈s,BP z)->E.nx [u,some (.own ((jV p s).reverse.map pt)),sdV (pt p)] ->
  ES (Bd (dX (r2 (nG λi j=>decide (j<i)) (r1 rT (aL 1)) (rcI 1))) (dX (r2 (nG λi j=>decide (i<=j)) (cV vK (aC (r2 dIx (aL 1) (r1 wF (rcI 2))) (aC (r2 dIx (aL 1) (r1 wF (rcI 1))) (aC (cG 2) aV)))) (rcI 0)))) oX E [u,some (.own (s.reverse.map pt)),sdV (pt p)]
 | [],_,h=>by
  refine⟨1,?_⟩
  unfold qZ
  walk_at "rd"
  simp
  exact h
 | [x],_,h=>by
  refine⟨1,?_⟩
  unfold qZ
  walk_at "rd"
  simp
  exact h
 | b::a::r,hs,h=>by
  have ea:((b::a::r).reverse.map pt)=(r.reverse.map pt)++[pt a,pt b]:=by simp
  have eb:((b::a::r).reverse.map pt)=((a::r).reverse.map pt)++[pt b]:=by simp
  have i2:=Ia (r.reverse.map pt) (pt a) (pt b)
  have i1:=Hz ((a::r).reverse.map pt) (pt b)
  rw[<-ea] at i2;rw[<-eb] at i1
  by_cases ht:cQ a b p<=0
  ·have e:jV p (b::a::r)=jV p (a::r):=by rw[jV,if_pos ht]
   rw[e] at h
   obtain⟨n,hn⟩:=MV E u p hp (a::r) (λz hz=>hs z (aW _ hz)) h
   refine⟨n+1,?_⟩
   unfold qZ
   generalize hW:qZ (Bd (dX (r2 (nG λi j=>decide (j<i)) (r1 rT (aL 1)) (rcI 1))) (dX (r2 (nG λi j=>decide (i<=j)) (cV vK (aC (r2 dIx (aL 1) (r1 wF (rcI 2))) (aC (r2 dIx (aL 1) (r1 wF (rcI 1))) (aC (cG 2) aV)))) (rcI 0)))) oX n E=W at hn
   walk_at "rd"
   rw[if_pos (by simp;lia)]
   refine xP i2 (xP i1 ⟨a,b,p,rfl,⟨hs a (by simp),hs b (by simp),hp⟩,?_⟩)
   show if cQ a b p<=0 then _ else _
   rw[if_pos ht]
   unfold oX
   walk_at "rd"
   refine⟨by simp,?_⟩
   rw[eb,jQ]
   exact hn
  ·have e:jV p (b::a::r)=b::a::r:=by rw[jV,if_neg ht]
   rw[e] at h
   refine⟨1,?_⟩
   unfold qZ
   walk_at "rd"
   rw[if_pos (by simp;lia)]
   refine xP i2 (xP i1 ⟨a,b,p,rfl,⟨hs a (by simp),hs b (by simp),hp⟩,?_⟩)
   show if cQ a b p<=0 then _ else _
   rw[if_neg ht]
   exact h
theorem XJ (p:Pt) (s:List Pt):(jV p s).length<=s.length:=(wN p s).length_le
theorem KK:∀ds Q,SL ds Q->CY vK { nx:=λ_=>Q .non,rt:=Q } (dW ["points","chain","point"] ds):=by
 rintro ds Q ⟨ps,rfl,hb,hl,q⟩
 rw[cN 2 rfl]
 unfold CY
 simp only[iQ,Pw,aT,bU,bG,cC]
 refine cR (λρ=>ρ=[sdV (pts ps),some (.own []),none]) (λK hK=>?_) ?_
 ·walk_at "rd"
  exact hK _ rfl
 rintro ρ rfl
 refine cR (λρ=>∃x:Option S,ρ=[sdV (pts ps),some (.own ((kF ps).reverse.map pt)),x]) (λK hK=>?_) ?_
 ·walk_at "rd"
  refine lD (λxs ρ=>∃(done rest:List Pt) (x:Option S),ps=done++rest/\xs=rest.map pt/\ρ=[sdV (pts ps),some (.own ((kF done).reverse.map pt)),x]) ?_ ?_ _ _ ⟨[],ps,none,rfl,rfl,rfl⟩
  ·rintro x xs ρ ⟨done,rest,u,e,ex,rfl⟩ F _ _ hn _
   cases rest with
   | nil=>cases ex
   | cons z rest =>
    cases ex
    have bd:∀w∈done,BP w:=λw hw=>hb w (by rw[e];simp[hw])
    have bz:BP z:=hb z (by rw[e];simp)
    have ld:done.length<ps.length:=by rw[e];simp
    have sub:∀(L s:List Pt),(∀q∈L.foldl (λs p=>p::jV p s) s,q∈L\/q∈s)/\(L.foldl (λs p=>p::jV p s) s).length<=L.length+s.length:=by
     intro L
     induction L with
     | nil=>intro s;exact⟨λq h=>cX h,by simp⟩
     | cons y L ih =>
      intro s
      obtain⟨i1,i2⟩:=ih (y::jV y s)
      refine⟨λq h=>?_,?_⟩
      ·rcases i1 q h with h | h
       ·exact cZ (by simp[h])
       ·rcases aK.mp h with h | h
        ·exact cZ (by simp[h])
        ·exact cX ((wN y s).subset h)
      ·have:=XJ y s
       simp only[pP,bZ] at i2 ⊢
       lia
    obtain⟨s1,s2⟩:=sub done []
    unfold wV
    simp only[fB,bQ,bP]
    refine MV _ _ z bz (kF done) (λw hw=>?_) ?_
    ·rcases s1 w hw with h | h
     ·exact bd w h
     ·cases h
    ·walk_at "rd"
     have l1:=XJ z (kF done)
     have l2:(kF done).length<=done.length:=by simpa [kF] using s2
     refine⟨⟨Df (by simp;lia)⟩,hn _ ⟨done++[z],rest,sdV (pt z),by simpa using e,rfl,?_⟩⟩
     unfold kF
     simp
  ·rintro ρ ⟨done,rest,u,e,ex,rfl⟩
   have:rest=[]:=by simpa using ex.symm
   subst this
   rw[eV] at e
   subst e
   exact hK _ ⟨u,rfl⟩
 rintro ρ ⟨x,rfl⟩
 walk_at "rd"
 have e:cutD ((kF ps).reverse.map pt) none (some (-1))=(sY ps).map pt:=by
  unfold cutD sY
  rw[List.map_dropLast]
  generalize (kF ps).reverse.map pt=xs
  have h1:HT.sIx xs.length 0 none=0:=rfl
  have h2:HT.sIx xs.length xs.length (some (-1))=xs.length-1:=by
   unfold HT.sIx
   simp
   lia
  rw[h1,h2,LY,xI,List.dropLast_eq_take]
 rw[e]
 exact q
theorem Om (z w:Pt):oG [z.1,z.2] [w.1,w.2]=decide (ltP z w):=by
 unfold ltP
 simp only[oG]
 by_cases h:z.1=w.1
 ·rw[if_pos h]
  by_cases h2:z.2=w.2
  ·rw[if_pos h2];simp[h,h2]
  ·rw[if_neg h2];simp[h]
 ·rw[if_neg h];simp[h]
def tT:FD:=λds Q=>∃ps:List Pt,ds=[pts ps]/\(∀z∈ps,BP z)/\ps.length<64/\∀D r:List Pt,Inc D->(∀z,z∈D↔z∈ps)->(2<=D.length->r=CN D)->(D.length<=1->r.length<3)->r.length<=200->Q (pts r)
theorem WQ:∀ds Q,tT ds Q->ds.length=1:=by rintro ds Q ⟨_,rfl,_⟩;rfl
theorem UK:∀ds Q,tT ds Q->OA SL { nx:=λ_=>Q .non,rt:=Q } (dW ["points","rising"] ds):=by
 rintro ds Q ⟨ps,rfl,hb,hl,q⟩
 rw[cN 1 rfl]
 unfold OA
 walk_at "rd"
 unfold NX NW
 walk_at "rd"
 refine⟨ps.map λz=>[z.1,z.2],by rw[dD];rfl,by simpa using hl,λns h=>?_,λmss hs hm hlen=>?_⟩
 ·obtain⟨z,_,rfl⟩:=cB.mp h;simp
 obtain⟨L,hL⟩:∃L:List Pt,mss=L.map λz=>[z.1,z.2]:=by
  have:∀ms∈mss,∃z:Pt,ms=[z.1,z.2]:=λms h=>by
   obtain⟨z,_,e⟩:=cB.mp ((hm ms).mp h)
   exact⟨z,e.symm⟩
  clear hs hm hlen
  induction mss with
  | nil=>exact⟨[],rfl⟩
  | cons m mss ih =>
   obtain⟨L,e⟩:=ih λms h=>this ms (aW _ h)
   obtain⟨z,e2⟩:=this m (by simp)
   exact⟨z::L,by rw[e,e2];rfl⟩
 subst hL
 have inj:∀z w:Pt,[z.1,z.2]=[w.1,w.2]->z=w:=λz w h=>by simp at h;exact lJ h.1 h.2
 have memL:∀z,z∈L↔z∈ps:=λz=>by
  have:=hm [z.1,z.2]
  constructor
  ·intro h
   obtain⟨w,hw,e⟩:=cB.mp (this.mp (cB.mpr ⟨z,h,rfl⟩))
   rw[<-inj _ _ e];exact hw
  ·intro h
   obtain⟨w,hw,e⟩:=cB.mp (this.mpr (cB.mpr ⟨z,h,rfl⟩))
   rw[<-inj _ _ e];exact hw
 have wL:YU L:=by
  unfold YU
  refine (nU.mp hs).imp λ{a b} h=>?_
  rw[Om] at h
  simpa using h
 have eL:D.lst (uF nQ (uF (λz:Pt=>[z.1,z.2]) L))=pts L:=by rw[dD];rfl
 have lL:L.length<=63:=by simp at hlen;lia
 have bL:∀z∈L,BP z:=λz hz=>hb z ((memL z).mp hz)
 obtain⟨D,HD⟩:=Jp L wL
 obtain⟨o1,o2⟩:=VZ wL HD.inc HD.mem
 have h1:∀M:List Pt,(sY M).length<=M.length:=λM=>by
  unfold sY
  have:=Jy M
  simp;lia
 rw[eL]
 refine⟨L,rfl,bL,by lia,L.map pt,rfl,L.reverse,by rw[<-HQ],λz hz=>bL z (oQ.mp hz),by simp;lia,?_⟩
 have a1:=h1 L
 have a2:=h1 L.reverse
 rw[sW] at a2
 show Sz (((sY L).map pt).length+((sY L.reverse).map pt).length)/\Q (.lst ((sY L).map pt++(sY L.reverse).map pt))
 refine⟨⟨Df (by simp;lia)⟩,?_⟩
 rw[<-cU]
 exact q D (CN L) HD.inc (λz=>(HD.mem z).trans (memL z)) o1 o2 (by unfold CN;simp;lia)
structure NormOf (share:Int) (cs:List Pt) (m sh:Int) (zs:List Pt):Prop where
 mpos:0<m
 sh_eq:share=m*sh
 cs_eq:cs=zs.map λz=>(m*z.1,m*z.2)
 cop:∀d:Nat,(d:Int)∣sh->(∀z∈zs,(d:Int)∣z.1/\(d:Int)∣z.2)->d=1
theorem vP {a b x y:Int} (ha:0<a) (hb:0<b) (e:a*x=b*y):a / (cD a b:Nat)∣y:=by
 have hg:(0:Int)<(cD a b:Nat):=by
  have:=kJ (a:=a) b (by lia);lia
 obtain⟨a',ea⟩:((cD a b:Nat):Int)∣a:=lZ ..
 obtain⟨b',eb⟩:((cD a b:Nat):Int)∣b:=lI ..
 have e1:a / (cD a b:Nat)=a':=by
  have:a / ((cD a b:Nat):Int)=(((cD a b:Nat):Int)*a') / ((cD a b:Nat):Int):=congrArg (· / ((cD a b:Nat):Int)) ea
  rw[this,fW _ (by lia)]
 have e2:b / (cD a b:Nat)=b':=by
  have:b / ((cD a b:Nat):Int)=(((cD a b:Nat):Int)*b') / ((cD a b:Nat):Int):=congrArg (· / ((cD a b:Nat):Int)) eb
  rw[this,fW _ (by lia)]
 have cop:cD a' b'=1:=by
  have:=uS (i:=a) (j:=b) (by have:=hg;lia)
  rw[e1,e2] at this
  exact this
 rw[e1]
 have h:a'*x=b'*y:=by
  have:((cD a b:Nat):Int)*(a'*x)=((cD a b:Nat):Int)*(b'*y):=by
   rw[<-pH,<-pH,<-ea,<-eb];exact e
  exact cH (by lia) this
 have d:a'∣b'*y:=⟨x,h.symm⟩
 have d2:a'.natAbs∣b'.natAbs*y.natAbs:=by rw[<-iY];exact yT.mpr d
 exact yT.mp (lX (show Nat.Coprime a'.natAbs b'.natAbs from cop) d2)
theorem RN {a b sh sh':Int} {zs zs':List Pt} (ha:0<a) (hb:0<b) (e1:a*sh=b*sh') (e2:zs.map (λz=>(a*z.1,a*z.2))=zs'.map λz=>(b*z.1,b*z.2))
  (cop:∀d:Nat,(d:Int)∣sh'->(∀z∈zs',(d:Int)∣z.1/\(d:Int)∣z.2)->d=1):a∣b:=by
 have len:zs.length=zs'.length:=by have:=congrArg fJ e2;simpa using this
 have hg:(0:Int)<(cD a b:Nat):=by
  have:=kJ (a:=a) b (by lia);lia
 obtain⟨a',ea⟩:((cD a b:Nat):Int)∣a:=lZ ..
 have e0:a / (cD a b:Nat)=a':=by
  have:a / ((cD a b:Nat):Int)=(((cD a b:Nat):Int)*a') / ((cD a b:Nat):Int):=congrArg (· / ((cD a b:Nat):Int)) ea
  rw[this,fW _ (by lia)]
 have pa:0<a':=by
  apply dS.mp
  intro hn
  have:((cD a b:Nat):Int)*a'<=0:=eD (by lia) hn
  lia
 have one:=cop a'.toNat (by
  rw[BR (by lia),<-e0];exact vP ha hb e1) λz hz=>by
  rw[BR (by lia),<-e0]
  obtain⟨i,hi,rfl⟩:=eQ hz
  have hi':i<zs.length:=by lia
  have ei:(zs.map λz=>(a*z.1,a*z.2))[i]? = (zs'.map λz=>(b*z.1,b*z.2))[i]?:=by rw[e2]
  rw[bJ,bJ,aF hi,aF hi'] at ei
  simp only[nF,qQ,eK] at ei
  exact⟨vP ha hb ei.1,vP ha hb ei.2⟩
 have:a'=1:=by lia
 rw[this,pZ] at ea
 rw[ea]
 exact lI ..
theorem WZ {a b sh sh':Int} {zs zs':List Pt} (ha:0<a) (hb:0<b) (e1:a*sh=b*sh') (e2:zs.map (λz=>(a*z.1,a*z.2))=zs'.map λz=>(b*z.1,b*z.2))
  (c1:∀d:Nat,(d:Int)∣sh->(∀z∈zs,(d:Int)∣z.1/\(d:Int)∣z.2)->d=1) (c2:∀d:Nat,(d:Int)∣sh'->(∀z∈zs',(d:Int)∣z.1/\(d:Int)∣z.2)->d=1):sh=sh'/\zs=zs':=by
 have h1:=RN ha hb e1 e2 c2
 have h2:=RN hb ha e1.symm e2.symm c1
 have hab:a=b:=Int.le_antisymm (BY hb h1) (BY ha h2)
 subst hab
 refine⟨cH (by lia) e1,?_⟩
 have len:zs.length=zs'.length:=by have:=congrArg fJ e2;simpa using this
 apply HP len
 intro i hi hi'
 have ei:(zs.map λz=>(a*z.1,a*z.2))[i]? = (zs'.map λz=>(a*z.1,a*z.2))[i]?:=by rw[e2]
 rw[bJ,bJ,aF hi,aF hi'] at ei
 simp only[nF,qQ,eK] at ei
 exact lJ (cH (by lia) ei.1) (cH (by lia) ei.2)
theorem NormOf.same {share share' m m' sh sh' k k':Int} {cs cs' zs zs':List Pt} (h:NormOf share cs m sh zs) (h':NormOf share' cs' m' sh' zs') (hk:0<k) (hk':0<k') (e1:k*share=k'*share') (e2:cs.map (λz=>(k*z.1,k*z.2))=cs'.map λz=>(k'*z.1,k'*z.2)):sh=sh'/\zs=zs':=by
 refine WZ (a:=k*m) (b:=k'*m') (aY hk h.mpos) (aY hk' h'.mpos) ?_ ?_ h.cop h'.cop
 ·rw[pH,pH,<-h.sh_eq,<-h'.sh_eq];exact e1
 ·rw[h.cs_eq,h'.cs_eq,dD,dD] at e2
  simp only[FH,<-pH] at e2
  exact e2
structure RingIn (ps:List Pt) (z:Pt) (T:List Pt):Prop where
 cvx:Cvx (z::T)
 least:∀q∈T,¬ltP q z
 mem:∀q∈z::T,q∈ps
 left:∀a b,Cyc (z::T) a b->∀q∈ps,0<=cQ a b q
def Xt (ps:List Pt):Prop:=∀D,Inc D->(∀z,z∈D↔z∈ps)->2<=D.length->(CN D).length<3
def oM:FD:=λds Q=>∃(share:Int) (ps:List Pt),ds=[.int share,pts ps]/\(0<share/\BL 9000 share)/\(∀z∈ps,BP z)/\ps.length<64 /\
 ((∃z T,RingIn ps z T/\∀m sh zs,NormOf share (z::T) m sh zs->Q (.tup [.int sh,.tup (zs.map pt)]))\/(Xt ps/\Q .non))
theorem WR:∀ds Q,oM ds Q->ds.length=2:=by rintro ds Q ⟨_,_,rfl,_⟩;rfl
theorem UL:∀ds Q,oM ds Q->OB tT yG { nx:=λ_=>Q .non,rt:=Q } (dW ["share","points","corners","divisor","x","y"] ds):=by
 rintro ds Q ⟨share,ps,rfl,⟨hs,bs⟩,hb,hl,hq⟩
 rw[cN 4 rfl]
 unfold OB
 simp only[iQ,Bk,aT,bU,bG,cC]
 refine cR (λρ=>∃r:List Pt,r.length<=200/\((r.length<3/\Q .non)\/(3<=r.length/\∀m sh zs,NormOf share r m sh zs->Q (.tup [.int sh,.tup (zs.map pt)])))/\ρ=[sdV (.int share),sdV (pts ps),sdV (pts r),none,none,none]) (λK hK=>?_) ?_
 ·walk_at "rd"
  refine⟨ps,rfl,hb,hl,λD r iD hm h2 h1 hr=>hK _ ⟨r,hr,?_,rfl⟩⟩
  rcases hq with ⟨z,T,R,q⟩ | ⟨fl,q⟩
  ·have sub:3<=D.length:=by
    have:=vR (z::T) D R.cvx.nodup λx hx=>(hm x).mpr (R.mem x hx)
    have:=R.cvx.len
    lia
   have e:=UP (L:=ps) iD R.cvx R.least (λx hx=>(hm x).mpr (R.mem x hx)) λa b hab x hx=>R.left a b hab x ((hm x).mp hx)
   have er:=h2 (by lia)
   rw[e] at er
   subst er
   exact cX ⟨R.cvx.len,q⟩
  ·refine cZ ⟨?_,q⟩
   by_cases hd:2<=D.length
   ·rw[h2 hd];exact fl D iD hm hd
   ·exact h1 (by lia)
 rintro ρ ⟨r,hr,hq,rfl⟩
 rcases hq with ⟨h3,q⟩ | ⟨h3,q⟩
 ·walk_at "rd"
  rw[if_pos (by simp;lia)]
  exact q
 refine cR (λρ=>ρ=[sdV (.int share),sdV (pts ps),sdV (pts r),none,none,none]) (λK hK=>?_) ?_
 ·walk_at "rd"
  rw[if_neg (by simp;lia)]
  exact hK _ rfl
 rintro ρ rfl
 refine cR (λρ=>ρ=[sdV (.int share),sdV (pts ps),sdV (pts r),sdV (.int share),none,none]) (λK hK=>?_) ?_
 ·walk_at "rd"
  exact hK _ rfl
 rintro ρ rfl
 refine cR (λρ=>∃(g:Nat) (x y:Option S),GcdOf share r g/\ρ=[sdV (.int share),sdV (pts ps),sdV (pts r),sdV (.int g),x,y]) (λK hK=>?_) ?_
 ·walk_at "rd"
  refine lD (λxs ρ=>∃(done rest:List Pt) (g:Nat) (x y:Option S),r=done++rest/\xs=rest.map pt/\GcdOf share done g/\ρ=[sdV (.int share),sdV (pts ps),sdV (pts r),sdV (.int g),x,y]) ?_ ?_ _ _ ⟨[],r,share.toNat,none,none,rfl,rfl,⟨by lia,?_,by simp,λd e1 _=>?_⟩,?_⟩
  ·rintro x xs ρ ⟨done,rest,g,u,v,e,ex,hg,rfl⟩ F _ _ hn _
   cases rest with
   | nil=>cases ex
   | cons z rest =>
    cases ex
    unfold DF
    walk_at "rd"
    refine⟨_,_,rfl,_,_,rfl,?_⟩
    exact hn _ ⟨done++[z],rest,_,_,_,by simpa using e,rfl,hg.snoc z,rfl⟩
  ·rintro ρ ⟨done,rest,g,u,v,e,ex,hg,rfl⟩
   have:rest=[]:=by simpa using ex.symm
   subst this
   rw[eV] at e
   subst e
   exact hK _ ⟨g,u,v,hg,rfl⟩
  ·have:(share.toNat:Int)=share:=by lia
   rw[this];exact oN _
  ·have:(share.toNat:Int)=share:=by lia
   exact_mod_cast (by rw[this];exact e1:(d:Int)∣(share.toNat:Int))
  ·have:(share.toNat:Int)=share:=by lia
   rw[this]
 rintro ρ ⟨g,x,y,hg,rfl⟩
 have gp:(0:Int)<g:=by have:=hg.pos;lia
 have gb:BL 9000 (g:Int):=hg.bl hs bs
 obtain⟨zs,ez⟩:∃zs,zs=r.map λz=>(z.1 / (g:Int),z.2 / (g:Int)):=⟨_,rfl⟩
 have ec:r=zs.map λz=>((g:Int)*z.1,(g:Int)*z.2):=by
  rw[ez,dD]
  symm
  conv=>rhs;rw[<-nZ r]
  refine pC λz hz=>?_
  obtain⟨a,b⟩:=hg.all z hz
  simp only[vL,id,iR a,iR b]
 obtain⟨sh,es⟩:=hg.sh
 have ediv:share.fdiv g=sh:=by
  rw[cS _ (by lia),es,fW _ (by lia)]
 walk_at "rd"
 refine⟨gb.divOk (by lia),?_⟩
 refine⟨sM (by simp;lia),?_⟩
 refine zV (λρ=>∃a b,ρ=[a,b,sdV (.int g)]) pt (λz=>pt (z.1 / (g:Int),z.2 / (g:Int))) r ?_ ⟨_,_,rfl⟩ ?_
 ·rintro z hz ρ ⟨a,b,rfl⟩ K' hK'
  walk_at "rd"
  refine⟨gb.divOk (by lia),gb.divOk (by lia),?_⟩
  rw[cS _ (by lia),cS _ (by lia)]
  exact hK' _ ⟨_,_,rfl⟩
 ·have e:uF (λz:Pt=>pt (z.1 / (g:Int),z.2 / (g:Int))) r=zs.map pt:=by rw[ez,dD];rfl
  rw[ediv,e]
  refine q g sh zs ⟨gp,es,ec,λd h1 h2=>?_⟩
  have:=hg.most (d*g) (by
   rw[es];push_cast
   obtain⟨c,ec⟩:=h1
   exact⟨c,by rw[ec];grind⟩) λz hz=>by
   rw[ec] at hz
   obtain⟨w,hw,rfl⟩:=cB.mp hz
   obtain⟨⟨c1,e1⟩,c2,e2⟩:=h2 w hw
   push_cast
   exact⟨⟨c1,by rw[e1];grind⟩,c2,by rw[e2];grind⟩
  have le:=vN hg.pos this
  have d0:d≠0:=by
   rintro rfl
   rw[Nat.zero_mul] at this
   have:=wC this
   have:=hg.pos
   lia
  apply Nat.le_antisymm ?_ (by lia)
  apply Nat.not_lt.mp
  intro h
  have:2*g<=d*g:=zO _ h
  have:=hg.pos
  lia
def Rot {α:Type} (A B:List α):Prop:=∃X Y,A=X++Y/\B=Y++X
theorem Rot.refl {α:Type} (A:List α):Rot A A:=⟨A,[],by simp,by simp⟩
theorem Rot.symm {α:Type} {A B:List α} (h:Rot A B):Rot B A:=by obtain⟨X,Y,a,b⟩:=h;exact⟨Y,X,b,a⟩
theorem Rot.trans {α:Type} {A B C:List α} (h:Rot A B) (k:Rot B C):Rot A C:=by
 obtain⟨X,Y,rfl,rfl⟩:=h
 obtain⟨X',Y',e,rfl⟩:=k
 rcases List.append_eq_append_iff.mp e with ⟨W,e1,e2⟩ | ⟨W,e1,e2⟩
 ·-- X'=Y++W
  exact⟨W,Y'++Y,by rw[e2];simp,by rw[e1];simp⟩
 ·exact⟨X++X',W,by rw[e1];simp,by rw[e2];simp⟩
theorem Rot.map {α β:Type} {A B:List α} (f:α->β) (h:Rot A B):Rot (A.map f) (B.map f):=by
 obtain⟨X,Y,rfl,rfl⟩:=h;exact⟨X.map f,Y.map f,by simp,by simp⟩
theorem Rot.mem {α:Type} {A B:List α} (h:Rot A B) (x:α):x∈A↔x∈B:=by
 obtain⟨X,Y,rfl,rfl⟩:=h;simp[or_comm]
theorem Rot.nodup {α:Type} {A B:List α} (h:Rot A B) (n:A.Nodup):B.Nodup:=by
 obtain⟨X,Y,rfl,rfl⟩:=h
 rw[qM] at n ⊢
 exact⟨n.2.1,n.1,λa ha b hb e=>n.2.2 b hb a ha e.symm⟩
theorem Rot.head {α:Type} {z:α} {S T:List α} (h:Rot (z::S) (z::T)) (n:(z::S).Nodup):S=T:=by
 obtain⟨X,Y,e1,e2⟩:=h
 cases X with
 | nil=>simp at e1 e2;rw[<-e1] at e2;exact (List.cons.inj e2).2.symm
 | cons x X =>
  cases Y with
  | nil=>simp at e1 e2;rw[e1.2,e2.2]
  | cons y Y =>
   simp at e1 e2
   have h1:=(fM.mp n).1
   rw[e1.2] at h1
   exact absurd (by rw[<-e2.1];simp) h1
theorem Rot.least {z w:Pt} {S T:List Pt} (h:Rot (z::S) (w::T)) (n:(z::S).Nodup) (l1:∀q∈S,¬ltP q z) (l2:∀q∈T,¬ltP q w):z::S=w::T:=by
 have hz:z∈w::T:=(h.mem z).mp (by simp)
 have hw:w∈z::S:=(h.mem w).mpr (by simp)
 have e:z=w:=by
  rcases aK.mp hz with e | hz
  ·exact e
  ·rcases aK.mp hw with e | hw
   ·exact e.symm
   ·rcases qU z w with h | h | h
    ·exact absurd h (l2 z hz)
    ·exact h
    ·exact absurd h (l1 w hw)
 subst e
 rw[h.head n]
theorem Cvx.rot {A B:List Pt} (h:Rot A B) (c:Cvx A):Cvx B:=by obtain⟨X,Y,rfl,rfl⟩:=h;exact c.swap
theorem AC (cs:List Pt) (hne:cs≠[]):∃z T,Rot cs (z::T)/\∀q∈T,¬ltP q z:=by
 have:∃z∈cs,∀q∈cs,¬ltP q z:=by
  induction cs with
  | nil=>exact absurd rfl hne
  | cons c cs ih =>
   by_cases hc:cs=[]
   ·subst hc;exact⟨c,by simp,λq hq=>by simp at hq;subst hq;exact tQ⟩
   ·obtain⟨z,hz,hl⟩:=ih hc
    rcases qU c z with h | h | h
    ·refine⟨c,by simp,λq hq=>?_⟩
     rcases aK.mp hq with rfl | hq
     ·exact tQ
     ·exact λk=>hl q hq (rZ k h)
    ·subst h
     refine⟨c,by simp,λq hq=>?_⟩
     rcases aK.mp hq with rfl | hq
     ·exact tQ
     ·exact hl q hq
    ·refine⟨z,by simp[hz],λq hq=>?_⟩
     rcases aK.mp hq with rfl | hq
     ·exact tW h
     ·exact hl q hq
 obtain⟨z,hz,hl⟩:=this
 obtain⟨X,Y,rfl⟩:=mO hz
 exact⟨z,Y++X,⟨X,z::Y,rfl,rfl⟩,λq hq=>hl q (by simp at hq ⊢;rcases hq with h | h <;> simp[h])⟩
abbrev scl (k:Int) (z:Pt):Pt:=(k*z.1,k*z.2)
theorem UQ {k:Int} (hk:0<k) {a b:Pt}:ltP (scl k a) (scl k b)↔ltP a b:=by
 unfold ltP scl
 dsimp only
 rw[BQ hk,BQ hk]
 constructor
 ·rintro (h | ⟨h,h'⟩)
  ·exact cZ h
  ·exact cX ⟨cH (by lia) h,h'⟩
 ·rintro (h | ⟨h,h'⟩)
  ·exact cZ h
  ·exact cX ⟨by rw[h],h'⟩
theorem LR {k:Int} (hk:0<k) {a b:Pt} (h:scl k a=scl k b):a=b:=by
 simp only[scl,eK] at h
 exact lJ (cH (by lia) h.1) (cH (by lia) h.2)
theorem Mc (k:Int) (a b c:Pt):cQ (scl k a) (scl k b) (scl k c)=k*k*cQ a b c:=by unfold cQ scl;dsimp only;grind
theorem Cvx.unscl {k:Int} (hk:0<k) {cs:List Pt} (h:Cvx (cs.map (scl k))):Cvx cs:=by
 refine⟨by simpa using h.len,?_,λa b hab q hq n1 n2=>?_⟩
 ·exact zH (scl k) (λa b hn e=>hn (by rw[e])) h.nodup
 ·have c:Cyc (cs.map (scl k)) (scl k a) (scl k b):=by
   obtain⟨l,r,e⟩:=hab
   refine⟨l.map (scl k),r.map (scl k),?_⟩
   rw[<-jN,<-cU,e];simp
  have:=h.strict _ _ c (scl k q) (eI hq) (λe=>n1 (LR hk e)) λe=>n2 (LR hk e)
  rw[Mc] at this
  exact iS (by rw[kK];exact this) (aY hk hk)
def By:FD:=λds Q=>∃a b:Int,ds=[.int a,.int b]/\(0<a/\0<b)/\(BL 8000 a/\BL 8000 b)/\∀l,0<l->a∣l->b∣l->l<=a*b->Q (.int l)
theorem Oi:∀ds Q,By ds Q->ds.length=2:=by rintro ds Q ⟨_,_,rfl,_⟩;rfl
theorem AL:∀ds Q,By ds Q->uQ yG { nx:=λ_=>Q .non,rt:=Q } (dW ["one","other"] ds):=by
 rintro ds Q ⟨a,b,rfl,⟨ha,hb⟩,⟨ba,bb⟩,q⟩
 rw[cN 0 rfl]
 unfold uQ
 walk_at "rd"
 refine⟨a,b,rfl,?_⟩
 have hg:=LN (a:=a) (b:=b) (by lia)
 have bg:=BL.gcd (a:=a) (b:=b) (by lia) bb
 walk_at "rd"
 have b2:BL 8000 (b.fdiv (cD a b:Nat)):=bb.fdiv
 refine⟨(bg.mono (by decide)).divOk (by lia),ba.mulOk b2,?_⟩
 obtain⟨c,ec⟩:((cD a b:Nat):Int)∣b:=lI ..
 obtain⟨d,ed⟩:((cD a b:Nat):Int)∣a:=lZ ..
 have e1:b.fdiv (cD a b:Nat)=c:=by
  rw[cS _ (by lia)]
  have:b / ((cD a b:Nat):Int)=(((cD a b:Nat):Int)*c) / ((cD a b:Nat):Int):=congrArg (· / ((cD a b:Nat):Int)) ec
  rw[this,fW _ (by lia)]
 rw[e1]
 generalize hG:((cD a b:Nat):Int)=g at *
 have pc:0<c:=by
  apply dS.mp
  intro hn
  have:g*c<=0:=eD (by lia) hn
  lia
 refine q _ (aY ha pc) (FI ..) ⟨d,by rw[ed,ec];grind⟩ ?_
 rw[ec]
 have:0<=a*((g-1)*c):=fH (by lia) (fH (by lia) (by lia))
 have e:a*(g*c)=a*c+a*((g-1)*c):=by grind
 lia
abbrev mv (k r w:Int) (z:Pt):Pt:=(k*z.1+r,k*z.2+w)
structure PushOf (sh0:Int) (cs:List Pt) (sign p q u v:Int) (sh:Int) (zs:List Pt):Prop where
 ex:∃(κ s r w m:Int) (z:Pt) (T:List Pt),(0<κ/\s=κ*sh0/\s<=sh0*q*v)/\(r*q=p*s/\w*v=u*s)/\Rot (cs.map (mv (sign*κ) r w)) (z::T)/\(∀q∈T,¬ltP q z)/\Cvx (z::T)/\NormOf s (z::T) m sh zs
def vZ:FD:=λds Q=>∃(sh0 sign p q u v:Int) (cs:List Pt),ds=[.tup [.int sh0,.tup (cs.map pt)],.tup [.int sign,.tup [.int p,.int q],.tup [.int u,.int v]]]/\(0<sh0/\0<q/\0<v/\(sign=1\/sign = -1)) /\
 (BL 2000 sh0/\BL 2000 q/\BL 2000 v/\BL 7000 p/\BL 7000 u)/\(∀z∈cs,BL 7000 z.1/\BL 7000 z.2)/\Cvx cs/\cs.length<64/\∀sh zs,PushOf sh0 cs sign p q u v sh zs->Q (.tup [.int sh,.tup (zs.map pt)])
theorem ZZ:∀ds Q,vZ ds Q->ds.length=2:=by rintro ds Q ⟨_,_,_,_,_,_,_,rfl,_⟩;rfl
theorem Ot (k r w:Int) (a b c:Pt):cQ (mv k r w a) (mv k r w b) (mv k r w c)=k*k*cQ a b c:=by unfold cQ mv;dsimp only;grind
theorem Kq {k r w:Int} (hk:k≠0) {a b:Pt} (h:mv k r w a=mv k r w b):a=b:=by
 simp only[mv,eK] at h
 have h1:k*a.1=k*b.1:=by lia
 have h2:k*a.2=k*b.2:=by lia
 exact lJ (cH hk h1) (cH hk h2)
theorem Um {k:Int} (h:k≠0):0<k*k:=by
 rcases Int.lt_or_gt_of_ne h with h | h
 ·have:=aY (a:=-k) (b:=-k) (by lia) (by lia)
  rwa [Int.neg_mul_neg] at this
 ·exact aY h h
theorem VB {a b:Int} {n:Nat} (h0:0<a) (h:a<=b) (hb:BL n b):BL n a:=hb.le (by lia)
theorem XW:∀ds Q,vZ ds Q->SB oM By { nx:=λ_=>Q .non,rt:=Q } (dW ["piece","move","dx","dy","share","scale","right","up"] ds):=by
 rintro ds Q ⟨sh0,sign,p,q,u,v,cs,rfl,⟨h0,hq,hv,hs⟩,⟨b0,bq,bv,bp,bu⟩,bc,cv,hl,hQ⟩
 rw[cN 6 rfl]
 unfold SB
 simp only[iQ,Ue,aT,bU,bG,cC]
 generalize hP:D.tup [.int sh0,.tup (cs.map pt)]=PD
 generalize hM:D.tup [.int sign,.tup [.int p,.int q],.tup [.int u,.int v]]=MD
 refine cR (λρ=>ρ=[sdV PD,sdV MD,sdV (.tup [.int p,.int q]),none,none,none,none,none]) (λK hK=>?_) ?_
 ·rw[<-hP,<-hM] at hK ⊢
  walk_at "rd"
  exact hK _ rfl
 rintro ρ rfl
 refine cR (λρ=>ρ=[sdV PD,sdV MD,sdV (.tup [.int p,.int q]),sdV (.tup [.int u,.int v]),none,none,none,none]) (λK hK=>?_) ?_
 ·rw[<-hP,<-hM] at hK ⊢
  walk_at "rd"
  exact hK _ rfl
 rintro ρ rfl
 refine cR (λρ=>∃s:Int,(0<s/\sh0∣s/\q∣s/\v∣s/\s<=sh0*q*v)/\ρ=[sdV PD,sdV MD,sdV (.tup [.int p,.int q]),sdV (.tup [.int u,.int v]),sdV (.int s),none,none,none]) (λK hK=>?_) ?_
 ·rw[<-hP,<-hM] at hK ⊢
  walk_at "rd"
  refine⟨sh0,q,rfl,⟨h0,hq⟩,⟨b0.mono (by decide),bq.mono (by decide)⟩,λl l0 l1 l2 l3=>?_⟩
  refine⟨l,v,rfl,⟨l0,hv⟩,⟨(VB l0 l3 (b0.mul bq)).mono (by decide),bv.mono (by decide)⟩,λs s0 s1 s2 s3=>?_⟩
  refine hK _ ⟨s,⟨s0,lR l1 s1,lR l2 s1,s2,?_⟩,rfl⟩
  exact xC s3 (rL l3 (by lia))
 rintro ρ ⟨s,⟨s0,⟨κ,e1⟩,⟨cq,e2⟩,⟨cv',e3⟩,s4⟩,rfl⟩
 have bs:BL 6000 s:=VB s0 s4 ((b0.mul bq).mul bv)
 have pk:0<κ:=by
  apply dS.mp
  intro hn
  have:sh0*κ<=0:=eD (by lia) hn
  lia
 have d1:s.fdiv sh0=κ:=by rw[cS _ (by lia),e1,fW _ (by lia)]
 have d2:s.fdiv q=cq:=by rw[cS _ (by lia),e2,fW _ (by lia)]
 have d3:s.fdiv v=cv':=by rw[cS _ (by lia),e3,fW _ (by lia)]
 have bk:BL 6000 κ:=by rw[<-d1];exact bs.fdiv
 have bcq:BL 6000 cq:=by rw[<-d2];exact bs.fdiv
 have bcv:BL 6000 cv':=by rw[<-d3];exact bs.fdiv
 have bsg:BL 1 sign:=by rcases hs with rfl | rfl <;> exact BL.const (by decide)
 refine cR (λρ=>ρ=[sdV PD,sdV MD,sdV (.tup [.int p,.int q]),sdV (.tup [.int u,.int v]),sdV (.int s),sdV (.int (sign*κ)),none,none]) (λK hK=>?_) ?_
 ·rw[<-hP,<-hM] at hK ⊢
  walk_at "rd"
  rw[d1]
  exact⟨(b0.mono (by decide)).divOk (by lia),bsg.mulOk bk,hK _ rfl⟩
 rintro ρ rfl
 refine cR (λρ=>ρ=[sdV PD,sdV MD,sdV (.tup [.int p,.int q]),sdV (.tup [.int u,.int v]),sdV (.int s),sdV (.int (sign*κ)),sdV (.int (p*cq)),none]) (λK hK=>?_) ?_
 ·rw[<-hP,<-hM] at hK ⊢
  walk_at "rd"
  rw[d2]
  exact⟨(bq.mono (by decide)).divOk (by lia),bp.mulOk bcq,hK _ rfl⟩
 rintro ρ rfl
 refine cR (λρ=>ρ=[sdV PD,sdV MD,sdV (.tup [.int p,.int q]),sdV (.tup [.int u,.int v]),sdV (.int s),sdV (.int (sign*κ)),sdV (.int (p*cq)),sdV (.int (u*cv'))]) (λK hK=>?_) ?_
 ·rw[<-hP,<-hM] at hK ⊢
  walk_at "rd"
  rw[d3]
  exact⟨(bv.mono (by decide)).divOk (by lia),bu.mulOk bcv,hK _ rfl⟩
 rintro ρ rfl
 rw[<-hP]
 have bkk:=bsg.mul bk
 walk_at "rd"
 refine⟨sM (by simp;lia),?_⟩
 refine zV (λρ=>∃a b,ρ=[a,b,sdV (.int (sign*κ)),sdV (.int (p*cq)),sdV (.int (u*cv'))]) pt (λz=>pt (mv (sign*κ) (p*cq) (u*cv') z)) cs ?_ ⟨_,_,rfl⟩ ?_
 ·rintro z hz ρ ⟨a,b,rfl⟩ K' hK'
  walk_at "rd"
  obtain⟨z1,z2⟩:=bc z hz
  exact⟨bkk.mulOk z1,bkk.mulOk z2,hK' _ ⟨_,_,rfl⟩⟩
 have hk0:sign*κ≠0:=by rcases hs with rfl | rfl <;> lia
 have cv2:Cvx (cs.map (mv (sign*κ) (p*cq) (u*cv'))):=cv.map (Um hk0) (Ot _ _ _) λa b h=>Kq hk0 h
 obtain⟨z,T,rot,least⟩:=AC (cs.map (mv (sign*κ) (p*cq) (u*cv'))) (by intro e;have:=cv2.len;rw[e] at this;simp at this)
 have cz:=Cvx.rot rot cv2
 refine⟨s,cs.map (mv (sign*κ) (p*cq) (u*cv')),by show _=[D.int s,.lst (uF pt (uF (mv (sign*κ) (p*cq) (u*cv')) cs))];rw[dD];rfl,⟨s0,bs.mono (by decide)⟩,λw hw=>?_,by simpa using hl,cZ ⟨z,T,⟨cz,least,λa ha=>(rot.mem a).mpr ha,λa b hab c hc=>cz.side hab ((rot.mem c).mp hc)⟩,λm sh zs N=>hQ sh zs ⟨κ,s,p*cq,u*cv',m,z,T,⟨pk,by rw[e1];exact kK ..,s4⟩,⟨by rw[e2];grind,by rw[e3];grind⟩,rot,least,cz,N⟩⟩⟩
 obtain⟨x,hx,rfl⟩:=cB.mp hw
 obtain⟨x1,x2⟩:=bc x hx
 exact⟨((bkk.mul x1).add (bp.mul bcq)).mono (by decide),((bkk.mul x2).add (bu.mul bcv)).mono (by decide)⟩
section
variable {L:CLine} {cs:List Pt}
abbrev gF (F:Int) (t:H3):Pt:=(t.1*(F / t.2.2),t.2.1*(F / t.2.2))
structure Fits (F:Int) (t:H3):Prop where
 w:0<t.2.2
 f:0<F / t.2.2
 e:F / t.2.2*t.2.2=F
theorem Fits.of {F:Int} {t:H3} (hF:0<F) (hw:0<t.2.2) (hd:t.2.2∣F):Fits F t:=by
 have e:=sU hd
 refine⟨hw,?_,e⟩
 apply dS.mp
 intro h
 have:F / t.2.2*t.2.2<=0:=Int.mul_nonpos_of_nonpos_of_nonneg h (by lia)
 lia
theorem TM {F:Int} {p q r:H3} (hp:Fits F p) (hq:Fits F q) (hr:Fits F r):F*cQ (gF F p) (gF F q) (gF F r)=(F / p.2.2*(F / q.2.2)*(F / r.2.2))*kM p q r:=by
 have e1:=hp.e
 have e2:=hq.e
 have e3:=hr.e
 unfold cQ gF kM
 dsimp only
 generalize F / p.2.2=f1 at *
 generalize F / q.2.2=f2 at *
 generalize F / r.2.2=f3 at *
 grind
theorem ZK {F:Int} {p q r:H3} (hp:Fits F p) (hq:Fits F q) (hr:Fits F r):0<F / p.2.2*(F / q.2.2)*(F / r.2.2):=aY (aY hp.f hq.f) hr.f
theorem EQ {a b:Int} (ha:0<a) (h:0<a*b):0<b:=by
 apply dS.mp
 intro hb
 have:a*b<=0:=eD (by lia) hb
 lia
theorem Pm.w_pos {t:H3} (h:Pm L cs t):0<t.2.2:=by
 cases h with
 | corner hu h=>exact (by decide:(0:Int)<1)
 | cross hc h=>have:=EV h;lia
theorem Kt {f:H3->Pt} {l:List H3} {a b:Pt} (h:Nxt (l.map f) a b):∃p q,FT l p q/\a=f p/\b=f q:=by
 obtain⟨x,y,e⟩:=h
 obtain⟨l1,l2,rfl,e1,e2⟩:=mP.mp e
 obtain⟨p,l3,rfl,e3,e4⟩:=jR.mp e2
 obtain⟨q,l4,rfl,e5,e6⟩:=jR.mp e4
 exact⟨p,q,⟨l1,l4,rfl⟩,e3.symm,e5.symm⟩
theorem Vz {P:List H3} {p:H3} (hp:p∈P):∃q∈P,FT (P++P.take 1) p q:=by
 obtain⟨X,Y,rfl⟩:=mO hp
 cases Y with
 | cons q Y=>exact⟨q,by simp,X,Y++(X++p::q::Y).take 1,by simp⟩
 | nil =>
  cases X with
  | nil=>exact⟨p,by simp,[],[],by simp⟩
  | cons x X=>exact⟨x,by simp,x::X,[],by simp⟩
theorem Qm (a b:Pt):cQ a a b=0:=by unfold cQ;grind
theorem Sj (c:Cvx cs) (hpos:∃w∈cs,0<cxc L w) (hneg:∃w∈cs,cxc L w<0) {P:List H3} (h:CutOf L cs P) {F:Int} (hF:0<F) (fit:∀t∈P,Fits F t):Cvx (P.map (gF F)):=by
 have inj:∀p∈P,∀q∈P,gF F p=gF F q->p=q:=by
  intro p hp q hq e
  apply dJ
  intro ne
  obtain⟨q',hq',hn⟩:=Vz hp
  have A:=h.adj p q' hn
  by_cases e':q'=q
  ·subst e'
   have:∃r∈P,r≠p/\r≠q':=by
    apply dJ
    intro hno
    have:=len_sub P [p,q'] h.nodup λx hx=>by
     apply dJ
     intro hx'
     simp at hx'
     exact hno ⟨x,hx,hx'.1,hx'.2⟩
    have:=h.len
    simp at *
    lia
   obtain⟨r,hr,r1,r2⟩:=this
   have s:=EG c hpos hneg A (h.pm r hr) r1 r2
   have t:=TM (fit p hp) (fit q' hq') (fit r hr)
   rw[e,Qm] at t
   have:=aY (ZK (fit p hp) (fit q' hq') (fit r hr)) s
   lia
  ·have s:=EG c hpos hneg A (h.pm q hq) (Ne.symm ne) (Ne.symm e')
   have t:=TM (fit p hp) (fit q' hq') (fit q hq)
   rw[<-e,Ml] at t
   have:=aY (ZK (fit p hp) (fit q' hq') (fit q hq)) s
   lia
 refine⟨by simpa using h.len,?_,λa b hab q hq n1 n2=>?_⟩
 ·unfold uC
  rw[nU]
  refine List.Pairwise.imp_of_mem ?_ h.nodup
  intro a b ha hb hn e
  exact hn (inj a ha b hb e)
 ·have hab':Nxt ((P++P.take 1).map (gF F)) a b:=by rw[cU,jN];exact hab
  obtain⟨p,p',hn,rfl,rfl⟩:=Kt hab'
  obtain⟨r,hr,rfl⟩:=cB.mp hq
  have mem:p∈P/\p'∈P:=by
   obtain⟨x,y,e⟩:=hn
   have sub:∀t,t∈P++P.take 1->t∈P:=λt ht=>by
    rcases cY.mp ht with h | h
    ·exact h
    ·exact jS h
   exact⟨sub p (by rw[e];simp),sub p' (by rw[e];simp)⟩
  have s:=EG c hpos hneg (h.adj p p' hn) (h.pm r hr) (λe=>n1 (by rw[e])) λe=>n2 (by rw[e])
  have t:=TM (fit p mem.1) (fit p' mem.2) (fit r hr)
  have u:=aY (ZK (fit p mem.1) (fit p' mem.2) (fit r hr)) s
  rw[<-t] at u
  exact EQ hF u
theorem SG (c:Cvx cs) (hpos:∃w∈cs,0<cxc L w) {P:List H3} (h:CutOf L cs P):(P.filter λt=>decide (t.2.2≠1)).length<=2:=by
 obtain⟨p,q,hp,hq,_⟩:=h.line
 have:=len_sub (P.filter λt=>decide (t.2.2≠1)) [p,q] (h.nodup.filter _) λx hx=>by
  obtain⟨hx,hw⟩:=nD.mp hx
  simp only[decide_eq_true_eq] at hw
  have pm:=h.pm x hx
  have z:Exc L x=0:=by
   cases pm with
   | corner hu h=>exact absurd rfl hw
   | cross hc h=>exact EX h
  rcases SH c hpos pm z with k | k
  ·rw[WB c k hp];simp
  ·rw[RD c k hq];simp
 simpa using this
def jG:List H3->Int
 | []=>1
 | t::P=>t.2.2*jG P
theorem GV:∀(A B:List H3),jG (A++B)=jG A*jG B
 | [],B=>by simp[jG]
 | a::A,B=>by show a.2.2*jG (A++B)=a.2.2*jG A*jG B;rw[GV A B];grind
theorem yA:∀(P:List H3),jG P=jG (P.filter λt=>decide (t.2.2≠1))
 | []=>rfl
 | t::P=>by
  rw[mB]
  by_cases h:t.2.2=1
  ·rw[if_neg (by simp[h])]
   show t.2.2*jG P=_
   rw[h,JA];exact yA P
  ·rw[if_pos (by simp[h])]
   show t.2.2*jG P=t.2.2*_
   rw[yA P]
theorem RV:∀(P:List H3),∀t∈P,t.2.2∣jG P
 | [],t,h=>by simp at h
 | a::P,t,h=>by
  rcases aK.mp h with rfl | h
  ·exact FI ..
  ·exact lR (RV P t h) (Int.dvd_mul_left ..)
theorem RW:∀(P:List H3),(∀t∈P,0<t.2.2)->0<jG P
 | [],_=>by simp[jG]
 | a::P,h=>aY (h a (by simp)) (RW P λt ht=>h t (by simp[ht]))
end
def crs (x y:Pt):Int:=x.1*y.2-x.2*y.1
theorem Dt {α β:Type} (f:β->β->Int) (g:α->β):∀(a:α) (l:List α),pth f (g a) (l.map g)=pth (λx y=>f (g x) (g y)) a l
 | a,[]=>rfl
 | a,b::l=>by
  show f (g a) (g b)+pth f (g b) (l.map g)=f (g a) (g b)+_
  rw[Dt f g b l]
theorem VJ {α β:Type} (f:β->β->Int) (g:α->β) (l:List α):oT f (l.map g)=oT (λx y=>f (g x) (g y)) l:=by
 cases l with
 | nil=>rfl
 | cons z T =>
  show pth f (g z) (T.map g++[g z])=pth _ z (T++[z])
  rw[<-Dt f g z (T++[z])];simp
theorem Du {α:Type} (k:Int) (f:α->α->Int):∀(a:α) (l:List α),pth (λx y=>k*f x y) a l=k*pth f a l
 | a,[]=>by show (0:Int)=k*0;lia
 | a,b::l=>by
  show k*f a b+pth _ b l=k*(f a b+pth f b l)
  rw[Du k f b l,Int.mul_add]
theorem VL {α:Type} (k:Int) (f:α->α->Int) (l:List α):oT (λx y=>k*f x y) l=k*oT f l:=by
 cases l with
 | nil=>show (0:Int)=k*0;lia
 | cons z T=>exact Du k f z (T++[z])
theorem VN (k:Int) (l:List Pt):oT crs (l.map (scl k))=k*k*oT crs l:=by
 rw[VJ,<-VL]
 congr 1
 funext x y
 unfold crs scl;dsimp only;grind
theorem ZC {f:Pt->Pt->Int} {A B:List Pt} (h:Rot A B):oT f A=oT f B:=by
 obtain⟨X,Y,rfl,rfl⟩:=h;exact VM f X Y
section
variable {L:CLine} {cs:List Pt}
end
def LF:FD:=λds Q=>∃(x:D) (a b:D) (t:List D),ds=[x]/\(x = .tup (a::b::t)\/x = .lst (a::b::t))/\t.length<=1000/\Q (.lst (mR (λu v=>D.tup [u,v]) (a::b::t) (b::t++[a])))
theorem Fp:∀ds Q,LF ds Q->ds.length=1:=by rintro ds Q ⟨_,_,_,_,rfl,_⟩;rfl
theorem KN:∀ds Q,LF ds Q->DD { nx:=λ_=>Q .non,rt:=Q } (dW ["ones"] ds):=by
 rintro ds Q ⟨x,a,b,t,rfl,hx,hl,q⟩
 rw[cN 0 rfl]
 unfold DD
 have c1:cutD (a::b::t) (some 1) none=b::t:=QW (j:=1) (by simp)
 have c2:cutD (a::b::t) none (some 1)=[a]:=Cl (j:=1) (by simp)
 have s1:HT.sIx (a::b::t).length 0 (some 1)=1:=by rw[show (some (1:Int))=some ((1:Nat):Int) from rfl,HT.sIx_nat];simp
 have s2:HT.sIx (a::b::t).length (a::b::t).length (some 1)=1:=by rw[show (some (1:Int))=some ((1:Nat):Int) from rfl,HT.sIx_nat];simp
 rcases hx with rfl | rfl
 ·simp only[iQ,fV,Bg,aL,r2,UN,AM,qX,rC,CC,aT,bU,BT,eV,aJ,S.val]
  refine⟨λh=>by rw[s1] at h;exact absurd h.1 (by decide),λh=>by rw[s2] at h;have:=h.2;simp at this,?_⟩
  rw[c1,c2]
  refine⟨by simp,sM (by simp;lia),_,_,rfl,rfl,by simp,q⟩
 ·simp only[iQ,fV,Bg,aL,r2,UN,AM,qX,rC,CC,aT,bU,BT,eV,aJ,S.val]
  rw[c1,c2]
  refine⟨sM (by simp;lia),_,_,rfl,rfl,by simp,q⟩
abbrev cr (a b:Int × Int):Int:=a.1*b.2-a.2*b.1
def chain (a:Int × Int):List (Int × Int)->Int
 | []=>0
 | b::r=>cr a b+chain b r
def Cd (n:Nat) (zs:List (Int × Int)):Prop:=∀z∈zs,BL n z.1/\BL n z.2
namespace K12
end K12
structure Line where
 a:Int
 b:Int
 c:Int
abbrev ln (l:Line):D:=.tup [.int l.a,.int l.b,.int l.c]
def Line.BLn (n:Nat) (l:Line):Prop:=BL n l.a/\BL n l.b/\BL n l.c
abbrev exc (l:Line) (p:Int × Int) (s:Int):Int:=l.a*p.1+l.b*p.2-l.c*s
def vY:FD:=λds Q=>∃(l:Line) (p:Int × Int) (s:Int),ds=[ln l,pt p,.int s]/\(l.BLn 100000/\BL 100000 p.1/\BL 100000 p.2/\BL 100000 s)/\Q (.int (exc l p s))
theorem ZS:∀ds Q,vY ds Q->ds.length=3:=by rintro ds Q ⟨_,_,_,rfl,_⟩;rfl
theorem XS:∀ds Q,vY ds Q->RZ { nx:=λ_=>Q .non,rt:=Q } (dW ["line","point","share"] ds):=by
 rintro ds Q ⟨l,p,s,rfl,⟨⟨b1,b2,b3⟩,b4,b5,b6⟩,q⟩
 rw[cN 0 rfl]
 unfold RZ
 walk_at "rd"
 exact⟨b1.mulOk b4,b2.mulOk b5,b3.mulOk b6,q⟩
abbrev cyc (z:Int × Int) (t:List (Int × Int)):List ((Int × Int) × (Int × Int)):=sH (z::t) (t++[z])
theorem Ng {z:Int × Int} {t:List (Int × Int)} {w:(Int × Int) × (Int × Int)} (h:w∈cyc z t):w.1∈z::t/\w.2∈z::t:=by
 obtain⟨w1,w2⟩:=w
 have m:=sP h
 refine⟨m.1,?_⟩
 rcases cY.mp m.2 with h | h
 ·exact aW _ h
 ·rw[dU.mp h];exact cF
abbrev h3 (t:H3):D:=.tup [.int t.1,.int t.2.1,.int t.2.2]
abbrev JZ (l:Line) (sh:Int):CLine:=⟨l.a,l.b,l.c*sh⟩
theorem Ip (l:Line) (sh:Int) (z:Pt):cxc (JZ l sh) z=exc l z sh:=rfl
theorem SV {n:Nat} {i:Int} (h:BL n i):BL n (i.natAbs:Int):=by unfold BL at *;simpa using h
def KY:FD:=λds Q=>∃(L:CLine) (u v:Pt),ds=[pt u,.int (cxc L u),pt v,.int (cxc L v)]/\(BL 2000 u.1/\BL 2000 u.2/\BL 2000 v.1/\BL 2000 v.2)/\(BL 2000 (cxc L u)/\BL 2000 (cxc L v))/\Q (h3 (lP L u v))
theorem Fh:∀ds Q,KY ds Q->ds.length=4:=by rintro ds Q ⟨_,_,_,rfl,_⟩;rfl
theorem Qq (L:CLine) (u v:Pt):h3 (lP L u v) = .tup [.int (u.1*((cxc L v).natAbs:Int)+v.1*((cxc L u).natAbs:Int)),.int (u.2*((cxc L v).natAbs:Int)+v.2*((cxc L u).natAbs:Int)),.int (((cxc L u).natAbs:Int)+((cxc L v).natAbs:Int))]:=by
 have e1:(lP L u v).1=u.1*((cxc L v).natAbs:Int)+v.1*((cxc L u).natAbs:Int):=by unfold lP xO up3;dsimp only;rw[kK,kK v.1]
 have e2:(lP L u v).2.1=u.2*((cxc L v).natAbs:Int)+v.2*((cxc L u).natAbs:Int):=by unfold lP xO up3;dsimp only;rw[kK,kK v.2]
 have e3:(lP L u v).2.2=((cxc L u).natAbs:Int)+((cxc L v).natAbs:Int):=by unfold lP xO up3;dsimp only;lia
 show D.tup [.int (lP L u v).1,.int (lP L u v).2.1,.int (lP L u v).2.2]=_
 rw[e1,e2,e3]
theorem PZ:∀ds Q,KY ds Q->JO { nx:=λ_=>Q .non,rt:=Q } (dW ["one","one_excess","other","other_excess","near","far"] ds):=by
 rintro ds Q ⟨L,u,v,rfl,⟨b1,b2,b3,b4⟩,⟨c1,c2⟩,q⟩
 rw[cN 2 rfl]
 rw[Qq] at q
 have a1:=SV c1
 have a2:=SV c2
 unfold JO
 walk_at "rd"
 have ab:∀i:Int,(if i<0 then -i else i)=(i.natAbs:Int):=λi=>by split <;> lia
 simp only[ab]
 exact⟨b1.mulOk a2,b3.mulOk a1,b2.mulOk a2,b4.mulOk a1,q⟩
theorem Qs {α β:Type} (f:α->D) (g:β->D) (xs:List α):∀(ys:List β),mR (λu v=>D.tup [u,v]) (xs.map f) (ys.map g)=(sH xs ys).map λw=>D.tup [f w.1,g w.2]:=by
 induction xs with
 | nil=>intro ys;simp
 | cons x xs ih =>
  intro ys
  cases ys with
  | nil=>simp
  | cons y ys=>simp[ih]
def IB (L:CLine) (ws:List (Pt × Pt)):List H3:=ws.flatMap λw=>blk L w.1 w.2
theorem Ca (L:CLine):∀(r:List Pt) (a z:Pt),Pl L (a::(r++[z]))=IB L (sH (a::r) (r++[z]))
 | [],a,z=>by simp[Pl,IB]
 | b::r,a,z=>by
  have ih:=Ca L r b z
  show blk L a b++Pl L (b::(r++[z]))=blk L a b++IB L (sH (b::r) (r++[z]))
  rw[ih]
abbrev enc (L:CLine) (z:Pt):D:=.tup [pt z,.int (cxc L z)]
def FF:FD:=λds Q=>∃(L:CLine) (z u:Pt) (r:List Pt),ds=[.tup ((z::u::r).map pt),il ((z::u::r).map (cxc L))]/\(∀w∈z::u::r,BL 2000 w.1/\BL 2000 w.2/\BL 2000 (cxc L w))/\r.length<=900/\Q (.lst ((Pl L ((z::u::r)++(z::u::r).take 1)).map h3))
theorem ZY:∀ds Q,FF ds Q->ds.length=2:=by rintro ds Q ⟨_,_,_,_,rfl,_⟩;rfl
theorem My (L:CLine) (u v:Pt):(blk L u v).length<=2:=by
 unfold blk
 split <;> split <;> simp
theorem VC (L:CLine):∀ws,(IB L ws).length<=2*ws.length
 | []=>by simp[IB]
 | w::ws=>by
  have:=VC L ws
  have:=My L w.1 w.2
  unfold IB at *
  rw[List.flatMap_cons,dI,bZ];lia
theorem Ei (L:CLine) (ws:List (Pt × Pt)) (w:Pt × Pt):IB L (ws++[w])=IB L ws++blk L w.1 w.2:=by unfold IB;simp
theorem ER:∀ds Q,FF ds Q->wW KY LF { nx:=λ_=>Q .non,rt:=Q } (dW ["corners","excesses","points","one","other"] ds):=by
 rintro ds Q ⟨L,z,u,r,rfl,hB,hl,q⟩
 rw[cN 3 rfl]
 unfold wW
 have eP:Pl L ((z::u::r)++(z::u::r).take 1)=IB L (cyc z (u::r)):=Ca L (u::r) z z
 rw[eP] at q
 have lc:(cyc z (u::r)).length=r.length+2:=by simp
 simp only[iQ,Ly,bG,cC]
 generalize hA:D.tup ((z::u::r).map pt)=A
 generalize hX:il ((z::u::r).map (cxc L))=X
 simp only[aT,bU,bG,cC]
 refine cR (λρ=>ρ=[sdV A,sdV X,some (.own []),none,none]) (λK hK=>?_) ?_
 ·walk_at "rd"
  exact hK _ rfl
 rintro ρ rfl
 refine cR (λρ=>∃a b:Option S,ρ=[sdV A,sdV X,some (.own ((IB L (cyc z (u::r))).map h3)),a,b]) (λK hK=>?_) ?_
 ·rw[<-hA,<-hX] at hK ⊢
  simp only[oW,riL,cV,aC,aV,Bg,aL,aJ,aR,S.val]
  refine⟨_,_,rfl,rfl,by simp,?_⟩
  have e1:mR (λa b=>D.tup [a,b]) ((z::u::r).map pt) (((z::u::r).map (cxc L)).map D.int)=(z::u::r).map (enc L):=by
   rw[dD,List.zipWith_map,List.zipWith_self];rfl
  rw[e1]
  refine⟨_,enc L z,enc L u,r.map (enc L),rfl,cX rfl,by simp;lia,?_⟩
  have e2:mR (λa b=>D.tup [a,b]) (enc L z::enc L u::r.map (enc L)) (enc L u::r.map (enc L)++[enc L z])=(cyc z (u::r)).map λw=>D.tup [enc L w.1,enc L w.2]:=by
   rw[<-Qs (enc L) (enc L)];simp
  rw[e2]
  refine lD (λxs ρ=>∃(done rest:List (Pt × Pt)) (a b:Option S),cyc z (u::r)=done++rest/\xs=rest.map (λw=>D.tup [enc L w.1,enc L w.2])/\ρ=[sdV (.tup ((z::u::r).map pt)),sdV (il ((z::u::r).map (cxc L))),some (.own ((IB L done).map h3)),a,b]) ?_ ?_ _ _ ⟨[],cyc z (u::r),none,none,rfl,rfl,rfl⟩
  ·rintro x xs ρ ⟨done,rest,a,b,e,ex,rfl⟩ F _ _ hn _
   cases rest with
   | nil=>cases ex
   | cons w rest =>
    cases ex
    have mw:=Ng (z:=z) (t:=u::r) (w:=w) (by rw[e];simp)
    obtain⟨p1,p2,p3⟩:=hB _ mw.1
    obtain⟨q1,q2,q3⟩:=hB _ mw.2
    have ld:done.length<r.length+2:=by rw[<-lc,e];simp
    have lb:=VC L done
    generalize hA':D.tup ((z::u::r).map pt)=A' at *
    generalize hX':il ((z::u::r).map (cxc L))=X' at *
    have fin:∀ρ,ρ=[sdV A',sdV X',some (.own ((IB L (done++[w])).map h3)),sdV (enc L w.1),sdV (enc L w.2)]->F.nx ρ:=λρ h=>hn _ ⟨done++[w],rest,sdV (enc L w.1),sdV (enc L w.2),by simpa using e,rfl,h⟩
    rw[Ei] at fin
    unfold blk at fin
    unfold tG
    walk_at "rd"
    by_cases h1:cxc L w.1<=0
    ·rw[if_pos h1] at fin ⊢
     refine⟨sM (by simp;lia),p3.mulOk q3,?_⟩
     by_cases h2:cxc L w.1*cxc L w.2<0
     ·rw[if_pos h2] at fin ⊢
      refine⟨L,w.1,w.2,rfl,⟨p1,p2,q1,q2⟩,⟨p3,q3⟩,sM (by simp;lia),fin _ (by simp)⟩
     ·rw[if_neg h2] at fin ⊢
      exact fin _ (by simp)
    ·rw[if_neg h1] at fin ⊢
     refine⟨p3.mulOk q3,?_⟩
     by_cases h2:cxc L w.1*cxc L w.2<0
     ·rw[if_pos h2] at fin ⊢
      refine⟨L,w.1,w.2,rfl,⟨p1,p2,q1,q2⟩,⟨p3,q3⟩,sM (by simp;lia),fin _ (by simp)⟩
     ·rw[if_neg h2] at fin ⊢
      exact fin _ (by simp)
  ·rintro ρ ⟨done,rest,a,b,e,ex,rfl⟩
   have:rest=[]:=by simpa using ex.symm
   subst this
   rw[eV] at e
   rw[e] at hK
   exact hK _ ⟨a,b,rfl⟩
 rintro ρ ⟨a,b,rfl⟩
 walk_at "rd"
 exact q
abbrev pc (sh:Int) (zs:List Pt):D:=.tup [.int sh,.tup (zs.map pt)]
abbrev OJ (L:CLine) (cs:List Pt):List H3:=Pl L (cs++cs.take 1)
structure PartOf (L:CLine) (sh:Int) (cs:List Pt) (sh':Int) (zs:List Pt):Prop where
 ex:∃(F m:Int) (z:Pt) (T:List Pt),0<F/\(∀t∈OJ L cs,Fits F t)/\Rot ((OJ L cs).map (gF F)) (z::T)/\(∀q∈T,¬ltP q z)/\Cvx (z::T)/\NormOf (sh*F) (z::T) m sh' zs/\(BL 4003 F/\zs.length<=cs.length+2)
inductive PartR (L:CLine) (sh:Int) (cs:List Pt):D->Prop
 | whole (h:∀z∈cs,cxc L z<=0):PartR L sh cs (pc sh cs)
 | nothing (h:∀z∈cs,0<=cxc L z) (n:¬ ∀z∈cs,cxc L z<=0):PartR L sh cs .non
 | part (hp:∃z∈cs,0<cxc L z) (hn:∃z∈cs,cxc L z<0) {sh':Int} {zs:List Pt} (h:PartOf L sh cs sh' zs):PartR L sh cs (pc sh' zs)
def SN:FD:=λds Q=>∃(l:Line) (sh:Int) (cs:List Pt),ds=[pc sh cs,ln l]/\(0<sh/\BL 2000 sh/\l.BLn 10000)/\(∀w∈cs,BL 2000 w.1/\BL 2000 w.2/\BL 2000 (exc l w sh))/\(Cvx cs/\cs.length<60)/\∀d,PartR (JZ l sh) sh cs d->Q d
theorem Ki:∀ds Q,SN ds Q->ds.length=2:=by rintro ds Q ⟨_,_,_,rfl,_⟩;rfl
theorem MH {n:Nat}:∀(P:List H3),(∀t∈P,BL n t.2.2)->BL (n*P.length+1) (jG P)
 | [],_=>BL.mono (m:=1) (BL.const (by decide)) (by lia)
 | t::P,h=>by
  have a:=(h t (by simp)).mul (MH P λx hx=>h x (by simp[hx]))
  exact a.mono (by rw[bZ,Nat.mul_add,Nat.mul_one];lia)
theorem Wk {L:CLine} {cs:List Pt} (hB:∀w∈cs,BL 2000 w.1/\BL 2000 w.2/\BL 2000 (cxc L w)) {t:H3} (h:Pm L cs t):BL 4001 t.1/\BL 4001 t.2.1/\BL 2001 t.2.2:=by
 cases h with
 | @corner u hu h =>
  obtain⟨a,b,_⟩:=hB u hu
  exact⟨a.mono (by decide),b.mono (by decide),(BL.const (n:=1) (i:=1) (by decide)).mono (by decide)⟩
 | @cross u v hc h =>
  obtain⟨a,b,c⟩:=hB u hc.mem.1
  obtain⟨a',b',c'⟩:=hB v hc.mem.2
  have c:=SV c
  have c':=SV c'
  refine⟨((c'.mul a).add (c.mul a')).mono (by decide),((c'.mul b).add (c.mul b')).mono (by decide),?_⟩
  have e:(lP L u v).2.2=((cxc L u).natAbs:Int)+((cxc L v).natAbs:Int):=by unfold lP xO up3;dsimp only;lia
  rw[e]
  exact (c.add c').mono (by decide)
theorem MS {α:Type} (p:α->Bool):∀l:List α,l.length=(l.filter p).length+(l.filter λx=>!p x).length
 | []=>rfl
 | x::l=>by
  have:=MS p l
  rw[mB,mB]
  cases h:p x <;> simp <;> lia
theorem Hf {L:CLine} {cs:List Pt} (c:Cvx cs) (hp:∃z∈cs,0<cxc L z) {P:List H3} (h:CutOf L cs P):P.length<=cs.length+2:=by
 have h2:=SG c hp h
 have h1:=len_sub (P.filter λt=>!decide (t.2.2≠1)) (cs.map up3) (h.nodup.filter _) λx hx=>by
  obtain⟨hx,hw⟩:=nD.mp hx
  simp only[ne_eq,decide_not,Bool.not_not,decide_eq_true_eq] at hw
  have pm:=h.pm x hx
  cases pm with
  | @corner u hu h=>exact eI hu
  | cross hc h=>have:=EV h;lia
 have e:=MS (λt:H3=>decide (t.2.2≠1)) P
 rw[cI] at h1
 lia
theorem IT:∀ds Q,SN ds Q->AU vY FF oM { nx:=λ_=>Q .non,rt:=Q } (dW ["piece","line","share","excesses","points","factor","point","grown"] ds):=by
 rintro ds Q ⟨l,sh,cs,rfl,⟨h0,b0,bl⟩,hB,⟨cv,hl⟩,q⟩
 rw[cN 6 rfl]
 unfold AU
 obtain⟨z0,u0,r0,ecs⟩:∃z u r,cs=z::u::r:=by
  have:=cv.len
  match cs,this with
  | z::u::r,_=>exact⟨z,u,r,rfl⟩
 have cne:cs.map (λz=>exc l z sh)≠[]:=by rw[ecs];simp
 simp only[iQ,Ue,bG,cC]
 generalize hP:pc sh cs=PD
 generalize hL:ln l=LD
 simp only[aT,bU,bG,cC]
 refine cR (λρ=>ρ=[sdV PD,sdV LD,sdV (.int sh),none,none,none,none,none]) (λK hK=>?_) ?_
 ·rw[<-hP] at hK ⊢
  walk_at "rd"
  exact hK _ rfl
 rintro ρ rfl
 refine cR (λρ=>ρ=[sdV PD,sdV LD,sdV (.int sh),some (.own ((cs.map λz=>exc l z sh).map D.int)),none,none,none,none]) (λK hK=>?_) ?_
 ·rw[<-hP,<-hL] at hK ⊢
  simp only[sZ,yL,riT,r2,aL,rC,oD,EI,VD,aJ,aR,aT,bU,Bj,bG,cC,S.val]
  refine⟨sM (by simp;lia),?_⟩
  refine zV (λρ=>∃a,ρ=[a,sdV (ln l),sdV (.int sh)]) pt (λz=>D.int (exc l z sh)) cs ?_ ⟨none,rfl⟩ ?_
  ·rintro z hz ρ ⟨a,rfl⟩ K' hK'
   obtain⟨z1,z2,_⟩:=hB z hz
   walk_at "rd"
   exact⟨l,z,sh,rfl,⟨⟨bl.1.mono (by decide),bl.2.1.mono (by decide),bl.2.2.mono (by decide)⟩,z1.mono (by decide),z2.mono (by decide),b0.mono (by decide)⟩,hK' _ ⟨sdV (pt z),rfl⟩⟩
  ·refine hK _ ?_
   rw[dD];rfl
 rintro ρ rfl
 by_cases hw:∀z∈cs,exc l z sh<=0
 ·have fin:=q _ (PartR.whole hw)
  refine cR (λρ=>False) (λK hK=>?_) (λρ h=>h.elim)
  walk_at "rd"
  refine⟨_,rfl,cne,λM m1 m2=>?_⟩
  obtain⟨z,hz,rfl⟩:=cB.mp m1
  dsimp only
  rw[if_pos (hw z hz),<-hP]
  exact fin
 refine cR (λρ=>ρ=[sdV PD,sdV LD,sdV (.int sh),some (.own ((cs.map λz=>exc l z sh).map D.int)),none,none,none,none]) (λK hK=>?_) ?_
 ·walk_at "rd"
  refine⟨_,rfl,cne,λM m1 m2=>?_⟩
  dsimp only
  rw[if_neg (λh=>hw λz hz=>xC (m2 _ (eI hz)) h)]
  exact hK _ rfl
 rintro ρ rfl
 by_cases hg:∀z∈cs,0<=exc l z sh
 ·have fin:=q _ (PartR.nothing hg hw)
  refine cR (λρ=>False) (λK hK=>?_) (λρ h=>h.elim)
  walk_at "rd"
  refine⟨_,rfl,cne,λM m1 m2=>?_⟩
  obtain⟨z,hz,rfl⟩:=cB.mp m1
  dsimp only
  rw[if_pos (hg z hz)]
  exact fin
 refine cR (λρ=>ρ=[sdV PD,sdV LD,sdV (.int sh),some (.own ((cs.map λz=>exc l z sh).map D.int)),none,none,none,none]) (λK hK=>?_) ?_
 ·walk_at "rd"
  refine⟨_,rfl,cne,λM m1 m2=>?_⟩
  dsimp only
  rw[if_neg (λh=>hg λz hz=>xC h (m2 _ (eI hz)))]
  exact hK _ rfl
 rintro ρ rfl
 have hp:∃z∈cs,0<cxc (JZ l sh) z:=dJ λk=>hw λz hz=>lT.mp λh=>k ⟨z,hz,h⟩
 have hn:∃z∈cs,cxc (JZ l sh) z<0:=dJ λk=>hg λz hz=>lT.mp λh=>k ⟨z,hz,h⟩
 obtain⟨P',rot,cut,_⟩:=Io cv hp hn
 have rot':Rot (OJ (JZ l sh) cs) P':=rot
 have lP':=Hf cv hp cut
 generalize hSp:OJ (JZ l sh) cs=SP at *
 have lSP:SP.length=P'.length:=by obtain⟨X,Y,e1,e2⟩:=rot';rw[e1,e2];simp;lia
 have pmS:∀t∈SP,Pm (JZ l sh) cs t:=λt ht=>cut.pm t ((rot'.mem t).mp ht)
 have pmB:∀t∈SP,BL 4001 t.1/\BL 4001 t.2.1/\BL 2001 t.2.2:=λt ht=>Wk (L:=JZ l sh) (λw hw=>hB w hw) (pmS t ht)
 have Fpos:0<jG SP:=RW SP λt ht=>(pmS t ht).w_pos
 have fitS:∀t∈SP,Fits (jG SP) t:=λt ht=>Fits.of Fpos (pmS t ht).w_pos (RV SP t ht)
 have Fbl:BL 4003 (jG SP):=by
  rw[yA]
  have l2:(SP.filter λt=>decide (t.2.2≠1)).length<=2:=by
   have:=SG cv hp cut
   obtain⟨X,Y,e1,e2⟩:=rot'
   rw[e2] at this
   rw[e1]
   rw[uD,dI] at this ⊢
   lia
  refine (MH _ λt ht=>(pmB t (nD.mp ht).1).2.2).mono ?_
  lia
 refine cR (λρ=>ρ=[sdV PD,sdV LD,sdV (.int sh),sdV (il (cs.map λz=>exc l z sh)),sdV (.lst (SP.map h3)),none,none,none]) (λK hK=>?_) ?_
 ·rw[<-hP] at hK ⊢
  walk_at "rd"
  subst ecs
  refine⟨JZ l sh,z0,u0,r0,rfl,hB,by simp at hl;lia,?_⟩
  show K _
  rw[show Pl (JZ l sh) ((z0::u0::r0)++(z0::u0::r0).take 1)=SP from hSp]
  exact hK _ rfl
 rintro ρ rfl
 refine cR (λρ=>ρ=[sdV PD,sdV LD,sdV (.int sh),sdV (il (cs.map λz=>exc l z sh)),sdV (.lst (SP.map h3)),sdV (.int 1),none,none]) (λK hK=>?_) ?_
 ·walk_at "rd"
  exact hK _ rfl
 rintro ρ rfl
 refine cR (λρ=>∃a:Option S,ρ=[sdV PD,sdV LD,sdV (.int sh),sdV (il (cs.map λz=>exc l z sh)),sdV (.lst (SP.map h3)),sdV (.int (jG SP)),a,none]) (λK hK=>?_) ?_
 ·walk_at "rd"
  refine lD (λxs ρ=>∃(done rest:List H3) (a:Option S),SP=done++rest/\xs=rest.map h3/\ρ=[sdV PD,sdV LD,sdV (.int sh),sdV (il (cs.map λz=>exc l z sh)),sdV (.lst (SP.map h3)),sdV (.int (jG done)),a,none]) ?_ ?_ _ _ ⟨[],SP,none,rfl,rfl,rfl⟩
  ·rintro x xs ρ ⟨done,rest,a,e,ex,rfl⟩ E _ _ hnx _
   cases rest with
   | nil=>cases ex
   | cons t rest =>
    cases ex
    have bt:=(pmB t (by rw[e];simp)).2.2
    have bd:=MH done λx hx=>(pmB x (by rw[e];simp[hx])).2.2
    have ld:done.length<=64:=by have:=congrArg fJ e;simp at this;lia
    have e2:jG (done++[t])=jG done*t.2.2:=by rw[GV];show _*(t.2.2*1)=_;rw[pZ]
    unfold vG
    walk_at "rd"
    refine⟨bd.mulOk bt (by lia),hnx _ ⟨done++[t],rest,sdV (h3 t),by simpa using e,rfl,by rw[e2]⟩⟩
  ·rintro ρ ⟨done,rest,a,e,ex,rfl⟩
   have:rest=[]:=by simpa using ex.symm
   subst this
   rw[eV] at e
   subst e
   exact hK _ ⟨a,rfl⟩
 rintro ρ ⟨a,rfl⟩
 refine cR (λρ=>ρ=[sdV PD,sdV LD,sdV (.int sh),sdV (il (cs.map λz=>exc l z sh)),sdV (.lst (SP.map h3)),sdV (.int (jG SP)),a,some (.own ((SP.map (gF (jG SP))).map pt))]) (λK hK=>?_) ?_
 ·simp only[sZ,yL,riL,cG,EI,VD,aJ,aR,aT,bU,Ly,bG,cC,S.val]
  refine⟨sM (by simp;lia),?_⟩
  refine zV (λρ=>∃a b c,ρ=[a,b,c,sdV (.int (jG SP))]) h3 (λt=>pt (gF (jG SP) t)) SP ?_ ⟨none,none,none,rfl⟩ ?_
  ·rintro t ht ρ ⟨a,b,c,rfl⟩ K' hK'
   obtain⟨t1,t2,t3⟩:=pmB t ht
   have tw:=(pmS t ht).w_pos
   have bq:BL 4003 ((jG SP).fdiv t.2.2):=Fbl.fdiv
   walk_at "rd"
   refine⟨(t3.mono (by decide)).divOk (by lia),t1.mulOk bq,(t3.mono (by decide)).divOk (by lia),t2.mulOk bq,?_⟩
   rw[cS _ (by lia)]
   exact hK' _ ⟨sdV (.int t.1),sdV (.int t.2.1),sdV (.int t.2.2),rfl⟩
  ·refine hK _ ?_
   rw[dD];rfl
 rintro ρ rfl
 walk_at "rd"
 refine⟨b0.mulOk Fbl,?_⟩
 have fitP:∀t∈P',Fits (jG SP) t:=λt ht=>fitS t ((rot'.mem t).mpr ht)
 have cvP:=Sj cv hp hn cut Fpos fitP
 have cvS:Cvx (SP.map (gF (jG SP))):=Cvx.rot ((rot'.map (gF (jG SP))).symm) cvP
 obtain⟨z,T,rt,least⟩:=AC (SP.map (gF (jG SP))) (by intro e;have:=cvS.len;rw[e] at this;simp at this)
 have cz:=Cvx.rot rt cvS
 refine⟨sh*jG SP,SP.map (gF (jG SP)),rfl,⟨aY h0 Fpos,(b0.mul Fbl).mono (by decide)⟩,λw hw=>?_,by simp;lia,cZ ⟨z,T,⟨cz,least,λa ha=>(rt.mem a).mpr ha,λa b hab c hc=>cz.side hab ((rt.mem c).mp hc)⟩,λm sh' zs N=>q _ (PartR.part hp hn ⟨jG SP,m,z,T,Fpos,?_,?_,least,cz,N,Fbl,?_⟩)⟩⟩
 ·obtain⟨t,ht,rfl⟩:=cB.mp hw
  obtain⟨t1,t2,t3⟩:=pmB t ht
  have bq:BL 4003 (jG SP / t.2.2):=by
   have:BL 4003 ((jG SP).fdiv t.2.2):=Fbl.fdiv
   rwa [cS _ (by have:=(pmS t ht).w_pos;lia)] at this
  exact⟨(t1.mul bq).mono (by decide),(t2.mul bq).mono (by decide)⟩
 ·rw[hSp];exact fitS
 ·rw[hSp];exact rt
 ·have e1:=congrArg fJ N.cs_eq
  have e2:(z::T).length=SP.length:=by obtain⟨X,Y,a1,a2⟩:=rt;have:=congrArg fJ a1;rw[a2];simp at this ⊢;lia
  rw[e2,cI] at e1
  lia
def rg (cs:List Pt) (i:Nat):Pt:=cs.getD (i % cs.length) (0,0)
section
variable {cs:List Pt}
theorem IU (h:0<cs.length) (i:Nat):cs[i % cs.length]? = some (rg cs i):=by
 unfold rg
 rw[dL,aF (jI _ h)];rfl
theorem yC (h:0<cs.length) (i:Nat):rg cs i∈cs:=eY (IU h i)
theorem DJ {i:Nat} (h:i<cs.length):cs[i]? = some (rg cs i):=by
 have:=IU (cs:=cs) (by lia) i
 rwa [gP h] at this
theorem Aj {l:List Pt} {i:Nat} {a b:Pt} (h1:l[i]? = some a) (h2:l[i+1]? = some b):Nxt l a b:=by
 obtain⟨l1,e1⟩:=aX.mp h1
 obtain⟨l2,e2⟩:=aX.mp h2
 refine⟨l.take i,l.drop (i+2),?_⟩
 conv=>lhs;rw[<-gB i l]
 rw[gM l1,gM l2,e1,e2]
theorem ZM {l:List Pt} {a b:Pt} (h:Nxt l a b):∃i,l[i]? = some a/\l[i+1]? = some b:=by
 obtain⟨x,y,e⟩:=h
 refine⟨x.length,?_,?_⟩
 ·rw[e,cW (by lia)];simp
 ·rw[e,cW (by lia)];simp
theorem ZD (h:0<cs.length) (i:Nat):Cyc cs (rg cs i) (rg cs (i+1)):=by
 have hj:=jI i h
 refine Aj (i:=i % cs.length) ?_ ?_
 ·rw[cO hj];exact IU h i
 ·have g:=IU h (i+1)
  by_cases hl:i % cs.length+1<cs.length
  ·rw[cO hl,<-g]
   congr 1
   rw[JB]
   by_cases h1:cs.length=1
   ·lia
   ·rw[show 1 % cs.length=1 from gP (by lia),gP hl]
  ·rw[cW (by lia),show i % cs.length+1-cs.length=0 by lia,DX,if_pos (by lia),<-g]
   congr 1
   rw[JB]
   by_cases h1:cs.length=1
   ·rw[h1];lia
   ·rw[show 1 % cs.length=1 from gP (by lia),show i % cs.length+1=cs.length by lia,Nat.mod_self]
theorem ET (i:Nat):rg cs (i+cs.length)=rg cs i:=by unfold rg;rw[FQ]
theorem Nf {a b:Pt} (h:Cyc cs a b):∃k,k<cs.length/\a=rg cs (k+(cs.length-1))/\b=rg cs k:=by
 obtain⟨i,h1,h2⟩:=ZM h
 have l2:i+1<(cs++cs.take 1).length:=(aX.mp h2).1
 rw[dI,gE] at l2
 have hi:i<cs.length:=by lia
 have hpos:0<cs.length:=by lia
 rw[cO hi,DJ hi] at h1
 have h1:rg cs i=a:=dN h1
 by_cases hl:i+1<cs.length
 ·rw[cO hl,DJ hl] at h2
  refine⟨i+1,hl,?_,(dN h2).symm⟩
  rw[show i+1+(cs.length-1)=i+cs.length by lia,ET,h1]
 ·rw[cW (by lia),show i+1-cs.length=0 by lia,DX,if_pos (by lia),DJ hpos] at h2
  refine⟨0,hpos,?_,(dN h2).symm⟩
  rw[show 0+(cs.length-1)=i by lia,h1]
theorem VO (h:0<cs.length) (k:Nat):Cyc cs (rg cs (k+(cs.length-1))) (rg cs k):=by
 have:=ZD h (k+(cs.length-1))
 rwa [show k+(cs.length-1)+1=k+cs.length by lia,ET] at this
theorem UO (n:cs.Nodup) (h:0<cs.length) {i j:Nat} (e:rg cs i=rg cs j):i % cs.length=j % cs.length:=by
 refine (List.getElem?_inj (jI i h) n).mp ?_
 rw[IU h i,IU h j,e]
theorem Ag {n i d:Nat} (h:0<d) (hd:d<n):(i+d) % n≠i % n:=by
 have h0:=jI i (show 0<n by lia)
 rw[JB,gP hd]
 rcases Nat.lt_or_ge (i % n+d) n with h' | h'
 ·rw[gP h'];lia
 ·rw[Nat.mod_eq_sub_mod h',gP (by lia)];lia
theorem Cvx.bend_rg (c:Cvx cs) (i:Nat):0<cQ (rg cs i) (rg cs (i+1)) (rg cs (i+2)):=by
 have h3:=c.len
 refine c.strict _ _ (ZD (by lia) i) _ (yC (by lia) _) (λe=>?_) λe=>?_
 ·exact Ag (i:=i) (d:=2) (by lia) (by lia) (UO c.nodup (by lia) e)
 ·exact Ag (i:=i+1) (d:=1) (by lia) (by lia) (UO c.nodup (by lia) e)
theorem Eg:∀(l:List Pt),∃M:Int,0<M/\∀p∈l,-M<p.2/\p.2<M
 | []=>⟨1,by decide,by simp⟩
 | p::l=>by
  obtain⟨M,h,hM⟩:=Eg l
  refine⟨M+p.2.natAbs+1,by lia,λq hq=>?_⟩
  rcases aK.mp hq with rfl | hq
  ·lia
  ·have:=hM q hq;lia
theorem WW (c:Cvx cs) {t u v:Pt} (h1:Cyc cs t u) (h2:Cyc cs u v) (nt:t≠v) (e1:ltP u t) (e2:ltP u v):∀w∈cs,¬ltP w u:=by
 obtain⟨M,hM,hb⟩:=Eg cs
 have mono:∀p∈cs,∀q∈cs,ltP p q->cxc ⟨2*M,1,0⟩ p<cxc ⟨2*M,1,0⟩ q:=by
  intro p hp q hq hl
  have b1:=hb p hp
  have b2:=hb q hq
  unfold cxc
  dsimp only
  rcases hl with h | ⟨h,h'⟩
  ·have:2*M*(q.1-p.1-1) ≥ 0:=fH (by lia) (by lia)
   have e:2*M*(q.1-p.1-1)=2*M*q.1-2*M*p.1-2*M:=by grind
   lia
  ·rw[h];lia
 have mu:=(Cyc.mem h1).2
 have mt:=(Cyc.mem h1).1
 have mv:=(Cyc.mem h2).2
 have lb:=RK (L:=⟨2*M,1,0⟩) c h1 h2 nt (dC (mono u mu t mt e1)) (dC (mono u mu v mv e2))
 intro w hw hl
 have:=mono w hw u mu hl
 have:=lb w hw
 lia
theorem Ev {z:Pt} {T:List Pt} (c:Cvx (z::T)) (least:∀q∈T,¬ltP q z) {k:Nat} (hk:k<(z::T).length):(ltP (rg (z::T) (k+((z::T).length-1))) (rg (z::T) (k+((z::T).length-2)))/\ltP (rg (z::T) (k+((z::T).length-1))) (rg (z::T) k))↔k=1:=by
 have h3:=c.len
 have z0:rg (z::T) 0=z:=by have:=DJ (cs:=z::T) (i:=0) (by lia);simp at this;exact this.symm
 have lt_of:∀i,i % (z::T).length≠0->ltP z (rg (z::T) i):=by
  intro i hi
  have m:=yC (cs:=z::T) (by lia) i
  have ne:rg (z::T) i≠z:=λe=>hi (by
   have:=UO c.nodup (by lia) (i:=i) (j:=0) (by rw[e,z0])
   rwa [Nat.zero_mod] at this)
  rcases qU z (rg (z::T) i) with h | h | h
  ·exact h
  ·exact absurd h.symm ne
  ·rcases aK.mp m with e | m
   ·exact absurd e ne
   ·exact absurd h (least _ m)
 generalize hn:(z::T).length=n at *
 constructor
 ·rintro⟨a,b⟩
  have c1:Cyc (z::T) (rg (z::T) (k+(n-2))) (rg (z::T) (k+(n-1))):=by
   have:=ZD (cs:=z::T) (by lia) (k+(n-2))
   rwa [show k+(n-2)+1=k+(n-1) by lia] at this
  have c2:Cyc (z::T) (rg (z::T) (k+(n-1))) (rg (z::T) k):=by
   have:=VO (cs:=z::T) (by lia) k
   rwa [hn] at this
  have nt:rg (z::T) (k+(n-2))≠rg (z::T) k:=λe=>by
   have:=UO c.nodup (by lia) e
   rw[hn] at this
   exact Ag (by lia) (by lia) this
  have ll:=WW c c1 c2 nt a b z (by simp)
  apply dJ
  intro hk1
  refine ll (lt_of _ ?_)
  intro e
  by_cases h0:k=0
  ·subst h0
   rw[gP (by lia)] at e;lia
  ·rw[show k+(n-1)=(k-1)+n by lia,FQ,gP (by lia)] at e;lia
 ·rintro rfl
  have e1:rg (z::T) (1+(n-1))=z:=by rw[show 1+(n-1)=0+(z::T).length by lia,ET,z0]
  rw[e1]
  exact⟨lt_of _ (by rw[gP (by lia)];lia),lt_of _ (by rw[gP (by lia)];lia)⟩
end
section
variable {L:CLine} {cs zs:List Pt} {sh sh':Int}
theorem Cm {A B:List Pt} (h:Rot A B) {a b:Pt} (k:Cyc B a b):Cyc A a b:=by
 obtain⟨X,Y,rfl,rfl⟩:=h;exact GE k
theorem LI {f:Pt->Pt} {l:List Pt} {a b:Pt} (h:Cyc l a b):Cyc (l.map f) (f a) (f b):=by
 obtain⟨x,y,e⟩:=h
 refine⟨x.map f,y.map f,?_⟩
 rw[<-jN,<-cU,e];simp
end
abbrev lo (x:Int):Pt:=(x,x*x)
abbrev hi (top x:Int):Pt:=(x,top-x*x)
section
variable {top:Int}
end
theorem UY (p q r s ox oy:Int) (a b c:Pt):cQ (aff p q r s ox oy a) (aff p q r s ox oy b) (aff p q r s ox oy c)=(p*s-q*r)*cQ a b c:=by
 unfold cQ aff;dsimp only;grind
theorem Ce {p q r s ox oy:Int} (hd:0<p*s-q*r) (a b:Pt) (h:aff p q r s ox oy a=aff p q r s ox oy b):a=b:=by
 unfold aff at h
 simp only[eK] at h
 obtain⟨h1,h2⟩:=h
 have e1:(p*s-q*r)*(a.1-b.1)=0:=by grind
 have e2:(p*s-q*r)*(a.2-b.2)=0:=by grind
 have k1:=(sO.mp e1).resolve_left (by lia)
 have k2:=(sO.mp e2).resolve_left (by lia)
 exact lJ (by lia) (by lia)
theorem GP (z w:Pt):HT.lexLt [z.1,z.2] [w.1,w.2]=decide (ltP z w):=by
 unfold ltP
 simp only[HT.lexLt]
 by_cases h:z.1=w.1
 ·rw[if_pos h]
  by_cases h2:z.2=w.2
  ·rw[if_pos h2];simp[h,h2]
  ·rw[if_neg h2];simp[h]
 ·rw[if_neg h];simp[h]
theorem EU {α:Type} (j:Nat) (xs:List α):Rot xs (turned j xs):=⟨xs.take j,xs.drop j,by rw[gB],rfl⟩
theorem ON {α β:Type} (j:Nat) (f:α->β) (xs:List α):turned j (xs.map f)=(turned j xs).map f:=by unfold turned;simp
theorem DueOf.norm {share:Int} {cs:List Pt} {m sh:Int} {ds:List Pt} {j:Nat} (h:DueOf share cs m sh ds j):NormOf share (turned j cs) m sh (turned j ds):=by
 refine⟨h.mpos,h.sh_eq,?_,λd h1 h2=>h.cop d h1 λz hz=>h2 z (((EU j ds).mem z).mp hz)⟩
 conv=>lhs;rw[h.cs_eq]
 exact ON j _ ds
theorem DueOf.first {share:Int} {cs:List Pt} {m sh:Int} {ds:List Pt} {j:Nat} (h:DueOf share cs m sh ds j):∃w T,turned j cs=w::T/\∀x∈T,¬ltP x w:=by
 obtain⟨z,T,e⟩:∃z T,turned j ds=z::T:=by
  have hj:=h.j_lt
  refine⟨ds[j],ds.drop (j+1)++ds.take j,?_⟩
  show ds.drop j++ds.take j=_
  rw[gM hj];rfl
 have ez:ds[j]? = some z:=by
  have:(turned j ds)[0]? = some z:=by rw[e];rfl
  have hj:=h.j_lt
  unfold turned at this
  rw[cO (by simp;lia),DV] at this
  simpa using this
 refine⟨scl m z,T.map (scl m),?_,λx hx=>?_⟩
 ·conv=>lhs;rw[h.cs_eq]
  rw[ON,e];rfl
 ·obtain⟨y,hy,rfl⟩:=cB.mp hx
  rw[UQ h.mpos]
  have:=h.least y (((EU j ds).mem y).mpr (by rw[e];simp[hy])) z ez
  rw[GP] at this
  simpa using this
theorem sJ {f:D->D->Option Bool}:∀(xs:List D),(∀x∈xs,f x x=some true)->eqL f xs xs=some true
 | [],_=>rfl
 | x::xs,h=>by
  simp only[eqL,h x (by simp),sJ xs λy hy=>h y (by simp[hy])]
  rfl
theorem LK (n:Nat) (i:Int):eqF (n+1) (.int i) (.int i)=some true:=by simp[eqF]
theorem LL (n:Nat) (z:Pt):eqF (n+2) (pt z) (pt z)=some true:=by
 show eqL (eqF (n+1)) _ _=_
 refine sJ _ λx hx=>?_
 simp only[aK,fS,or_false] at hx
 rcases hx with rfl | rfl <;> exact LK n _
theorem WE {g:RG} {t:RS} {E:DEnds} (xs:List D) (J:Nat->En->Prop) (step:∀i x ρ,xs[i]? = some x->J i ρ->∀F:DEnds,F.rt=E.rt->F.bk=E.nx->(∀ρ',J (i+1) ρ'->F.nx ρ')->(∀ρ',J (i+1) ρ'->F.ct ρ')->g x ρ λρ1=>t F ρ1)
  (last:∀ρ,J xs.length ρ->E.nx ρ) (ρ:En) (h:J 0 ρ):WD g t xs E ρ:=by
 refine lD (λys ρ=>∃i,i<=xs.length/\ys=xs.drop i/\J i ρ) ?_ ?_ xs ρ ⟨0,gL _,rfl,h⟩
 ·rintro x ys ρ ⟨i,hi,e,hJ⟩ F f1 f2 f3 f4
  have hlt:i<xs.length:=by
   apply Nat.not_le.mp
   intro hn
   rw[List.drop_of_length_le hn] at e;cases e
  rw[gM hlt] at e
  cases e
  exact step i _ ρ (aF hlt) hJ F f1 f2 (λρ' h=>f3 ρ' ⟨i+1,by lia,rfl,h⟩) λρ' h=>f4 ρ' ⟨i+1,by lia,rfl,h⟩
 ·rintro ρ ⟨i,hi,e,hJ⟩
  have:i=xs.length:=by
   have:=congrArg fJ e
   simp at this;lia
  subst this
  exact last ρ hJ
theorem Bh {lo:Int} {n i:Nat} {x:D} (h:(sS lo n)[i]? = some x):x = .int (lo+i)/\i<n:=by
 unfold sS at h
 rw[bJ] at h
 by_cases hi:i<n
 ·rw[sV hi] at h;cases h;exact⟨rfl,hi⟩
 ·rw[gR (by simpa using hi)] at h;cases h
theorem LM {g:RG} {t:RS} {E:DEnds} (lo:Int) (n:Nat) (J:Nat->En->Prop) (step:∀i ρ,i<n->J i ρ->∀F:DEnds,F.rt=E.rt->F.bk=E.nx->(∀ρ',J (i+1) ρ'->F.nx ρ')->(∀ρ',J (i+1) ρ'->F.ct ρ')->g (.int (lo+i)) ρ λρ1=>t F ρ1)
  (last:∀ρ,J n ρ->E.nx ρ) (ρ:En) (h:J 0 ρ):WD g t (sS lo n) E ρ:=by
 refine WE _ J (λi x ρ e hJ=>?_) (λρ h=>last ρ (by rwa [Bi] at h)) ρ h
 obtain⟨rfl,hi⟩:=Bh e
 exact step i ρ hi hJ
def KZ:FD:=λds Q=>∃n b p:Int,ds=[.int n,.int b,.int p]/\(0<b/\BL 9000 b)/\(0<=p/\p<=1000)/\∀x,0<=x->x<b->Q (.int x)
theorem Fi:∀ds Q,KZ ds Q->ds.length=3:=by rintro ds Q ⟨_,_,_,rfl,_⟩;rfl
theorem NU:∀ds Q,KZ ds Q->CU { nx:=λ_=>Q .non,rt:=Q } (dW ["_law_number","_law_base","_law_place","_law_k"] ds):=by
 rintro ds Q ⟨n,b,p,rfl,⟨b0,b1⟩,⟨p0,p1⟩,q⟩
 rw[cN 1 rfl]
 unfold CU
 simp only[iQ,Bj,aT,bU,bG,cC]
 refine cR (λρ=>∃(m:Int) (o:Option S),ρ=[sdV (.int m),sdV (.int b),sdV (.int p),o]) (λK hK=>?_) ?_
 ·walk_at "rd"
  refine⟨⟨by lia,by lia⟩,?_⟩
  refine lD (λ_ ρ=>∃(m:Int) (o:Option S),ρ=[sdV (.int m),sdV (.int b),sdV (.int p),o]) ?_ ?_ _ _ ⟨n,none,rfl⟩
  ·rintro x xs ρ ⟨m,o,rfl⟩ F _ _ hn _
   unfold wQ
   walk_at "rd"
   exact⟨b1.divOk (by lia),hn _ ⟨m.fdiv b,sdV x,rfl⟩⟩
  ·rintro ρ ⟨m,o,rfl⟩
   exact hK _ ⟨m,o,rfl⟩
 rintro ρ ⟨m,o,rfl⟩
 walk_at "rd"
 obtain⟨a0,a1⟩:=fF (a:=m) b0
 exact⟨⟨by lia⟩,q _ a0 a1⟩
abbrev sp3 (x y w:Int):D:=.tup [.int x,.int y,.int w]
theorem SU {cs:List Pt} {k j:Nat} (hk:k<cs.length) (hj:j<=cs.length):atI (cs.map pt) (0+(k:Int)-(j:Int))=some (pt (rg cs (k+(cs.length-j)))):=by
 unfold atI ixN
 rw[cI]
 by_cases h:j<=k
 ·rw[if_pos (by lia),if_pos (by lia)]
  have e:(0+(k:Int)-(j:Int)).toNat=k-j:=by lia
  rw[e]
  show (cs.map pt)[k-j]? = _
  rw[bJ,DJ (by lia),show k+(cs.length-j)=(k-j)+cs.length by lia,ET];rfl
 ·rw[if_neg (by lia),if_pos (by lia)]
  have e:(0+(k:Int)-(j:Int)+(cs.length:Int)).toNat=k+(cs.length-j):=by lia
  rw[e]
  show (cs.map pt)[k+(cs.length-j)]? = _
  rw[bJ,DJ (by lia)];rfl
theorem zZ {cs:List Pt} {k:Nat} (hk:k<cs.length) {Q:D->Prop}:dIx (.tup (cs.map pt)) (.int (0+(k:Int))) Q=Q (pt (rg cs k)):=by
 have:=SU hk (j:=0) (by lia)
 simp only[Int.natCast_zero,Int.sub_zero,xI,ET] at this
 simp only[dIx,this]
theorem GM {cs:List Pt} {k:Nat} (hk:k<cs.length) {Q:D->Prop}:dIx (.tup (cs.map pt)) (.int (0+(k:Int)-1)) Q=Q (pt (rg cs (k+(cs.length-1)))):=by
 have:=SU hk (j:=1) (by lia)
 simp only[Int.natCast_one] at this
 simp only[dIx,this]
theorem WM {cs:List Pt} {k:Nat} (hk:k<cs.length) (h2:2<=cs.length) {Q:D->Prop}:dIx (.tup (cs.map pt)) (.int (0+(k:Int)-2)) Q=Q (pt (rg cs (k+(cs.length-2)))):=by
 have:=SU hk (j:=2) (by lia)
 have e:((2:Nat):Int)=2:=rfl
 rw[e] at this
 simp only[dIx,this]
theorem WN {zs:List Pt}:∀{i:Nat},i<=zs.length->kW (rg zs (zs.length-1)) (zs.take i)=rg zs (i+(zs.length-1))
 | 0,_=>by rw[tL];rfl
 | j+1,h=>by
  rw[mD,DJ (by lia)]
  show kW _ (zs.take j++[rg zs j])=_
  rw[mK,show j+1+(zs.length-1)=j+zs.length by lia,ET]
theorem Lk (f:Pt->Pt->Int) {zs:List Pt} {i:Nat} (h:i<zs.length):pth f (rg zs (zs.length-1)) (zs.take (i+1))=pth f (rg zs (zs.length-1)) (zs.take i)+f (rg zs (i+(zs.length-1))) (rg zs i):=by
 rw[mD,DJ h,sC,WN (by lia)]
 show _+(f _ _+0)=_
 rw[tJ]
theorem Pr (f:Pt->Pt->Int) {zs:List Pt} (h:0<zs.length):pth f (rg zs (zs.length-1)) zs=oT f zs:=by
 refine QX f (X:=zs.take (zs.length-1)) ?_
 conv=>lhs;rw[<-rP (l:=zs),show zs.length=(zs.length-1)+1 by lia]
 rw[mD,DJ (by lia)];rfl
def LE:FD:=λds Q=>∃a b c:Pt,ds=[pt a,pt b,pt c]/\(BP a/\BP b/\BP c)/\Q (.int (cQ a b c))
theorem Fo:∀ds Q,LE ds Q->ds.length=3:=by rintro ds Q ⟨_,_,_,rfl,_⟩;rfl
theorem QA:∀ds Q,LE ds Q->HA { nx:=λ_=>Q .non,rt:=Q } (dW ["_law_one","_law_two","_law_three","_law_ahead"] ds):=by
 rintro ds Q ⟨a,b,c,rfl,⟨ba,bb,bc⟩,q⟩
 rw[cN 1 rfl]
 unfold HA
 walk_at "rd"
 have e:(b.1-a.1)*(c.2-b.2)-(b.2-a.2)*(c.1-b.1)=cQ a b c:=by unfold cQ;grind
 refine⟨(bb.1.sub ba.1).mulOk (bc.2.sub bb.2),(bb.2.sub ba.2).mulOk (bc.1.sub bb.1),?_⟩
 rw[e];exact q
abbrev sgI (m:Int):Int:=(if 0<m then 1 else 0)-(if m<0 then 1 else 0)
abbrev sdd (sh X Y W:Int) (a b:Pt):Int:=kM (up3 a) (up3 b) (sh*X,sh*Y,W)
def FB:FD:=λds Q=>∃(sh:Int) (cs:List Pt) (X Y W:Int),ds=[pc sh cs,sp3 X Y W]/\(BL 9000 sh/\Cd 9000 cs/\1<=cs.length/\cs.length<=100)/\(BL 9000 X/\BL 9000 Y/\BL 9000 W) /\
 ∀M,(∃a b,Cyc cs a b/\M=sdd sh X Y W a b)->(∀a b,Cyc cs a b->M<=sdd sh X Y W a b)->Q (.int (sgI M))
theorem ZV:∀ds Q,FB ds Q->ds.length=2:=by rintro ds Q ⟨_,_,_,_,_,rfl,_⟩;rfl
theorem Md (sh X Y W:Int) (a b:Pt):(b.1-a.1)*(Y*sh-a.2*W)-(b.2-a.2)*(X*sh-a.1*W)=sdd sh X Y W a b:=by unfold sdd kM up3;dsimp only;grind
theorem KM:∀ds Q,FB ds Q->AS { nx:=λ_=>Q .non,rt:=Q } (dW ["_law_piece","_law_spot","_law_share_here","_law_corners","_law_least","_law_k","_law_one","_law_x","_law_y","_law_side"] ds):=by
 rintro ds Q ⟨sh,cs,X,Y,W,rfl,⟨bs,hS,l1,l2⟩,⟨bX,bY,bW⟩,q⟩
 rw[cN 8 rfl]
 unfold AS
 simp only[iQ,Wx,aT,bU,bG,cC]
 generalize hP:pc sh cs=PD
 generalize hT:sp3 X Y W=TD
 have pos:0<cs.length:=by lia
 refine cR (λρ=>ρ=[sdV PD,sdV TD,sdV (.int sh),sdV (.tup (cs.map pt)),none,none,none,none,none,none]) (λK hK=>?_) ?_
 ·rw[<-hP] at hK ⊢
  walk_at "rd"
  exact hK _ rfl
 rintro ρ rfl
 refine cR (λρ=>ρ=[sdV PD,sdV TD,sdV (.int sh),sdV (.tup (cs.map pt)),sdV .non,none,none,none,none,none]) (λK hK=>?_) ?_
 ·walk_at "rd"
  exact hK _ rfl
 rintro ρ rfl
 refine cR (λρ=>∃(M:Int) (a b c d e:Option S),((∃a b,Cyc cs a b/\M=sdd sh X Y W a b)/\∀a b,Cyc cs a b->M<=sdd sh X Y W a b)/\ρ=[sdV PD,sdV TD,sdV (.int sh),sdV (.tup (cs.map pt)),sdV (.int M),a,b,c,d,e]) (λK hK=>?_) ?_
 ·simp only[oW,OE,aC,aV,r1,rT,aL,aJ,aR,S.val,cI]
  refine⟨by constructor <;> lia,?_⟩
  have nn:(((cs.length:Nat):Int)).toNat=cs.length:=by lia
  simp only[nn]
  refine LM 0 cs.length (λi ρ=>∃(lo:D) (a b c d e:Option S),((i=0/\lo = .non)\/(∃M k0:Int × Nat,k0.2<i/\M.1=sdd sh X Y W (rg cs (k0.2+(cs.length-1))) (rg cs k0.2)/\(∀k,k<i->M.1<=sdd sh X Y W (rg cs (k+(cs.length-1))) (rg cs k))/\lo = .int M.1))/\ρ=[sdV PD,sdV TD,sdV (.int sh),sdV (.tup (cs.map pt)),sdV lo,a,b,c,d,e]) ?_ ?_ _ ⟨.non,none,none,none,none,none,cZ ⟨rfl,rfl⟩,rfl⟩
  ·rintro i ρ hi ⟨lo,a,b,c,d,e,hlo,rfl⟩ F _ _ hn _
   obtain⟨p1,p2⟩:=hS _ (yC pos (i+(cs.length-1)))
   obtain⟨q1,q2⟩:=hS _ (yC pos i)
   unfold vE
   subst hT
   obtain⟨u,hu⟩:∃u,u=rg cs (i+(cs.length-1)):=⟨_,rfl⟩
   have bx:=(bX.mul bs).sub (p1.mul bW)
   have by':=(bY.mul bs).sub (p2.mul bW)
   have e1:∀{Q:D->Prop},dIx (.tup (cs.map pt)) (.int (0+(i:Int)-1)) Q=Q (pt u):=λ{Q}=>by rw[hu];exact GM hi
   rw[<-hu] at p1 p2 bx by'
   simp only[fB,bP,bQ]
   refine cR (λρ=>ρ=[sdV PD,sdV (sp3 X Y W),sdV (.int sh),sdV (.tup (cs.map pt)),sdV lo,sdV (.int (0+(i:Int))),sdV (pt u),c,d,e]) (λK' hK'=>?_) ?_
   ·simp only[eX,r2,aL,rC,S.val,kT,aR,aJ,e1,bP,bQ]
    exact hK' _ rfl
   rintro ρ rfl
   refine cR (λρ=>ρ=[sdV PD,sdV (sp3 X Y W),sdV (.int sh),sdV (.tup (cs.map pt)),sdV lo,sdV (.int (0+(i:Int))),sdV (pt u),sdV (.int (X*sh-u.1*W)),d,e]) (λK' hK'=>?_) ?_
   ·simp only[eX,r2,aL,rC,S.val,kT,eJ,pI,uL,aR,aJ,bP,bQ]
    exact⟨bX.mulOk bs,p1.mulOk bW,hK' _ rfl⟩
   rintro ρ rfl
   refine cR (λρ=>ρ=[sdV PD,sdV (sp3 X Y W),sdV (.int sh),sdV (.tup (cs.map pt)),sdV lo,sdV (.int (0+(i:Int))),sdV (pt u),sdV (.int (X*sh-u.1*W)),sdV (.int (Y*sh-u.2*W)),e]) (λK' hK'=>?_) ?_
   ·simp only[eX,r2,aL,rC,S.val,kT,eJ,oD,uL,aR,aJ,bP,bQ]
    exact⟨bY.mulOk bs,p2.mulOk bW,hK' _ rfl⟩
   rintro ρ rfl
   refine cR (λρ=>ρ=[sdV PD,sdV (sp3 X Y W),sdV (.int sh),sdV (.tup (cs.map pt)),sdV lo,sdV (.int (0+(i:Int))),sdV (pt u),sdV (.int (X*sh-u.1*W)),sdV (.int (Y*sh-u.2*W)),sdV (.int (sdd sh X Y W u (rg cs i)))]) (λK' hK'=>?_) ?_
   ·simp only[eX,r2,aL,rC,S.val,kT,eJ,zZ hi,pI,oD,aR,aJ,bP,bQ]
    refine⟨(q1.sub p1).mulOk by',(q2.sub p2).mulOk bx,?_⟩
    rw[Md]
    exact hK' _ rfl
   rintro ρ rfl
   subst hu
   walk_at "rd"
   have mk:∀(M:Int) (k0:Nat) (a b c d e:Option S),k0<i+1->M=sdd sh X Y W (rg cs (k0+(cs.length-1))) (rg cs k0)->(∀k,k<i+1->M<=sdd sh X Y W (rg cs (k+(cs.length-1))) (rg cs k))->F.nx [sdV PD,sdV (sp3 X Y W),sdV (.int sh),sdV (.tup (cs.map pt)),sdV (.int M),a,b,c,d,e] :=
    λM k0 a b c d e h1 h2 h3=>hn _ ⟨_,a,b,c,d,e,cX ⟨(M,0),(0,k0),h1,h2,h3,rfl⟩,rfl⟩
   have le:∀{M:Int},M<=sdd sh X Y W (rg cs (i+(cs.length-1))) (rg cs i)->(∀k,k<i->M<=sdd sh X Y W (rg cs (k+(cs.length-1))) (rg cs k))->∀k,k<i+1->M<=sdd sh X Y W (rg cs (k+(cs.length-1))) (rg cs k):=λh h' k hk=>by
    rcases uH (iZ hk) with h0 | rfl
    ·exact h' k h0
    ·exact h
   rcases hlo with ⟨h0,rfl⟩ | ⟨M,k0,h1,h2,h3,rfl⟩
   ·subst h0
    simp only[if_true]
    exact mk _ 0 _ _ _ _ _ (Nat.zero_lt_succ _) rfl (le (IZ _) λk hk=>absurd hk (nE k))
   ·simp only[aM,if_false]
    split
    ·rename_i hlt
     exact mk _ i _ _ _ _ _ (mE i) rfl (le (IZ _) λk hk=>xC (dC hlt) (h3 k hk))
    ·rename_i hlt
     exact mk _ k0.2 _ _ _ _ _ (gI h1) h2 (le (lT.mp hlt) h3)
  ·rintro ρ ⟨lo,a,b,c,d,e,hlo,rfl⟩
   rcases hlo with ⟨h0,rfl⟩ | ⟨M,k0,h1,h2,h3,rfl⟩
   ·lia
   ·refine hK _ ⟨M.1,a,b,c,d,e,⟨⟨_,_,VO pos k0.2,h2⟩,λx y hxy=>?_⟩,rfl⟩
    obtain⟨k,hk,rfl,rfl⟩:=Nf hxy
    exact h3 k hk
 rintro ρ ⟨M,a,b,c,d,e,⟨m1,m2⟩,rfl⟩
 have fin:=q M m1 m2
 walk_at "rd"
 exact fin
def FE:FD:=λds Q=>∃(sh:Int) (zs:List Pt),ds=[pc sh zs]/\1<=sh/\3<=zs.length/\Q (.bl true)
theorem ZX:∀ds Q,FE ds Q->ds.length=1:=by rintro ds Q ⟨_,_,rfl,_⟩;rfl
theorem yB:∀ds Q,FE ds Q->rG xA { nx:=λ_=>Q .non,rt:=Q } (dW ["_law_piece","_law_corner"] ds):=by
 rintro ds Q ⟨sh,zs,rfl,h1,h3,q⟩
 rw[cN 1 rfl]
 unfold rG
 simp only[iQ,Bj,aT,bU,bG,cC]
 refine cR (λρ=>ρ=[sdV (pc sh zs),none]) (λK hK=>?_) ?_
 ·walk_at "rd"
  refine⟨sh,rfl,?_⟩
  walk_at "rd"
  rw[if_neg (by lia)]
  exact hK _ rfl
 rintro ρ rfl
 refine cR (λρ=>ρ=[sdV (pc sh zs),none]) (λK hK=>?_) ?_
 ·walk_at "rd"
  rw[if_neg (by simp;lia)]
  exact hK _ rfl
 rintro ρ rfl
 refine cR (λρ=>True) (λK hK=>?_) ?_
 ·walk_at "rd"
  refine lD (λxs ρ=>∃(rest:List Pt) (x:Option S),xs=rest.map pt/\ρ=[sdV (pc sh zs),x]) ?_ ?_ _ _ ⟨zs,none,rfl,rfl⟩
  ·rintro x xs ρ ⟨rest,u,ex,rfl⟩ F _ _ hn _
   cases rest with
   | nil=>cases ex
   | cons z rest =>
    cases ex
    unfold pL
    walk_at "rd"
    exact⟨_,rfl,_,rfl,hn _ ⟨rest,sdV (pt z),rfl,rfl⟩⟩
  ·rintro ρ _;exact hK _ trivial
 rintro ρ _
 walk_at "rd"
 exact q
structure IsPc (sh:Int) (zs:List Pt):Prop where
 pos:0<sh
 cvx:Cvx zs
 first:∃z T,zs=z::T/\∀q∈T,¬ltP q z
 cop:∀d:Nat,(d:Int)∣sh->(∀z∈zs,(d:Int)∣z.1/\(d:Int)∣z.2)->d=1
def Bw:FD:=λds Q=>∃(sh:Int) (zs:List Pt),ds=[pc sh zs]/\IsPc sh zs/\(∀z∈zs,BP z)/\zs.length<=100/\Q (.bl true)
theorem Og:∀ds Q,Bw ds Q->ds.length=1:=by rintro ds Q ⟨_,_,rfl,_⟩;rfl
theorem GX:∀ds Q,Bw ds Q->wT yG FE LE { nx:=λ_=>Q .non,rt:=Q } (dW ["_law_piece","_law_share_here","_law_corners","_law_most","_law_falls","_law_k"] ds):=by
 rintro ds Q ⟨sh,zs,rfl,ip,hB,hl,q⟩
 have h3:=ip.cvx.len
 have pos:0<zs.length:=by lia
 rw[cN 5 rfl]
 unfold wT
 simp only[iQ,Px,aT,bU,bG,cC]
 generalize hP:pc sh zs=PD
 refine cR (λρ=>ρ=[sdV PD,none,none,none,none,none]) (λK hK=>?_) ?_
 ·walk_at "rd"
  refine⟨sh,zs,by rw[hP],by have:=ip.pos;lia,h3,?_⟩
  walk_at "rd"
  exact hK _ rfl
 rintro ρ rfl
 refine cR (λρ=>ρ=[sdV PD,sdV (.int sh),sdV (.tup (zs.map pt)),none,none,none]) (λK hK=>?_) ?_
 ·rw[<-hP] at hK ⊢
  walk_at "rd"
  exact hK _ rfl
 rintro ρ rfl
 refine cR (λρ=>ρ=[sdV PD,sdV (.int sh),sdV (.tup (zs.map pt)),sdV (.int sh),none,none]) (λK hK=>?_) ?_
 ·walk_at "rd"
  exact hK _ rfl
 rintro ρ rfl
 refine cR (λρ=>ρ=[sdV PD,sdV (.int sh),sdV (.tup (zs.map pt)),sdV (.int sh),sdV (.int 0),none]) (λK hK=>?_) ?_
 ·walk_at "rd"
  exact hK _ rfl
 rintro ρ rfl
 refine cR (λρ=>∃(a:Option S),ρ=[sdV PD,sdV (.int sh),sdV (.tup (zs.map pt)),sdV (.int 1),sdV (.int 1),a]) (λK hK=>?_) ?_
 ·simp only[oW,OE,aC,aV,r1,rT,aL,aJ,aR,S.val,cI]
  refine⟨by constructor <;> lia,?_⟩
  have nn:(((zs.length:Nat):Int)).toNat=zs.length:=by lia
  have sn:(sh.toNat:Int)=sh:=by have:=ip.pos;lia
  simp only[nn]
  refine LM 0 zs.length (λi ρ=>∃(g:Nat) (a:Option S),GcdOf sh (zs.take i) g/\ρ=[sdV PD,sdV (.int sh),sdV (.tup (zs.map pt)),sdV (.int g),sdV (.int (if 2<=i then 1 else 0)),a]) ?_ ?_ _ ⟨sh.toNat,none,⟨by have:=ip.pos;lia,?_,by simp,λd e1 _=>?_⟩,by rw[sn];rfl⟩
  ·rintro i ρ hi ⟨g,a,hg,rfl⟩ F hrt _ hn _
   have p0:=hB _ (yC pos i)
   have p1:=hB _ (yC pos (i+(zs.length-1)))
   have p2:=hB _ (yC pos (i+(zs.length-2)))
   have tp:0<cQ (rg zs (i+(zs.length-2))) (rg zs (i+(zs.length-1))) (rg zs i):=by
    have:=ip.cvx.bend_rg (i+(zs.length-2))
    rwa [show i+(zs.length-2)+1=i+(zs.length-1) by lia,show i+(zs.length-2)+2=i+zs.length by lia,ET] at this
   have ff:(ltP (rg zs (i+(zs.length-1))) (rg zs (i+(zs.length-2)))/\ltP (rg zs (i+(zs.length-1))) (rg zs i))↔i=1:=by
    obtain⟨z,T,e,least⟩:=ip.first
    have cv:=ip.cvx
    subst e
    exact Ev cv least hi
   have hg':GcdOf sh (zs.take (i+1)) (cD (cD g (rg zs i).1:Nat) (rg zs i).2):=by
    rw[mD,DJ hi];exact hg.snoc _
   have fin:∀v:Int,v=(if 2<=i+1 then 1 else 0)->F.nx [sdV PD,sdV (.int sh),sdV (.tup (zs.map pt)),sdV (.int (cD (cD g (rg zs i).1:Nat) (rg zs i).2:Nat)),sdV (.int v),sdV (.int (0+(i:Int)))]:=λv hv=>hn _ ⟨_,sdV (.int (0+(i:Int))),hg',by rw[hv]⟩
   unfold tF
   simp only[fB,bP,bQ]
   refine cR (λρ=>ρ=[sdV PD,sdV (.int sh),sdV (.tup (zs.map pt)),sdV (.int (cD (cD g (rg zs i).1:Nat) (rg zs i).2:Nat)),sdV (.int (if 2<=i then 1 else 0)),sdV (.int (0+(i:Int)))]) (λK' hK'=>?_) ?_
   ·simp only[eX,cV,aC,aV,r2,cG,aL,rC,S.val,zZ hi,pI,oD,aR,aJ,bP,bQ]
    exact⟨_,_,rfl,_,_,rfl,hK' _ rfl⟩
   rintro ρ rfl
   refine cR (λρ=>ρ=[sdV PD,sdV (.int sh),sdV (.tup (zs.map pt)),sdV (.int (cD (cD g (rg zs i).1:Nat) (rg zs i).2:Nat)),sdV (.int (if 2<=i then 1 else 0)),sdV (.int (0+(i:Int)))]) (λK' hK'=>?_) ?_
   ·simp only[kG,dX,cV,aC,aV,r2,aL,rC,iB,S.val,kT,nG,zZ hi,GM hi,WM hi (show 2<=zs.length by lia),aR,aJ]
    refine⟨_,_,_,rfl,⟨p2,p1,p0⟩,?_⟩
    dsimp only
    rw[if_neg (by simp only[decide_eq_true_eq];lia)]
    exact hK' _ rfl
   rintro ρ rfl
   simp only[kG,Bd,dX,eX,iB,r2,aL,rC,S.val,kT,mH,Nj,zZ hi,GM hi,WM hi (show 2<=zs.length by lia),aR,aJ,bP,bQ]
   refine⟨[_,_],[_,_],rfl,rfl,?_⟩
   rw[GP]
   by_cases h1:ltP (rg zs (i+(zs.length-1))) (rg zs (i+(zs.length-2)))
   ·simp only[h1,decide_true,if_true]
    refine⟨[_,_],[_,_],rfl,rfl,?_⟩
    rw[GP]
    by_cases h2:ltP (rg zs (i+(zs.length-1))) (rg zs i)
    ·simp only[h2,decide_true,if_true]
     have:=ff.mp ⟨h1,h2⟩
     subst this
     exact fin _ (by simp)
    ·simp only[h2,decide_false,if_false,aM]
     have:i≠1:=λe=>h2 (ff.mpr e).2
     refine fin _ ?_
     by_cases h4:2<=i
     ·rw[if_pos h4,if_pos (by lia)]
     ·rw[if_neg h4,if_neg (by lia)]
   ·simp only[h1,decide_false,if_false,aM]
    have:i≠1:=λe=>h1 (ff.mpr e).1
    refine fin _ ?_
    by_cases h4:2<=i
    ·rw[if_pos h4,if_pos (by lia)]
    ·rw[if_neg h4,if_neg (by lia)]
  ·rintro ρ ⟨g,a,hg,rfl⟩
   rw[rP] at hg
   have:=ip.cop g hg.sh hg.all
   subst this
   refine hK _ ⟨a,?_⟩
   rw[if_pos (by lia)];rfl
  ·rw[sn];exact oN _
  ·exact_mod_cast (by rw[sn];exact e1:(d:Int)∣(sh.toNat:Int))
 rintro ρ ⟨a,rfl⟩
 obtain⟨z,T,e,least⟩:=ip.first
 subst e
 walk_at "rd"
 refine⟨(z::T).map λp=>[p.1,p.2],by rw[dD];rfl,by simp,λM m1 m2=>?_⟩
 obtain⟨p,hp,rfl⟩:=cB.mp m1
 have ep:z=p:=by
  rcases aK.mp hp with h | h
  ·exact h.symm
  ·have h1:=least p h
   have h2:=m2 [z.1,z.2] (by simp)
   rw[GP] at h2
   simp only[decide_eq_false_iff_not] at h2
   rcases qU z p with k | k | k
   ·exact absurd k h2
   ·exact k
   ·exact absurd k h1
 subst ep
 have ee:eqF 6 (pt z) (pt z)=some true:=by rw[TJ];simp
 rw[show nQ [z.1,z.2]=pt z from rfl]
 first
  | (rw[ee];exact q)
  | (show (match eqF 6 (pt z) (pt z) with | some b=>Q (.bl b) | none=>False);rw[ee];exact q)
theorem Cj {n:Nat}:BL (n+1) 0:=(BL.const (n:=1) (i:=0) (by decide)).mono (by lia)
theorem Ie {n:Nat}:∀(l:List Pt) (a:Pt),(BL n a.1/\BL n a.2)->Cd n l->BL (2*n+1+l.length) (pth crs a l)
 | [],a,_,_=>Cj
 | b::l,a,ha,hl=>by
  obtain⟨b1,b2⟩:=hl b (by simp)
  have ih:=Ie l b ⟨b1,b2⟩ λz hz=>hl z (by simp[hz])
  have c:BL (2*n+1) (crs a b):=((ha.1.mul b2).sub (ha.2.mul b1)).mono (by lia)
  refine (c.add ih).mono ?_
  rw[bZ];lia
theorem Rz {n:Nat} {zs:List Pt} (h:Cd n zs):BL (2*n+1+zs.length) (oT crs zs):=by
 cases zs with
 | nil=>exact Cj
 | cons z T =>
  have:=Ie (T++[z]) z (h z (by simp)) λw hw=>h w (by simp at hw ⊢;rcases hw with k | k <;> simp[k])
  rw[dI] at this
  exact this
namespace K33
abbrev P2:=Int × Int
abbrev Mv:=Int × P2 × P2
def mvD (m:Mv):D:=.tup [.int m.1,pt m.2.1,pt m.2.2]
theorem Vk {x:D} (h:x∈[D.int 9,D.int 1000000000000000000000000000000]):∃f:Int,x = .int f/\0<=f/\BL 200 f:=by
 rcases aK.mp h with rfl | h
 ·exact⟨9,rfl,by decide,BL.const (by decide)⟩
 ·rcases aK.mp h with rfl | h
  ·exact⟨_,rfl,by decide,BL.const (by decide)⟩
  ·cases h
structure LeanOk (n:Nat) (f:P2):Prop where
 pos:0<f.2
 top:BL n f.1
 bot:BL n f.2
theorem LeanOk.mono {n m:Nat} {f:P2} (h:LeanOk n f) (k:n<=m):LeanOk m f:=⟨h.pos,h.top.mono k,h.bot.mono k⟩
theorem Ni {xs:List D} {x:D} {Q:D->Prop} (h:xs.getLast? = some x):dIx (.lst xs) (.int (-1)) Q=Q x:=by simp only[dIx,UZ h]
theorem Kc {n:Nat} {a b t w p q:Int} (ha:BL n a) (hb:BL n b) (b0:0<b) (t0:1<=t) (t1:t<=3) (w0:1<=w) (w1:w<=3) (h:Low (a*w+t*b) (b*w) p q):LeanOk (n+5) (p,q):=by
 have bw:BL 2 w:=BL.of_lt (m:=2) (by lia) (by lia)
 have bt:BL 2 t:=BL.of_lt (m:=2) (by lia) (by lia)
 have h1:BL (n+2+1) (a*w+t*b):=by
  have:=(ha.mul bw).add (show BL (n+2) (t*b) by have:=bt.mul hb;rwa [Nat.add_comm] at this)
  rwa [Nat.max_self] at this
 exact⟨h.pos,(h1.le h.lea).mono (by lia),((hb.mul bw).le h.leb).mono (by lia)⟩
end K33
namespace K33
theorem Ll {fs:List P2} {i:Int} {Q:D->Prop} (h0:0<=i) (h1:i<fs.length) (q:∀f,fs[i.toNat]? = some f->Q (pt f)):dIx (pts fs) (.int i) Q:=by
 have hj:i.toNat<fs.length:=by lia
 exact xP (YY (j:=i.toNat) (by lia) (by rw[bJ,aF hj];rfl)) (q _ (aF hj))
end K33
namespace K33
theorem HF {t u:RS} {E:DEnds} {ρ:En} (I:En->Prop) (h1:∀K:En->Prop,(∀ρ',I ρ'->K ρ')->t { nx:=K,rt:=λ_=>False } ρ) (h2:∀ρ',I ρ'->u E ρ'):JL t u E ρ:=h1 (u E) h2
end K33
def IsSign (s:Int):Prop:=s=1\/s = -1
theorem IsSign.bl {s:Int} (h:IsSign s):BL 10 s:=by rcases h with rfl | rfl <;> exact BL.const
theorem IsSign.abs {s:Int} (h:IsSign s):s.natAbs=1:=by rcases h with rfl | rfl <;> rfl
theorem IsSign.natAbs_mul {s a:Int} (h:IsSign s):(s*a).natAbs=a.natAbs:=by rw[iY,h.abs,Nat.one_mul]
def nY:FD:=λds Q=>∃s a b:Int,ds=[.int s,fr a b]/\IsSign s/\BL 4000 a/\Q (fr (s*a) b)
theorem Aa:∀ds Q,nY ds Q->ds.length=2:=by rintro ds Q ⟨a,b,c,rfl,_⟩;rfl
theorem XX:∀ds Q,nY ds Q->SC { nx:=λ_=>Q .non,rt:=Q } (dW ["sign","one"] ds):=by
 rintro ds Q ⟨s,a,b,rfl,hs,ba,q⟩
 rw[cN 0 rfl]
 unfold SC
 walk_at "rd"
 exact⟨hs.bl.mulOk ba,q⟩
abbrev mvM (s c d e f:Int):D:=.tup [.int s,fr c d,fr e f]
abbrev sp (a b g h:Int):D:=.tup [fr a b,fr g h]
def QJ:FD:=λds Q=>∃s c d e f a b g h:Int,ds=[mvM s c d e f,sp a b g h]/\IsSign s/\(0<d/\0<f/\0<b/\0<h)/\(BL 4000 c/\BL 4000 d/\BL 4000 e/\BL 4000 f/\BL 4000 a/\BL 4000 b/\BL 4000 g/\BL 4000 h) /\
 ∀p q r t,Low (s*a*d+c*b) (b*d) p q->Low (s*g*f+e*h) (h*f) r t->Q (sp p q r t)
theorem Oj:∀ds Q,QJ ds Q->ds.length=2:=by rintro ds Q ⟨_,_,_,_,_,_,_,_,_,rfl,_⟩;rfl
theorem Lm:∀ds Q,QJ ds Q->Lx HL nY { nx:=λ_=>Q .non,rt:=Q } (dW ["move","spot","sign"] ds):=by
 rintro ds Q ⟨s,c,d,e,f,a,b,g,h,rfl,hs,⟨d0,f0,b0,h0⟩,⟨bc,bd,be,bf,ba,bb,bg,bh⟩,q⟩
 rw[cN 1 rfl]
 unfold Lx
 walk_at "rd"
 refine⟨s,a,b,rfl,hs,ba,_,_,_,_,rfl,⟨b0,d0⟩,⟨ba.le (xH hs.natAbs_mul),bb,bc,bd⟩,λp q' l1=>?_⟩
 refine⟨s,g,h,rfl,hs,bg,_,_,_,_,rfl,⟨h0,f0⟩,⟨bg.le (xH hs.natAbs_mul),bh,be,bf⟩,λr t l2=>?_⟩
 exact q _ _ _ _ l1 l2
def vX:FD:=λds Q=>∃s c d e f s' c' d' e' f':Int,ds=[mvM s c d e f,mvM s' c' d' e' f']/\(IsSign s/\IsSign s')/\(0<d/\0<f/\0<d'/\0<f')/\(BL 4000 c/\BL 4000 d/\BL 4000 e/\BL 4000 f/\BL 4000 c'/\BL 4000 d'/\BL 4000 e'/\BL 4000 f') /\
 ∀p q r t,Low (s'*c*d'+c'*d) (d*d') p q->Low (s'*e*f'+e'*f) (f*f') r t->Q (mvM (s*s') p q r t)
theorem ZQ:∀ds Q,vX ds Q->ds.length=2:=by rintro ds Q ⟨_,_,_,_,_,_,_,_,_,_,rfl,_⟩;rfl
theorem XQ:∀ds Q,vX ds Q->RY QJ { nx:=λ_=>Q .non,rt:=Q } (dW ["first","second","shift"] ds):=by
 rintro ds Q ⟨s,c,d,e,f,s',c',d',e',f',rfl,⟨hs,hs'⟩,⟨d0,f0,d0',f0'⟩,⟨bc,bd,be,bf,bc',bd',be',bf'⟩,q⟩
 rw[cN 1 rfl]
 unfold RY
 walk_at "rd"
 refine⟨s',c',d',e',f',c,d,e,f,rfl,hs',⟨d0',f0',d0,f0⟩,⟨bc',bd',be',bf',bc,bd,be,bf⟩,λp q' r t l1 l2=>?_⟩
 walk_at "rd"
 exact⟨hs.bl.mulOk hs'.bl,q _ _ _ _ l1 l2⟩
def rK:FD:=λds Q=>∃s c d e f:Int,ds=[mvM s c d e f]/\IsSign s/\(BL 4000 c/\BL 4000 e)/\Q (mvM s (-s*c) d (-s*e) f)
theorem TX:∀ds Q,rK ds Q->ds.length=1:=by rintro ds Q ⟨_,_,_,_,_,rfl,_⟩;rfl
theorem IsSign.neg {s:Int} (h:IsSign s):IsSign (-s):=by rcases h with rfl | rfl;exact .inr rfl;exact .inl rfl
theorem QB:∀ds Q,rK ds Q->JP nY { nx:=λ_=>Q .non,rt:=Q } (dW ["move","sign"] ds):=by
 rintro ds Q ⟨s,c,d,e,f,rfl,hs,⟨bc,be⟩,q⟩
 rw[cN 1 rfl]
 unfold JP
 walk_at "rd"
 exact⟨_,_,_,rfl,hs.neg,bc,_,_,_,rfl,hs.neg,be,q⟩
namespace K34
open K33
structure Told (e:Int) (A:List Pt) (sh:Int) (zs:List Pt):Prop where
 ex:∃(w:Pt) (T:List Pt) (m:Int),Rot A (w::T)/\(∀x∈T,¬ltP x w)/\NormOf e (w::T) m sh zs
theorem Told.same {e1 e2 sh1 sh2:Int} {A B zs1 zs2:List Pt} (a:Told e1 A sh1 zs1) (b:Told e2 B sh2 zs2) (h1:0<e1) (h2:0<e2) (eq:A.map (scl e2)=B.map (scl e1)) (nd:A.Nodup):sh1=sh2/\zs1=zs2:=by
 obtain⟨w1,T1,m1,ra,l1,N1⟩:=a
 obtain⟨w2,T2,m2,rb,l2,N2⟩:=b
 have rr:Rot ((w1::T1).map (scl e2)) ((w2::T2).map (scl e1)):=((ra.symm.map (scl e2)).trans (by rw[eq];exact Rot.refl _)).trans (rb.map (scl e1))
 have nd1:((w1::T1).map (scl e2)).Nodup:=qK (scl e2) (λa b hn h=>hn (LR h2 h)) (ra.nodup nd)
 rw[aT,aT] at rr
 rw[aT] at nd1
 have eq:=rr.least nd1 (λx hx=>by obtain⟨y,hy,rfl⟩:=cB.mp hx;rw[UQ h2];exact l1 y hy) λx hx=>by obtain⟨y,hy,rfl⟩:=cB.mp hx;rw[UQ h1];exact l2 y hy
 exact N1.same N2 h2 h1 (kK ..) (by simpa using eq)
theorem Told.rot {e sh:Int} {A B zs:List Pt} (a:Told e A sh zs) (r:Rot A B):Told e B sh zs:=by
 obtain⟨w,T,m,ra,l,N⟩:=a
 exact⟨w,T,m,r.symm.trans ra,l,N⟩
theorem Told.ring {e sh:Int} {A zs:List Pt} (a:Told e A sh zs):∃A',Rot A A'/\zs.map (scl e)=A'.map (scl sh):=by
 obtain⟨w,T,m,ra,l,N⟩:=a
 refine⟨w::T,ra,?_⟩
 have h1:=N.cs_eq
 have h2:=N.sh_eq
 rw[h1,dD]
 refine pC λz _=>?_
 show scl e z=(sh*(m*z.1),sh*(m*z.2))
 rw[h2]
 exact lJ (by dsimp only[scl];grind) (by dsimp only[scl];grind)
theorem Jo {share:Int} {cs:List Pt} {m sh:Int} {ds:List Pt} {j:Nat} (h:DueOf share cs m sh ds j):Told share cs sh (turned j ds):=by
 obtain⟨w,T,e,l⟩:=h.first
 have N:=h.norm
 rw[e] at N
 exact⟨w,T,m,by rw[<-e];exact EU j cs,l,N⟩
theorem Ha {sh0 sign p q u v sh:Int} {cs zs:List Pt} (P:PushOf sh0 cs sign p q u v sh zs):∃κ r w:Int,(0<κ/\r*q=p*(κ*sh0)/\w*v=u*(κ*sh0))/\Told (κ*sh0) (cs.map (L2.R2.mv (sign*κ) r w)) sh zs:=by
 obtain⟨κ,s,r,w,m,z,T,⟨pk,es,_⟩,⟨er,ew⟩,rot,least,_,N⟩:=P
 subst es
 exact⟨κ,r,w,⟨pk,er,ew⟩,z,T,m,rot,least,N⟩
theorem Sk (share:Int) (hs:0<share) (cs:List Pt):∃g,GcdOf share cs g:=by
 have key:∀(todo done:List Pt),(∃g,GcdOf share done g)->∃g,GcdOf share (done++todo) g:=by
  intro todo
  induction todo with
  | nil=>intro done h;simpa using h
  | cons z todo ih =>
   intro done ⟨g,h⟩
   have:=ih (done++[z]) ⟨_,h.snoc z⟩
   simpa using this
 refine key cs [] ⟨share.natAbs,?_⟩
 refine⟨by lia,Int.natAbs_dvd.mpr (oN _),λz hz=>absurd hz fS,λd h1 _=>?_⟩
 exact Int.ofNat_dvd.mp (Int.dvd_natAbs.mpr h1)
theorem Ou {e:Int} (he:0<e) (cs:List Pt):∃m sh zs,NormOf e cs m sh zs:=by
 obtain⟨g,G⟩:=Sk e he cs
 have gp:(0:Int)<g:=by have:=G.pos;lia
 have back:∀x:Int,(g:Int)∣x->(g:Int)*(x / g)=x:=λx h=>iR h
 refine⟨g,e / g,cs.map λz=>(z.1 / g,z.2 / g),⟨gp,(back e G.sh).symm,?_,λd h1 h2=>?_⟩⟩
 ·rw[dD]
  conv=>lhs;rw[<-nZ cs]
  refine pC λz hz=>?_
  obtain⟨a,b⟩:=G.all z hz
  exact lJ (back _ a).symm (back _ b).symm
 ·have dg:((d*g:Nat):Int)∣e:=by
   rw[<-back e G.sh]
   obtain⟨c,hc⟩:=h1
   exact⟨c,by rw[hc];push_cast;grind⟩
  have da:∀z∈cs,((d*g:Nat):Int)∣z.1/\((d*g:Nat):Int)∣z.2:=λz hz=>by
   obtain⟨a,b⟩:=G.all z hz
   obtain⟨⟨c1,h3⟩,⟨c2,h4⟩⟩:=h2 _ (cB.mpr ⟨z,hz,rfl⟩)
   dsimp only at h3 h4
   exact⟨⟨c1,by rw[<-back z.1 a,h3];push_cast;grind⟩,⟨c2,by rw[<-back z.2 b,h4];push_cast;grind⟩⟩
  have:=G.most _ dg da
  have le:=vN G.pos this
  have dp:0<d:=by
   rcases uG d with h | h
   ·subst h;rw[Nat.zero_mul] at this
    have:=wC this
    have:=G.pos;lia
   ·exact h
  have g0:=G.pos
  by_cases h:d=1
  ·exact h
  ·have:2*g<=d*g:=zO g (by lia)
   lia
theorem Ql {e:Int} (he:0<e) {A:List Pt} (hA:A≠[]):∃sh zs,Told e A sh zs:=by
 obtain⟨w,T,r,l⟩:=AC A hA
 obtain⟨m,sh,zs,N⟩:=Ou he (w::T)
 exact⟨sh,zs,w,T,m,r,l,N⟩
theorem Rot.mapOf {α β:Type} {f:α->β} {A:List α} {B':List β} (r:Rot (A.map f) B'):∃B,Rot A B/\B'=B.map f:=by
 obtain⟨X,Y,e1,e2⟩:=r
 obtain⟨X',Y',h1,h2,h3⟩:=mP.mp e1
 exact⟨Y'++X',⟨X',Y',h1,rfl⟩,by rw[e2,cU,h2,h3]⟩
end K34
namespace K34
open K33
def cellOf (ns:List Int) (k:Int):Int:=if k<(ns.length:Int) then (ns.getD k.toNat 0).fmod big else 0
def F_cell34:FD:=λds Q=>∃(ns:List Int) (k:Int),ds=[il ns,.int k]/\0<=k/\∀c,0<=c->c<big->c=cellOf ns k->Q (.int c)
theorem len_cell34:∀ds Q,F_cell34 ds Q->ds.length=2:=by rintro ds Q ⟨_,_,rfl,_⟩;rfl
theorem pure_law_cell34:∀ds Q,F_cell34 ds Q->GZ { nx:=λ_=>Q .non,rt:=Q } (dW ["_law_script","_law_k"] ds):=by
 rintro ds Q ⟨ns,k,rfl,hk,q⟩
 rw[cN 0 rfl]
 unfold GZ
 walk_at "rd"
 split
 ·rename_i hlt
  have hlt:k<(ns.length:Int):=by simpa using hlt
  have hj:k.toNat<ns.length:=by lia
  refine xP (x:=.int ns[k.toNat]) (YY (j:=k.toNat) (by lia) (by rw[bJ,aF hj];rfl)) ?_
  refine⟨NR,lV,?_⟩
  obtain⟨e0,e1⟩:=fF (a:=ns[k.toNat]) (b:=big) (by decide)
  refine q _ e0 e1 ?_
  unfold cellOf
  rw[if_pos hlt,dL,aF hj,kO]
 ·rename_i hlt
  have hlt:¬k<(ns.length:Int):=by simpa using hlt
  refine q 0 (by decide) (by decide) ?_
  unfold cellOf
  rw[if_neg hlt]
structure Lean34 (f:P2):Prop where
 pos:0<f.2
 top:BL 40 f.1
 bot:BL 12 f.2
theorem Lean34.ok {f:P2} (h:Lean34 f):LeanOk 40 f:=⟨h.pos,h.top,h.bot.mono (by decide)⟩
structure Leans (fs:List P2):Prop where
 each:∀f∈fs,Lean34 f
 rise:∀(i:Nat) (s t:P2),fs[i]? = some s->fs[i+1]? = some t->s.1*t.2<t.1*s.2
def F_leans34:FD:=λds Q=>∃n m:Int,ds=[.int n,.int m]/\(1<=m/\m<=5)/\∀fs:List P2,(fs.length:Int)=m->Leans fs->Q (pts fs)
theorem len_leans34:∀ds Q,F_leans34 ds Q->ds.length=2:=by rintro ds Q ⟨_,_,rfl,_⟩;rfl
theorem pure_law_leans34:∀ds Q,F_leans34 ds Q->CV KZ QK { nx:=λ_=>Q .non,rt:=Q } (dW ["_law_number","_law_many","_law_found","_law_k","_law_top","_law_bottom"] ds):=by
 rintro ds Q ⟨n,m,rfl,⟨m0,m1⟩,q⟩
 rw[cN 4 rfl]
 unfold CV
 simp only[iQ,Bk,aT,bU,bG,cC]
 refine cR (λρ=>∃f:P2,(LeanOk 10 f/\BL 2 f.2)/\ρ=[sdV (.int n),sdV (.int m),some (.own ([f].map pt)),none,none,none]) (λK hK=>?_) ?_
 ·walk_at "rd"
  obtain⟨a0,a1⟩:=fF (a:=n) (b:=9) (by decide)
  obtain⟨b0,b1⟩:=fF (a:=n.fdiv 9) (b:=2) (by decide)
  refine⟨lV,(BL.const (n:=9000) (by decide)).divOk (by decide),lV,?_⟩
  have w:BL 2 (1+(n.fdiv 9).fmod 2):=BL.of_lt (m:=2) (by lia) (by lia)
  have t:BL 10 (n.fmod 9-4):=BL.of_lt (m:=10) (by lia) (by lia)
  refine⟨_,_,rfl,⟨by lia,w.mono (by decide)⟩,λp q' l=>hK _ ⟨(p,q'),⟨⟨l.pos,t.le l.lea,(w.le l.leb).mono (by decide)⟩,w.le l.leb⟩,rfl⟩⟩
 rintro ρ ⟨f,⟨hf,hf2⟩,rfl⟩
 refine cR (λρ=>∃(fs:List P2) (u v w:Option S),((fs.length:Int)=m/\Leans fs)/\ρ=[sdV (.int n),sdV (.int m),some (.own (fs.map pt)),u,v,w]) (λK hK=>?_) ?_
 ·simp only[oW,OE,aC,aV,r2,kT,aL,rC,aJ,aR,L2.R2.S.val]
  refine⟨⟨by lia,by lia⟩,?_⟩
  refine LM 0 (m-1).toNat (λi ρ=>∃(gs:List P2) (g:P2) (u v w:Option S),(gs.length=i/\Leans (gs++[g])/\LeanOk (10+5*i) g/\BL (2+2*i) g.2)/\ρ=[sdV (.int n),sdV (.int m),some (.own ((gs++[g]).map pt)),u,v,w]) ?_ ?_ _ ⟨[],f,none,none,none,⟨rfl,⟨λz hz=>by rw[dU.mp hz];exact⟨hf.pos,hf.top.mono (by decide),hf2.mono (by decide)⟩,λi s t h1 h2=>by cases i <;> simp at h2⟩,hf,hf2⟩,rfl⟩
  ·rintro i ρ hi ⟨gs,g,u,v,w,⟨hl,hall,hg,hg2⟩,rfl⟩ F hr hb hn hc
   have hlast:((gs++[g]).map pt).getLast? = some (.tup [.int g.1,.int g.2]):=by rw[cU,aT,bU,List.getLast?_concat]
   unfold wU
   walk_at "rd"
   refine⟨(BL.const (n:=9000) (by decide)).divOk (by decide),?_⟩
   refine⟨_,_,_,rfl,⟨by decide,BL.const (by decide)⟩,⟨by lia,by lia⟩,λt t0 t1=>?_⟩
   walk_at "rd"
   refine⟨(BL.const (n:=9000) (by decide)).divOk (by decide),?_⟩
   refine⟨_,_,_,rfl,⟨by decide,BL.const (by decide)⟩,⟨by lia,by lia⟩,λy y0 y1=>?_⟩
   obtain⟨c0,c1⟩:=fF (a:=y) (b:=3) (by decide)
   walk_at "rd"
   simp only[Ni hlast]
   walk_at "rd"
   have bw:BL 2 (1+y.fmod 3):=BL.of_lt (m:=2) (by lia) (by lia)
   have bt:BL 2 (1+t):=BL.of_lt (m:=2) (by lia) (by lia)
   have g4:=(hall.each g (bT _ (.head _))).ok
   refine⟨lV,g4.top.mulOk bw,bt.mulOk g4.bot,g4.bot.mulOk bw,?_⟩
   refine⟨_,_,rfl,⟨aY hg.pos (by lia),(hg.bot.mul bw).mono (by lia)⟩,λp q' l=>?_⟩
   have nw:=Kc hg.top hg.bot hg.pos (by lia) (by lia) (by lia) (by lia) l
   have nb:BL (2+2*i+2) q':=(hg2.mul bw).le l.leb
   refine⟨sM (by rw[cI,dI];simp;lia),hn _ ⟨gs++[g],(p,q'),_,_,_,⟨by simp;lia,⟨λz hz=>?_,λk s t' h1 h2=>?_⟩,nw.mono (by lia),nb.mono (by lia)⟩,by rw[show (gs++[g]++[(p,q')]).map pt=(gs++[g]).map pt++[fr p q'] from cU]⟩⟩
   ·rcases cY.mp hz with hz | hz
    ·exact hall.each z hz
    ·rw[dU.mp hz];exact⟨l.pos,nw.top.mono (by lia),nb.mono (by lia)⟩
   ·have ln:(gs++[g]).length=i+1:=by simp;lia
    by_cases hk:k+1<i+1
    ·rw[cO (by lia)] at h1 h2
     exact hall.rise k s t' h1 h2
    ·have kl:k+1<(gs++[g]++[(p,q')]).length:=(aX.mp h2).1
     have ki:k=i:=by rw[dI,ln] at kl;simp at kl;lia
     subst ki
     rw[cO (by lia),cW (by lia),hl,Nat.sub_self] at h1
     rw[cW (by lia),ln,Nat.sub_self] at h2
     cases h1;cases h2
     dsimp only
     have wt:=l.worth
     have w0:0<1+y.fmod 3:=by lia
     have tp:0<(1+t)*g.2*q':=aY (aY (by lia) hg.pos) l.pos
     refine Int.lt_of_mul_lt_mul_right (a:=1+y.fmod 3) ?_ (dC w0)
     have e1:p*g.2*(1+y.fmod 3)=g.1*q'*(1+y.fmod 3)+(1+t)*g.2*q':=by
      have:p*(g.2*(1+y.fmod 3))=(g.1*(1+y.fmod 3)+(1+t)*g.2)*q':=wt
      grind
     rw[e1];lia
  ·rintro ρ ⟨gs,g,u,v,w,⟨hl,hall,hg,_⟩,rfl⟩
   exact hK _ ⟨gs++[g],u,v,w,⟨by simp;lia,hall⟩,rfl⟩
 rintro ρ ⟨fs,u,v,w,⟨hl,hall⟩,rfl⟩
 simp only[xU,S.fz,fV,cG,aJ,aR,bQ,bP]
 exact q fs hl hall
theorem Rg {f:Int} {x:Int} (h0:0<=f) (h1:BL 200 f) (a0:0<=x) (a1:x<2*f+1):BL 210 (x-f):=by
 refine (h1.mono (by decide)).le ?_
 lia
end K34
namespace K36
open K34 K33
theorem UU {e1 e2 sh:Int} {A B zs:List Pt} (a:Told e1 A sh zs) (h1:0<e1) (h2:0<e2) (hB:B≠[]) (eq:A.map (scl e2)=B.map (scl e1)) (nd:A.Nodup):Told e2 B sh zs:=by
 obtain⟨sh2,zs2,b⟩:=Ql h2 hB
 obtain⟨rfl,rfl⟩:=Told.same a b h1 h2 eq nd
 exact b
def aff (S lo hi:Int) (z:Pt):Pt:=(z.1*S,z.1*lo+z.2*hi)
theorem UY (S lo hi:Int) (a b c:Pt):cQ (aff S lo hi a) (aff S lo hi b) (aff S lo hi c)=S*hi*cQ a b c:=by unfold cQ aff;dsimp only;grind
theorem Mw (S lo hi:Int) (a b:Pt):crs (aff S lo hi a) (aff S lo hi b)=S*hi*crs a b:=by unfold crs aff;dsimp only;grind
theorem Ce {S lo hi:Int} (hS:0<S) (hh:0<hi) {a b:Pt} (h:aff S lo hi a=aff S lo hi b):a=b:=by
 unfold aff at h
 simp only[eK] at h
 have e1:a.1=b.1:=gY (by lia) h.1
 have e2:a.2=b.2:=gY (a:=hi) (by lia) (by have:=h.2;rw[e1] at this;lia)
 exact lJ e1 e2
theorem SS {S lo hi:Int} (hS:0<S) (hh:0<hi) {P:List Pt} (c:Cvx P):Cvx (P.map (aff S lo hi)):=c.map (aY hS hh) (UY S lo hi) λa b h=>Ce hS hh h
def gx (t:Int) (a b:Pt):Pt:=((((b.2-t).natAbs:Int)*a.1+((a.2-t).natAbs:Int)*b.1) / (((a.2-t).natAbs:Int)+((b.2-t).natAbs:Int)),t)
def Nv (σ t:Int) (a b:Pt):List Pt:=(if σ*(a.2-t)<=0 then [a] else [])++(if (a.2-t)*(b.2-t)<0 then [gx t a b] else [])
def gPl (σ t:Int):List Pt->List Pt
 | []=>[]
 | [_]=>[]
 | a::b::r=>Nv σ t a b++gPl σ t (b::r)
def gok (t:Int):List Pt->Bool
 | []=>true
 | [_]=>true
 | a::b::r=>(decide (¬(a.2-t)*(b.2-t)<0) || decide ((((a.2-t).natAbs:Int)+((b.2-t).natAbs:Int))*(gx t a b).1=((b.2-t).natAbs:Int)*a.1+((a.2-t).natAbs:Int)*b.1)) && gok t (b::r)
abbrev lU (σ t:Int) (P:List Pt):List Pt:=gPl σ t (P++P.take 1)
section
variable {L:CLine} {e sh c σ t S lo hi F:Int}
theorem uZ {k x:Int} (h:0<k):((k*x).natAbs:Int)=k*(x.natAbs:Int):=by
 rw[iY,Int.natCast_mul]
 rw[show ((k.natAbs:Nat):Int)=k by lia]
theorem Mh {σ x:Int} (h:σ=1\/σ = -1):((σ*x).natAbs:Int)=(x.natAbs:Int):=by rcases h with rfl | rfl <;> lia
theorem Jt {T:H3} {g:Pt} (ft:Fits F T) (h1:e*T.1=sh*T.2.2*(aff S lo hi g).1) (h2:e*T.2.1=sh*T.2.2*(aff S lo hi g).2):scl e (gF F T)=scl (sh*F) (aff S lo hi g):=by
 have f:=ft.e
 unfold gF scl
 refine lJ ?_ ?_
 ·dsimp only
  generalize (aff S lo hi g).1=A at *
  generalize F / T.2.2=k at *
  rw[<-f]
  grind
 ·dsimp only
  generalize (aff S lo hi g).2=A at *
  generalize F / T.2.2=k at *
  rw[<-f]
  grind
theorem Ig (he:0<e) (hc:0<c) (hσ:σ=1\/σ = -1) {u v a b:Pt} (hu:scl e u=scl sh (aff S lo hi a)) (hv:scl e v=scl sh (aff S lo hi b)) (cu:e*cxc L u=c*(σ*(a.2-t))) (cv:e*cxc L v=c*(σ*(b.2-t)))
  (ok:(a.2-t)*(b.2-t)<0->(((a.2-t).natAbs:Int)+((b.2-t).natAbs:Int))*(gx t a b).1=((b.2-t).natAbs:Int)*a.1+((a.2-t).natAbs:Int)*b.1) (fit:∀T∈blk L u v,Fits F T) :
  (blk L u v).map (λT=>scl e (gF F T))=(Nv σ t a b).map (λg=>scl (sh*F) (aff S lo hi g)):=by
 have s1:cxc L u<=0↔σ*(a.2-t)<=0:=by
  constructor
  ·intro h
   apply lT.mp;intro k
   have:=aY hc k
   have:=eD (dC he) h
   lia
  ·intro h
   apply lT.mp;intro k
   have:=aY he k
   have:=eD (dC hc) h
   lia
 have s2:cxc L u*cxc L v<0↔(a.2-t)*(b.2-t)<0:=by
  have e2:(e*e)*(cxc L u*cxc L v)=(c*c)*((a.2-t)*(b.2-t)):=by
   have:(e*e)*(cxc L u*cxc L v)=(e*cxc L u)*(e*cxc L v):=by grind
   rw[this,cu,cv]
   rcases hσ with rfl | rfl <;> grind
  have pe:=aY he he
  have pc:=aY hc hc
  constructor
  ·intro h
   apply dS.mp;intro k
   have:=fG pe h
   have:=fH (dC pc) k
   lia
  ·intro h
   apply dS.mp;intro k
   have:=fG pc h
   have:=fH (dC pe) k
   lia
 unfold scl at hu hv
 simp only[eK] at hu hv
 unfold blk Nv at *
 rw[cU,cU]
 congr 1
 ·by_cases h:cxc L u<=0
  ·rw[if_pos h,if_pos (s1.mp h)]
   have ft:=fit (up3 u) (by rw[if_pos h];simp)
   simp only[aT,bU]
   congr 1
   exact Jt ft (by show e*u.1=sh*1*_;rw[hu.1,pZ]) (by show e*u.2=sh*1*_;rw[hu.2,pZ])
  ·rw[if_neg h,if_neg (λk=>h (s1.mpr k))];rfl
 ·by_cases h:cxc L u*cxc L v<0
  ·have hk:=s2.mp h
   rw[if_pos h,if_pos hk]
   have ft:=fit (lP L u v) (by rw[if_pos h];simp)
   simp only[aT,bU]
   congr 1
   have ee:=ok hk
   have au:e*((cxc L u).natAbs:Int)=c*((a.2-t).natAbs:Int):=by rw[<-uZ he,cu,uZ hc,Mh hσ]
   have av:e*((cxc L v).natAbs:Int)=c*((b.2-t).natAbs:Int):=by rw[<-uZ he,cv,uZ hc,Mh hσ]
   have mid:((b.2-t).natAbs:Int)*(a.2-t)+((a.2-t).natAbs:Int)*(b.2-t)=0:=by
    rcases gS (a.2-t) 0 with k | k | k
    ·have:0<b.2-t:=by
      apply dS.mp;intro z
      have:=pT (dC k) z
      lia
     rw[show ((b.2-t).natAbs:Int)=b.2-t by lia,show ((a.2-t).natAbs:Int) = -(a.2-t) by lia];grind
    ·rw[k] at hk;lia
    ·have:b.2-t<0:=by
      apply dS.mp;intro z
      have:=fH (dC k) z
      lia
     rw[show ((b.2-t).natAbs:Int) = -(b.2-t) by lia,show ((a.2-t).natAbs:Int)=a.2-t by lia];grind
   have ex:lP L u v=(((cxc L v).natAbs:Int)*u.1+((cxc L u).natAbs:Int)*v.1,((cxc L v).natAbs:Int)*u.2+((cxc L u).natAbs:Int)*v.2,((cxc L v).natAbs:Int)*1+((cxc L u).natAbs:Int)*1):=rfl
   generalize ((cxc L u).natAbs:Int)=U at *
   generalize ((cxc L v).natAbs:Int)=V at *
   generalize ha':((a.2-t).natAbs:Int)=α at *
   generalize hb':((b.2-t).natAbs:Int)=β at *
   have g2:(gx t a b).2=t:=rfl
   have q1:e*(V*u.1+U*v.1)=sh*(V*1+U*1)*((gx t a b).1*S):=by
    refine cH (a:=e) (by lia) ?_
    have l:e*(e*(V*u.1+U*v.1))=(e*V)*(e*u.1)+(e*U)*(e*v.1):=by grind
    have r:e*(sh*(V*1+U*1)*((gx t a b).1*S))=sh*((e*V)+(e*U))*((gx t a b).1*S):=by grind
    rw[l,r,hu.1,hv.1,au,av]
    unfold aff;dsimp only
    have:sh*(c*β+c*α)*((gx t a b).1*S)=sh*c*S*((α+β)*(gx t a b).1):=by grind
    rw[this,ee];grind
   have q2:e*(V*u.2+U*v.2)=sh*(V*1+U*1)*((gx t a b).1*lo+t*hi):=by
    refine cH (a:=e) (by lia) ?_
    have l:e*(e*(V*u.2+U*v.2))=(e*V)*(e*u.2)+(e*U)*(e*v.2):=by grind
    have r:e*(sh*(V*1+U*1)*((gx t a b).1*lo+t*hi))=sh*((e*V)+(e*U))*((gx t a b).1*lo+t*hi):=by grind
    rw[l,r,hu.2,hv.2,au,av]
    unfold aff;dsimp only
    have:sh*(c*β+c*α)*((gx t a b).1*lo+t*hi)=sh*c*lo*((α+β)*(gx t a b).1)+sh*c*hi*((α+β)*t):=by grind
    rw[this,ee]
    have m2:(α+β)*t=β*a.2+α*b.2:=by grind
    rw[m2];grind
   rw[ex] at ft ⊢
   exact Jt ft q1 (by show _=sh*(V*1+U*1)*((gx t a b).1*lo+(gx t a b).2*hi);rw[g2];exact q2)
  ·rw[if_neg h,if_neg (λk=>h (s2.mpr k))];rfl
theorem Dq (he:0<e) (hc:0<c) (hσ:σ=1\/σ = -1):∀(ps:List (Pt × Pt)),(∀p∈ps,scl e p.1=scl sh (aff S lo hi p.2)/\e*cxc L p.1=c*(σ*(p.2.2-t)))->gok t (ps.map (·.2))=true->(∀T∈Pl L (ps.map (·.1)),Fits F T) ->
  (Pl L (ps.map (·.1))).map (λT=>scl e (gF F T))=(gPl σ t (ps.map (·.2))).map (λg=>scl (sh*F) (aff S lo hi g))
 | [],_,_,_=>rfl
 | [_],_,_,_=>rfl
 | p::q::r,h,g,f=>by
  simp only[aT] at g f ⊢
  unfold gok at g
  rw[fC] at g
  show (blk L p.1 q.1++Pl L (q.1::r.map (·.1))).map _=(Nv σ t p.2 q.2++gPl σ t (q.2::r.map (·.2))).map _
  rw[cU,cU]
  have f':∀T∈blk L p.1 q.1++Pl L (q.1::r.map (·.1)),Fits F T:=f
  obtain⟨p1,p2⟩:=h p (by simp)
  obtain⟨q1,q2⟩:=h q (by simp)
  rw[Ig he hc hσ p1 q1 p2 q2 (λk=>by
   rcases pO _ _ |>.mp g.1 with z | z
   ·exact absurd k (of_decide_eq_true z)
   ·exact of_decide_eq_true z) λT hT=>f' T (by simp[hT])]
  congr 1
  have:=Dq he hc hσ (q::r) (λx hx=>h x (by simp only[aK] at hx ⊢;exact .inr hx)) (by simpa using g.2) (λT hT=>f' T (by simp only[aT] at hT;simp[hT]))
  simpa only[aT] using this
end
end K36
namespace K36
open K34 K33
def Xc (P:List Pt):List (List Pt):=(dM (P.length+1)).map λk=>P.drop k++P.take k
theorem Qa {P P':List Pt} (h:Rot P P'):P'∈Xc P:=by
 obtain⟨X,Y,rfl,rfl⟩:=h
 refine cB.mpr ⟨X.length,gG.mpr (by simp;lia),?_⟩
 simp
def Xb (A B:List Pt):Bool:=(dM (A.length+1)).any λk=>decide (B=A.drop k++A.take k)
theorem Pz {A B:List Pt} (h:Xb A B=true):Rot A B:=by
 obtain⟨k,_,e⟩:=rN.mp h
 have e:=of_decide_eq_true e
 exact⟨A.take k,A.drop k,(gB k A).symm,e⟩
def PQ:List Pt->List (Pt × Pt)
 | []=>[]
 | [_]=>[]
 | a::b::r=>(a,b)::PQ (b::r)
theorem AI:∀{l:List Pt} {a b:Pt},Nxt l a b->(a,b)∈PQ l
 | l,a,b,⟨[],r,e⟩=>by subst e;exact cF
 | l,a,b,⟨[x],r,e⟩=>by subst e;exact aW _ (AI ⟨[],r,rfl⟩)
 | l,a,b,⟨x::y::t,r,e⟩=>by subst e;exact aW _ (AI ⟨y::t,r,rfl⟩)
def Es (P:List Pt):Bool:=decide (3<=P.length) && decide P.Nodup && (PQ (P++P.take 1)).all λp=>P.all λq=>decide (q=p.1) || decide (q=p.2) || decide (0<cQ p.1 p.2 q)
theorem LH {P:List Pt} (h:Es P=true):Cvx P:=by
 unfold Es at h
 simp only[fC,decide_eq_true_eq] at h
 refine⟨h.1.1,h.1.2,λa b hab q hq n1 n2=>?_⟩
 have:=jH.mp (jH.mp h.2 _ (AI hab)) q hq
 simp only[pO,decide_eq_true_eq] at this
 rcases this with (z | z) | z
 ·exact absurd z n1
 ·exact absurd z n2
 ·exact z
def pK:List (List Pt):=[[(0,0),(24,0),(24,24),(0,24)],[(0,0),(24,0),(24,24)],[(0,0),(24,24),(0,24)],[(0,0),(24,0),(0,24)],[(24,0),(24,24),(0,24)],[(0,0),(8,0),(8,24),(0,24)],[(8,0),(24,0),(24,24),(8,24)]]
def pA:List Int:=[3,6,9,12,15,18,21]
def chk (σ t:Int) (P:List Pt):Bool:=Es P && Es (lU σ t P) && decide ((0,0)∈P.map λa:Pt=>((0:Int),a.2)) && decide ((0,24)∈P.map λa:Pt=>((0:Int),a.2)) && (Xc P).all λP'=>gok t (P'++P'.take 1) && Xb (lU σ t P) (lU σ t P')
theorem Na:∀P∈pK,∀t∈pA,chk 1 t P=true/\chk (-1) t P=true:=by decide +kernel
theorem ID {σ t:Int} (hσ:σ=1\/σ = -1) {P:List Pt} (hP:P∈pK) (ht:t∈pA):(Cvx P/\Cvx (lU σ t P))/\((∃a∈P,a.2=0)/\∃a∈P,a.2=24)/\∀P',Rot P P'->gok t (P'++P'.take 1)=true/\Rot (lU σ t P) (lU σ t P'):=by
 have c:chk σ t P=true:=by
  obtain⟨a,b⟩:=Na P hP t ht
  rcases hσ with rfl | rfl
  ·exact a
  ·exact b
 unfold chk at c
 simp only[fC,decide_eq_true_eq] at c
 obtain⟨⟨⟨⟨c1,c2⟩,c3⟩,c4⟩,c5⟩:=c
 refine⟨⟨LH c1,LH c2⟩,⟨?_,?_⟩,λP' r=>?_⟩
 ·obtain⟨a,ha,e⟩:=cB.mp c3
  exact⟨a,ha,by simpa using congrArg Prod.snd e⟩
 ·obtain⟨a,ha,e⟩:=cB.mp c4
  exact⟨a,ha,by simpa using congrArg Prod.snd e⟩
 ·have:=jH.mp c5 P' (Qa r)
  rw[fC] at this
  exact⟨this.1,Pz this.2⟩
theorem HC {t:Int} (h:t∈pA):0<t/\t<24:=by
 unfold pA at h
 simp only[aK,fS,or_false] at h
 lia
section
variable {L:CLine} {e sh sh' c σ t S lo hi:Int} {P cs zs:List Pt}
theorem JQ {A:List Pt} (T0:Told e A sh cs):(∀z∈cs,∃a∈A,scl e z=scl sh a)/\∀a∈A,∃z∈cs,scl e z=scl sh a:=by
 obtain⟨A',r,eq⟩:=T0.ring
 constructor
 ·intro z hz
  have:scl e z∈A'.map (scl sh):=by rw[<-eq];exact eI hz
  obtain⟨a,ha,ee⟩:=cB.mp this
  exact⟨a,(r.mem a).mpr ha,ee.symm⟩
 ·intro a ha
  have:scl sh a∈cs.map (scl e):=by rw[eq];exact eI ((r.mem a).mp ha)
  obtain⟨z,hz,ee⟩:=cB.mp this
  exact⟨z,hz,ee⟩
theorem Gm (he:0<e) (hc:0<c) (hσ:σ=1\/σ = -1) (hS:0<S) (hh:0<hi) (hP:P∈pK) (ht:t∈pA) (h0:0<sh) (T0:Told e (P.map (aff S lo hi)) sh cs)
  (cx:∀z a,scl e z=scl sh (aff S lo hi a)->e*cxc L z=c*(σ*(a.2-t))) (h:PartOf L sh cs sh' zs):Told e ((lU σ t P).map (aff S lo hi)) sh' zs:=by
 obtain⟨_,_,gk⟩:=ID hσ hP ht
 obtain⟨F,m,z,T,hF,fit,rot,least,cz,N,_⟩:=h
 have T1:Told (sh*F) ((OJ L cs).map (gF F)) sh' zs:=⟨z,T,m,rot,least,N⟩
 obtain⟨A',r,eq⟩:=T0.ring
 obtain⟨P',r',rfl⟩:=Rot.mapOf r
 obtain⟨g1,g2⟩:=gk P' r'
 have len:cs.length=P'.length:=by have:=congrArg fJ eq;simpa using this
 have ef:(sH cs P').map (·.1)=cs:=List.map_fst_zip (by lia)
 have es:(sH cs P').map (·.2)=P':=HR (by lia)
 have rel:∀p∈sH cs P',scl e p.1=scl sh (aff S lo hi p.2)/\e*cxc L p.1=c*(σ*(p.2.2-t)):=by
  intro p hp
  obtain⟨i,hi',ei⟩:=eQ hp
  have hi1:i<cs.length:=by simp at hi';lia
  have hi2:i<P'.length:=by lia
  have e1:p=(cs[i],P'[i]):=by rw[<-ei];simp
  have e2:scl e (cs[i])=scl sh (aff S lo hi (P'[i])):=by
   have:=congrArg (λl=>l[i]?) eq
   simpa [hi1,hi2] using this
  rw[e1]
  exact⟨e2,cx _ _ e2⟩
 have key:=Dq (L:=L) (sh:=sh) (t:=t) (F:=F) he hc hσ (sH cs P'++(sH cs P').take 1) (λp hp=>by
  rcases cY.mp hp with h | h
  ·exact rel p h
  ·exact rel p (jS h)) (by rw[cU,jN,es];exact g1) (by rw[cU,jN,ef];exact fit)
 rw[cU,jN,cU,jN,ef,es] at key
 have nd:((OJ L cs).map (gF F)).Nodup:=by
  obtain⟨X,Y,e1,e2⟩:=rot
  have:=cz.nodup
  rw[e2] at this
  rw[e1]
  rw[qM] at this ⊢
  exact⟨this.2.1,this.1,λa ha b hb k=>this.2.2 b hb a ha k.symm⟩
 have ne:(lU σ t P').map (aff S lo hi)≠[]:=by
  intro k
  have k2:lU σ t P'=[]:=pD.mp k
  have:=key
  rw[show gPl σ t (P'++P'.take 1)=lU σ t P' from rfl,k2] at this
  have k3:OJ L cs=[]:=pD.mp this
  obtain⟨X,Y,e1,e2⟩:=rot
  rw[k3] at e1
  have e1:([]:List Pt)=X++Y:=e1
  have:=xE.mp e1.symm
  rw[this.1,this.2] at e2;simp at e2
 have T2:Told e ((lU σ t P').map (aff S lo hi)) sh' zs:=UU T1 (aY h0 hF) he ne (by rw[dD,dD];exact key) nd
 exact T2.rot (g2.symm.map (aff S lo hi))
end
end K36
namespace K36
open K34 K33
structure Fm (s h:Pt):Prop where
 ls:Lean34 s
 h1:0<h.1
 b1:BL 10 h.1
 h2:0<h.2
 b2:BL 10 h.2
abbrev afF (s h:Pt) (z:Pt):Pt:=aff (s.2*h.2) (s.1*h.2) (h.1*s.2) z
abbrev eF (s h:Pt):Int:=24*(s.2*h.2)
def Gin (P:List Pt):Prop:=∀a∈P,(0<=a.1/\a.1<=24)/\0<=a.2/\a.2<=24
def Gp (s h:Pt) (P:List Pt) (sh:Int) (cs:List Pt):Prop:=Told (eF s h) (P.map (afF s h)) sh cs
section
variable {s h:Pt} {P cs:List Pt} {sh:Int}
theorem Fm.sp (f:Fm s h):0<s.2*h.2:=aY f.ls.pos f.h2
theorem Fm.hp (f:Fm s h):0<h.1*s.2:=aY f.h1 f.ls.pos
theorem Fm.ep (f:Fm s h):0<eF s h:=aY (by decide) f.sp
theorem Vc {x:Int} (h0:0<=x) (h1:x<=24):BL 5 x:=(BL.const (n:=5) (i:=24) (by decide)).le (by lia)
theorem AX {e:Int} {A zs:List Pt} (he:0<e) (T:Told e A sh zs):0<sh:=by
 obtain⟨w,T',m,_,_,N⟩:=T
 have:=N.sh_eq
 rw[this] at he
 exact EQ N.mpos he
theorem Qk {e:Int} {A zs:List Pt} {n k:Nat} (he:0<e) (T:Told e A sh zs) (be:BL k e) (bA:∀a∈A,BL n a.1/\BL n a.2):BL k sh/\(∀z∈zs,BL n z.1/\BL n z.2)/\zs.length=A.length:=by
 obtain⟨w,T',m,r,_,N⟩:=T
 have mp:=N.mpos
 have le:∀x:Int,x.natAbs<=(m*x).natAbs:=λx=>by
  rw[iY]
  exact Nat.le_mul_of_pos_left _ (by lia)
 refine⟨be.le (by rw[N.sh_eq];exact le sh),λz hz=>?_,?_⟩
 ·have mz:((m*z.1,m*z.2):Pt)∈A:=(r.mem _).mpr (by rw[N.cs_eq];exact cB.mpr ⟨z,hz,rfl⟩)
  obtain⟨c1,c2⟩:=bA _ mz
  exact⟨c1.le (le _),c2.le (le _)⟩
 ·obtain⟨X,Y,e1,e2⟩:=r
  have l1:=congrArg fJ e1
  have l2:=congrArg fJ e2
  have l3:=congrArg fJ N.cs_eq
  simp at l1 l2 l3
  lia
theorem Eb {e:Int} {A zs:List Pt} (he:0<e) (T:Told e A sh zs) (c:Cvx A):IsPc sh zs:=by
 have hp:=AX he T
 obtain⟨w,T',m,r,l,N⟩:=T
 have ec:w::T'=zs.map (scl m):=N.cs_eq
 refine⟨hp,Cvx.unscl N.mpos (by rw[<-ec];exact c.rot r),?_,N.cop⟩
 cases zs with
 | nil=>simp at ec
 | cons z' T2 =>
  simp only[aT,iO] at ec
  refine⟨z',T2,rfl,λq hq hlt=>?_⟩
  refine l (scl m q) (by rw[ec.2];exact eI hq) ?_
  rw[ec.1];exact (UQ N.mpos).mpr hlt
theorem Gp.facts (f:Fm s h) (g:Gin P) (c:Cvx P) (T:Gp s h P sh cs):IsPc sh cs/\BL 40 sh/\(∀z∈cs,BL 70 z.1/\BL 70 z.2)/\cs.length=P.length:=by
 have bS:BL 22 (s.2*h.2):=(f.ls.bot.mul f.b2).mono (by decide)
 have bl:BL 50 (s.1*h.2):=(f.ls.top.mul f.b2).mono (by decide)
 have bh:BL 22 (h.1*s.2):=(f.b1.mul f.ls.bot).mono (by decide)
 have be:BL 40 (eF s h):=((BL.const (n:=5) (i:=24) (by decide)).mul bS).mono (by decide)
 obtain⟨q1,q2,q3⟩:=Qk f.ep T be (n:=70) (λa ha=>by
  obtain⟨z,hz,rfl⟩:=cB.mp ha
  obtain⟨⟨x0,x1⟩,y0,y1⟩:=g z hz
  have bx:=Vc x0 x1
  have by':=Vc y0 y1
  exact⟨(bx.mul bS).mono (by decide),((bx.mul bl).add (by'.mul bh)).mono (by decide)⟩)
 exact⟨Eb f.ep T (SS f.sp f.hp c),q1,q2,by rw[q3,cI]⟩
structure Row (h lh:Pt) (t:Int):Prop where
 pos:0<lh.2
 worth:24*(lh.1*h.2)=t*(h.1*lh.2)
 b1:BL 20 lh.1
 b2:BL 20 lh.2
abbrev uO (s lh:Pt):Line:=⟨-s.1*lh.2,s.2*lh.2,s.2*lh.1⟩
theorem WA {lh:Pt} {t:Int} (r:Row h lh t) {z a:Pt} (e:scl (eF s h) z=scl sh (afF s h a)):eF s h*exc (uO s lh) z sh=s.2*s.2*sh*lh.2*h.1*(a.2-t):=by
 unfold scl afF aff at e
 simp only[eK] at e
 obtain⟨e1,e2⟩:=e
 have w:=r.worth
 unfold exc uO eF at *
 dsimp only at *
 have l:24*(s.2*h.2)*(-s.1*lh.2*z.1+s.2*lh.2*z.2-s.2*lh.1*sh) = -s.1*lh.2*(24*(s.2*h.2)*z.1)+s.2*lh.2*(24*(s.2*h.2)*z.2)-s.2*s.2*sh*(24*(lh.1*h.2)):=by grind
 rw[l,e1,e2,w]
 grind
def LG:FD:=λds Q=>∃s lh:Pt,ds=[pt s,pt lh]/\(BL 100 s.1/\BL 100 s.2/\BL 100 lh.1/\BL 100 lh.2)/\Q (ln (uO s lh))
theorem Fr:∀ds Q,LG ds Q->ds.length=2:=by rintro ds Q ⟨_,_,rfl,_⟩;rfl
theorem Bb:∀ds Q,LG ds Q->yR { nx:=λ_=>Q .non,rt:=Q } (dW ["lean","height"] ds):=by
 rintro ds Q ⟨s,lh,rfl,⟨b1,b2,b3,b4⟩,q⟩
 rw[cN 0 rfl]
 unfold yR
 walk_at "rd"
 exact⟨b1.neg.mulOk b4,b2.mulOk b4,b2.mulOk b3,q⟩
end
def SK:FD:=λds Q=>∃(s h lh:Pt) (t sh:Int) (P cs:List Pt),ds=[pc sh cs,ln (uO s lh)]/\(Fm s h/\Row h lh t)/\(P∈pK/\t∈pA)/\Gp s h P sh cs /\
 ∀sh1 zs1 sh2 zs2,Gp s h (lU 1 t P) sh1 zs1->Gp s h (lU (-1) t P) sh2 zs2->Q (.tup [pc sh1 zs1,pc sh2 zs2])
theorem Ke:∀ds Q,SK ds Q->ds.length=2:=by rintro ds Q ⟨_,_,_,_,_,_,_,rfl,_⟩;rfl
theorem XI:∀P∈pK,Gin P:=by unfold Gin;decide +kernel
theorem Da:∀P∈pK,∀t∈pA,Gin (lU 1 t P)/\Gin (lU (-1) t P):=by unfold Gin;decide +kernel
theorem part_of {L:CLine} {s h:Pt} {sh c σ t:Int} {P cs:List Pt} (f:Fm s h) (hc:0<c) (hσ:σ=1\/σ = -1) (hP:P∈pK) (ht:t∈pA) (T0:Gp s h P sh cs)
  (cx:∀z a,scl (eF s h) z=scl sh (afF s h a)->eF s h*cxc L z=c*(σ*(a.2-t))) {d:D} (r:PartR L sh cs d):∃sh' zs,d=pc sh' zs/\Gp s h (lU σ t P) sh' zs:=by
 have h0:=AX f.ep T0
 have ep:=f.ep
 obtain⟨_,⟨⟨a0,m0,z0⟩,⟨a1,m1,z1⟩⟩,_⟩:=ID hσ hP ht
 obtain⟨t0,t1⟩:=HC ht
 obtain⟨_,back⟩:=JQ T0
 obtain⟨u0,n0,e0⟩:=back _ (eI (f:=afF s h) m0)
 obtain⟨u1,n1,e1⟩:=back _ (eI (f:=afF s h) m1)
 have c0:=cx _ _ e0
 have c1:=cx _ _ e1
 rw[z0] at c0
 rw[z1] at c1
 have sgn:∀{x y:Int},eF s h*x=c*y->(0<y->0<x)/\(y<0->x<0):=λ{x y} e=>by
  constructor
  ·intro hy
   apply dS.mp;intro k
   have:=aY hc hy
   have:=eD (dC ep) k
   lia
  ·intro hy
   apply dS.mp;intro k
   have:=fG hc hy
   have:=fH (dC ep) k
   lia
 cases r with
 | whole k =>
  exfalso
  rcases hσ with rfl | rfl
  ·have:=(sgn c1).1 (by lia);have:=k u1 n1;lia
  ·have:=(sgn c0).1 (by lia);have:=k u0 n0;lia
 | nothing k _ =>
  exfalso
  rcases hσ with rfl | rfl
  ·have:=(sgn c0).2 (by lia);have:=k u0 n0;lia
  ·have:=(sgn c1).2 (by lia);have:=k u1 n1;lia
 | part _ _ k=>exact⟨_,_,rfl,Gm ep hc hσ f.sp f.hp hP ht h0 T0 cx k⟩
theorem Gs:∀ds Q,SK ds Q->Lw SN { nx:=λ_=>Q .non,rt:=Q } (dW ["piece","line","opposite"] ds):=by
 rintro ds Q ⟨s,h,lh,t,sh,P,cs,rfl,⟨f,r⟩,⟨hP,ht⟩,T0,q⟩
 obtain⟨⟨cP,_⟩,_⟩:=ID (σ:=1) (.inl rfl) hP ht
 obtain⟨ip,bs,bz,lz⟩:=Gp.facts f (XI P hP) cP T0
 have bl:(uO s lh).BLn 2000:=⟨(f.ls.top.neg.mul r.b2).mono (by decide),(f.ls.bot.mul r.b2).mono (by decide),(f.ls.bot.mul r.b1).mono (by decide)⟩
 have len4:P.length<=4:=by
  have:∀P∈pK,P.length<=4:=by decide
  exact this P hP
 have bE:∀w∈cs,BL 2000 (exc (uO s lh) w sh):=λw hw=>by
  obtain⟨w1,w2⟩:=bz w hw
  exact ((((f.ls.top.neg.mul r.b2).mul w1).add ((f.ls.bot.mul r.b2).mul w2)).sub ((f.ls.bot.mul r.b1).mul bs)).mono (by decide)
 obtain⟨l,hl⟩:∃l,l=uO s lh:=⟨_,rfl⟩
 rw[<-hl] at bl bE ⊢
 have b10:l.BLn 10000:=⟨bl.1.mono (by decide),bl.2.1.mono (by decide),bl.2.2.mono (by decide)⟩
 have cp:0<s.2*s.2*sh*lh.2*h.1:=aY (aY (aY (aY f.ls.pos f.ls.pos) ip.pos) r.pos) f.h1
 rw[cN 1 rfl]
 unfold Lw
 simp only[iQ,Bj,aT,bU,bG,cC]
 obtain⟨lo,hlo⟩:∃lo:Line,lo=⟨-l.a,-l.b,-l.c⟩:=⟨_,rfl⟩
 refine cR (λρ=>ρ=[sdV (pc sh cs),sdV (ln l),sdV (ln lo)]) (λK hK=>?_) ?_
 ·walk_at "rd"
  rw[hlo] at hK
  exact hK _ rfl
 rintro ρ rfl
 have ex:∀w,exc lo w sh = -exc l w sh:=λw=>by rw[hlo];unfold exc;dsimp only;grind
 have bo:lo.BLn 10000:=by rw[hlo];exact⟨b10.1.neg,b10.2.1.neg,b10.2.2.neg⟩
 generalize hP':pc sh cs=PD
 generalize hL:ln l=LD
 generalize hO:ln lo=OD
 walk_at "rd"
 have hB:∀w∈cs,BL 2000 w.1/\BL 2000 w.2/\BL 2000 (exc l w sh):=λw hw=>⟨(bz w hw).1.mono (by decide),(bz w hw).2.mono (by decide),bE w hw⟩
 refine⟨l,sh,cs,by rw[hP',hL],⟨ip.pos,bs.mono (by decide),b10⟩,hB,⟨ip.cvx,by lia⟩,λd1 r1=>?_⟩
 refine⟨lo,sh,cs,by rw[hP',hO],⟨ip.pos,bs.mono (by decide),bo⟩,λw hw=>?_,⟨ip.cvx,by lia⟩,λd2 r2=>?_⟩
 ·obtain⟨x,y,z⟩:=hB w hw
  exact⟨x,y,by rw[ex];exact z.neg⟩
 ·obtain⟨sh1,zs1,rfl,g1⟩:=part_of (L:=JZ l sh) f cp (.inl rfl) hP ht T0 (λz a e=>by rw[Ip,hl,WA r e,JA]) r1
  obtain⟨sh2,zs2,rfl,g2⟩:=part_of (L:=JZ lo sh) f cp (.inr rfl) hP ht T0 (λz a e=>by rw[Ip,ex,hl,Int.mul_neg,WA r e];grind) r2
  exact q sh1 zs1 sh2 zs2 g1 g2
end K36
namespace K36
open K34 K33
abbrev dnG (t:Int) (a:Pt):Pt:=(a.1,a.2-t)
structure Dn (h:Pt) (t:Int) (dn:Pt):Prop where
 pos:0<dn.2
 worth:24*(dn.1*h.2) = -(t*(h.1*dn.2))
 b1:BL 30 dn.1
 b2:BL 30 dn.2
structure MvF (m:Mv):Prop where
 sg:m.1=1\/m.1 = -1
 q0:0<m.2.1.2
 v0:0<m.2.2.2
 cx:cD m.2.1.1 m.2.1.2=1
 cy:cD m.2.2.1 m.2.2.2=1
 bp:BL 400 m.2.1.1
 bq:BL 400 m.2.1.2
 bu:BL 400 m.2.2.1
 bv:BL 400 m.2.2.2
structure MvS (dn:Pt) (m m':Mv):Prop where
 sg:m'.1=m.1
 x:m'.2.1.1*m.2.1.2=m.2.1.1*m'.2.1.2
 y:m'.2.2.1*(dn.2*m.2.2.2)=(m.1 * -dn.1*m.2.2.2+m.2.2.1*dn.2)*m'.2.2.2
theorem Gz {s h dn:Pt} {t sh0 sh:Int} {P cs zs:List Pt} (f:Fm s h) (d:Dn h t dn) (cP:Cvx P) (T0:Gp s h P sh0 cs) (p:PushOf sh0 cs 1 0 1 dn.1 dn.2 sh zs):Gp s h (P.map (dnG t)) sh zs:=by
 have h0:=AX f.ep T0
 obtain⟨κ,r,w,⟨pk,er,ew⟩,T1⟩:=Ha p
 obtain⟨A',rr,eq⟩:=T0.ring
 obtain⟨P',r',rfl⟩:=Rot.mapOf rr
 have r0:r=0:=by rw[qI] at er;lia
 subst r0
 have key:eF s h*w = -(κ*sh0*(t*(h.1*s.2))):=by
  refine gY (a:=dn.2) (by have:=d.pos;lia) ?_
  have wo:=d.worth
  have l:eF s h*w*dn.2=s.2*(24*(dn.1*h.2))*(κ*sh0):=by
   have:eF s h*w*dn.2=eF s h*(w*dn.2):=by grind
   rw[this,ew];unfold eF;grind
  rw[l,wo];grind
 have cz:=(Eb f.ep T0 (SS f.sp f.hp cP)).cvx
 have mvi:∀a b:Pt,L2.R2.mv (1*κ) 0 w a=L2.R2.mv (1*κ) 0 w b->a=b:=λa b e=>Kq (by lia) e
 have nd:(cs.map (L2.R2.mv (1*κ) 0 w)).Nodup:=qK _ (λa b hn e=>hn (mvi a b e)) cz.nodup
 have ne:(P'.map (dnG t)).map (afF s h)≠[]:=by
  intro k
  have k1:=pD.mp (pD.mp k)
  have:=(r'.mem P.head!)
  have lp:=cP.len
  obtain⟨X,Y,e1,e2⟩:=r'
  rw[k1] at e2
  have:=xE.mp e2.symm
  rw[this.1,this.2] at e1
  rw[e1] at lp;simp at lp
 have T2:Told (eF s h) ((P'.map (dnG t)).map (afF s h)) sh zs:=by
  refine UU T1 (aY pk h0) f.ep ne ?_ nd
  rw[dD,dD,dD]
  have e2:∀z a,scl (eF s h) z=scl sh0 (afF s h a)->scl (eF s h) (L2.R2.mv (1*κ) 0 w z)=scl (κ*sh0) (afF s h (dnG t a)):=λz a e=>by
   unfold scl afF aff at e ⊢
   simp only[eK] at e
   unfold L2.R2.mv dnG
   refine lJ ?_ ?_
   ·dsimp only
    have:eF s h*(1*κ*z.1+0)=κ*(eF s h*z.1):=by grind
    rw[this,e.1];grind
   ·dsimp only
    have:eF s h*(1*κ*z.2+w)=κ*(eF s h*z.2)+eF s h*w:=by grind
    rw[this,e.2,key];grind
  have len:cs.length=P'.length:=by have:=congrArg fJ eq;simpa using this
  apply qL
  intro i
  rw[bJ,bJ]
  by_cases hi:i<cs.length
  ·have hi2:i<P'.length:=by lia
   rw[aF hi,aF hi2]
   have:=congrArg (λl=>l[i]?) eq
   have:scl (eF s h) (cs[i])=scl sh0 (afF s h (P'[i])):=by simpa [hi,hi2] using this
   simp only[nF,vL]
   exact congrArg some (e2 _ _ this)
  ·rw[gR (by lia),gR (by lia)];rfl
 unfold Gp
 exact T2.rot ((r'.symm.map (dnG t)).map (afF s h))
def SJ:FD:=λds Q=>∃(s h dn:Pt) (t sh:Int) (P cs:List Pt) (m:Mv),ds=[.tup [pc sh cs,mvD m],.tup [.int 1,.tup [.int 0,.int 1],pt dn]]/\(Fm s h/\Dn h t dn)/\(Gp s h P sh cs/\Cvx P/\Gin P/\P.length<=10)/\(MvF m/\BL 210 m.2.1.1/\BL 210 m.2.1.2/\BL 210 m.2.2.1/\BL 210 m.2.2.2) /\
 ∀sh' zs m',Gp s h (P.map (dnG t)) sh' zs->MvS dn m m'->MvF m'->Q (.tup [pc sh' zs,mvD m'])
theorem Kd:∀ds Q,SJ ds Q->ds.length=2:=by rintro ds Q ⟨_,_,_,_,_,_,_,_,rfl,_⟩;rfl
theorem Gr:∀ds Q,SJ ds Q->NY vX vZ rK { nx:=λ_=>Q .non,rt:=Q } (dW ["bit","move"] ds):=by
 rintro ds Q ⟨s,h,⟨d1,d2⟩,t,sh,P,cs,⟨sg,⟨p,q'⟩,u,v⟩,rfl,⟨f,d⟩,⟨T0,cP,gi,lp⟩,⟨mf,bp,bq,bu,bv⟩,q⟩
 obtain⟨ip,bs,bz,lz⟩:=Gp.facts f gi cP T0
 rw[cN 0 rfl]
 unfold NY mvD
 walk_at "rd"
 have q0:0<q':=mf.q0
 have v0:0<v:=mf.v0
 have dp:0<d2:=d.pos
 have bd1:BL 30 d1:=d.b1
 have bd2:BL 30 d2:=d.b2
 dsimp only at bp bq bu bv
 refine⟨sh,1,0,1,d1,d2,cs,rfl,⟨ip.pos,by decide,dp,.inl rfl⟩,⟨bs.mono (by decide),BL.const (by decide),bd2.mono (by decide),BL.const (by decide),bd1.mono (by decide)⟩,λz hz=>⟨(bz z hz).1.mono (by decide),(bz z hz).2.mono (by decide)⟩,ip.cvx,by lia,λsh' zs P'=>?_⟩
 refine⟨1,0,1,d1,d2,rfl,.inl rfl,⟨BL.const (by decide),bd1.mono (by decide)⟩,?_⟩
 have b1:BL 4000 (-1*0):=BL.const (by decide)
 have b2:BL 4000 (-1*d1):=by rw[show (-1*d1:Int) = -d1 by lia];exact bd1.neg.mono (by decide)
 refine⟨1,-1*0,1,-1*d1,d2,sg,p,q',u,v,rfl,⟨.inl rfl,mf.sg⟩,⟨by decide,dp,q0,v0⟩,⟨b1,BL.const (by decide),b2,bd2.mono (by decide),bp.mono (by decide),bq.mono (by decide),bu.mono (by decide),bv.mono (by decide)⟩,λP1 Q1 R1 W1 l1 l2=>?_⟩
 have bsg:BL 1 sg:=by rcases mf.sg with e | e <;> (rw[show sg=_ from e];exact BL.const (by decide))
 have e1:sg*(-1*0)*q'+p*1=p:=by grind
 have e2:1*q'=q':=by lia
 rw[e1,e2] at l1
 have bt:BL 400 (sg*(-1*d1)*v+u*d2):=by
  have e3:sg*(-1*d1)*v+u*d2=sg*(-d1)*v+u*d2:=by grind
  rw[e3]
  exact (((bsg.mul bd1.neg).mul bv).add (bu.mul bd2)).mono (by decide)
 refine q sh' zs (1*sg,(P1,Q1),(R1,W1)) (Gz f d cP T0 P') ⟨by dsimp only;lia,l1.worth,?_⟩ ⟨by have:=mf.sg;dsimp only at *;lia,l1.pos,l2.pos,l1.cop,l2.cop,(bp.mono (by decide):BL 400 _).le l1.lea,(bq.mono (by decide):BL 400 _).le l1.leb,bt.le l2.lea,((bd2.mul bv).mono (by decide):BL 400 _).le l2.leb⟩
 have:=l2.worth
 dsimp only at *
 rw[this];grind
def LC:FD:=λds Q=>∃(s h dn:Pt) (t sh:Int) (P cs:List Pt) (m:Mv),ds=[.tup [pc sh cs,mvD m],pt dn]/\(Fm s h/\Dn h t dn)/\(Gp s h P sh cs/\Cvx P/\Gin P/\P.length<=10)/\(MvF m/\BL 210 m.2.1.1/\BL 210 m.2.1.2/\BL 210 m.2.2.1/\BL 210 m.2.2.2) /\
 ∀sh' zs m',Gp s h (P.map (dnG t)) sh' zs->MvS dn m m'->MvF m'->Q (.tup [pc sh' zs,mvD m'])
theorem Fl:∀ds Q,LC ds Q->ds.length=2:=by rintro ds Q ⟨_,_,_,_,_,_,_,_,rfl,_⟩;rfl
theorem Ay:∀ds Q,LC ds Q->SA SJ { nx:=λ_=>Q .non,rt:=Q } (dW ["bit","height"] ds):=by
 rintro ds Q ⟨s,h,dn,t,sh,P,cs,m,rfl,h1,h2,h3,q⟩
 rw[cN 0 rfl]
 unfold SA
 walk_at "rd"
 exact⟨s,h,dn,t,sh,P,cs,m,rfl,h1,h2,h3,q⟩
end K36
namespace K36
open K34 K33
abbrev Bt:=List Pt × Int × List Pt × Mv
def btG (b:Bt):D:=.tup [pc b.2.1 b.2.2.1,mvD b.2.2.2]
structure BtOk (s h:Pt) (b:Bt):Prop where
 poly:b.1∈pK
 gp:Gp s h b.1 b.2.1 b.2.2.1
 mf:MvF b.2.2.2
 bp:BL 210 b.2.2.2.2.1.1
 bq:BL 210 b.2.2.2.2.1.2
 bu:BL 210 b.2.2.2.2.2.1
 bv:BL 210 b.2.2.2.2.2.2
inductive Spl (s h dn:Pt) (t:Int):List Bt->List Bt->List Bt->Prop
 | nil:Spl s h dn t [] [] []
 | cons {b:Bt} {bs l1 l2:List Bt} {sh1 sh2:Int} {zs1 zs2:List Pt} {m':Mv}:Gp s h (lU 1 t b.1) sh1 zs1->Gp s h ((lU (-1) t b.1).map (dnG t)) sh2 zs2->MvS dn b.2.2.2 m'->MvF m'->Spl s h dn t bs l1 l2 ->
   Spl s h dn t (b::bs) ((lU 1 t b.1,sh1,zs1,b.2.2.2)::l1) (((lU (-1) t b.1).map (dnG t),sh2,zs2,m')::l2)
theorem Spl.snoc {s h dn:Pt} {t:Int} {bs l1 l2:List Bt} (Sp:Spl s h dn t bs l1 l2) {b:Bt} {sh1 sh2:Int} {zs1 zs2:List Pt} {m':Mv} (g1:Gp s h (lU 1 t b.1) sh1 zs1) (g2:Gp s h ((lU (-1) t b.1).map (dnG t)) sh2 zs2) (ms:MvS dn b.2.2.2 m') (mf:MvF m') :
  Spl s h dn t (bs++[b]) (l1++[(lU 1 t b.1,sh1,zs1,b.2.2.2)]) (l2++[((lU (-1) t b.1).map (dnG t),sh2,zs2,m')]):=by
 induction Sp with
 | nil=>exact .cons g1 g2 ms mf .nil
 | cons a1 a2 a3 a4 _ ih=>exact .cons a1 a2 a3 a4 ih
theorem Spl.len {s h dn:Pt} {t:Int} {bs l1 l2:List Bt} (Sp:Spl s h dn t bs l1 l2):l1.length=bs.length/\l2.length=bs.length:=by
 induction Sp with
 | nil=>exact⟨rfl,rfl⟩
 | cons _ _ _ _ _ ih=>simp[ih.1,ih.2]
def BB:FD:=λds Q=>∃(s h lh:Pt) (t place:Int) (fs:List Pt) (bs:List Bt),ds=[.tup [.int place,pt h,.lst (bs.map btG)],pt lh,pts fs]/\(Fm s h/\Row h lh t/\t∈pA)/\(0<=place/\fs[place.toNat]? = some s)/\(bs.length<=4/\∀b∈bs,BtOk s h b) /\
 ∀dn l1 l2 up,Dn h t dn->Spl s h dn t bs l1 l2->Low (h.1*lh.2-lh.1*h.2) (h.2*lh.2) up.1 up.2->Q (.tup [.tup [.int place,pt lh,.lst (l1.map btG)],.tup [.int place,pt up,.lst (l2.map btG)]])
theorem Fs:∀ds Q,BB ds Q->ds.length=3:=by rintro ds Q ⟨_,_,_,_,_,_,_,rfl,_⟩;rfl
theorem WG:∀P∈pK,∀t∈pA,(lU (-1) t P).length<=10:=by decide +kernel
theorem Td {z:Pt}:NoL (pt z):=.cons .int (.cons .int .nil)
theorem Bc:∀ds Q,BB ds Q->OC SK LC BA LG { nx:=λ_=>False,rt:=Q } (dW ["box","height","leans","line","down","lower","upper","piece","move","halves"] ds):=by
 rintro ds Q ⟨s,h,lh,t,place,fs,bs,rfl,⟨f,r,ht⟩,⟨p0,hs⟩,⟨lb,hb⟩,q⟩
 have t0:=HC ht
 rw[cN 7 rfl]
 unfold OC
 simp only[iQ,Ww,aT,bU,bG,cC]
 generalize hB:D.tup [.int place,pt h,.lst (bs.map btG)]=BD
 generalize hF:pts fs=FD'
 refine HF (λρ=>ρ=[sdV BD,sdV (pt lh),sdV FD',sdV (ln (uO s lh)),none,none,none,none,none,none]) (λK hK=>?_) ?_
 ·rw[<-hB,<-hF] at hK ⊢
  walk_at "rd"
  refine Ll (by lia) (by have:=(aX.mp hs).1;lia) λg hg=>?_
  rw[hs] at hg;cases hg
  exact⟨s,lh,rfl,⟨f.ls.top.mono (by decide),f.ls.bot.mono (by decide),r.b1.mono (by decide),r.b2.mono (by decide)⟩,hK _ rfl⟩
 rintro ρ rfl
 refine HF (λρ=>∃dn,Dn h t dn/\ρ=[sdV BD,sdV (pt lh),sdV FD',sdV (ln (uO s lh)),sdV (pt dn),none,none,none,none,none]) (λK hK=>?_) ?_
 ·walk_at "rd"
  refine⟨0,1,lh.1,lh.2,rfl,⟨by decide,r.pos⟩,⟨BL.const (by decide),BL.const (by decide),r.b1.mono (by decide),r.b2.mono (by decide)⟩,λp q' l=>?_⟩
  refine hK _ ⟨(p,q'),⟨l.pos,?_,?_,?_⟩,rfl⟩
  ·have w:=l.worth
   have rw':=r.worth
   refine gY (a:=lh.2) (by have:=r.pos;lia) ?_
   dsimp only
   have e1:24*(p*h.2)*lh.2=24*h.2*(p*(1*lh.2)):=by grind
   have e2:-(t*(h.1*q'))*lh.2 = -(q'*(t*(h.1*lh.2))):=by grind
   rw[e1,e2,w,<-rw'];grind
  ·have:BL 30 (0*lh.2-lh.1*1):=by rw[show 0*lh.2-lh.1*1 = -lh.1 by lia];exact r.b1.neg.mono (by decide)
   exact this.le l.lea
  ·have:BL 30 (1*lh.2):=by rw[JA];exact r.b2.mono (by decide)
   exact this.le l.leb
 rintro ρ ⟨dn,hd,rfl⟩
 refine HF (λρ=>ρ=[sdV BD,sdV (pt lh),sdV FD',sdV (ln (uO s lh)),sdV (pt dn),some (.own []),none,none,none,none]) (λK hK=>?_) ?_
 ·walk_at "rd";exact hK _ rfl
 rintro ρ rfl
 refine HF (λρ=>ρ=[sdV BD,sdV (pt lh),sdV FD',sdV (ln (uO s lh)),sdV (pt dn),some (.own []),some (.own []),none,none,none]) (λK hK=>?_) ?_
 ·walk_at "rd";exact hK _ rfl
 rintro ρ rfl
 refine HF (λρ=>∃l1 l2 u v w,Spl s h dn t bs l1 l2/\ρ=[sdV BD,sdV (pt lh),sdV FD',sdV (ln (uO s lh)),sdV (pt dn),some (.own (l1.map btG)),some (.own (l2.map btG)),u,v,w]) (λK hK=>?_) ?_
 ·rw[<-hB] at hK ⊢
  simp only[oW,riL,r2,aL,rC,uL,aJ]
  refine lD (λys ρ=>∃(dn' td:List Bt) (l1 l2:List Bt) (u v w:Option L2.R2.S),bs=dn'++td/\ys=td.map btG/\Spl s h dn t dn' l1 l2/\ρ=[sdV (.tup [.int place,pt h,.lst (bs.map btG)]),sdV (pt lh),sdV FD',sdV (ln (uO s lh)),sdV (pt dn),some (.own (l1.map btG)),some (.own (l2.map btG)),u,v,w]) ?_ ?_ _ _ ⟨[],bs,[],[],none,none,none,rfl,rfl,.nil,rfl⟩
  ·rintro y ys ρ ⟨dn',td,l1,l2,u,v,w,ec,ey,Sp,rfl⟩ F hr hbk hn _
   cases td with
   | nil=>cases ey
   | cons b td =>
    cases ey
    have mb:b∈bs:=by rw[ec];simp
    obtain⟨bpoly,bgp,bmf,bp,bq,bu,bv⟩:=hb b mb
    have ll:=Sp.len
    have le:dn'.length+(td.length+1)<=4:=by have:=congrArg fJ ec;simp at this;lia
    obtain⟨⟨_,c2⟩,_⟩:=ID (σ:=-1) (.inr rfl) bpoly ht
    obtain⟨_,g2⟩:=Da b.1 bpoly t ht
    unfold DH btG
    simp only[rJ,iH,rH,fB,bZ,eW,true_and,bQ,bP]
    refine cR (λρ=>∃sh1 zs1 sh2 zs2,(Gp s h (lU 1 t b.1) sh1 zs1/\Gp s h (lU (-1) t b.1) sh2 zs2)/\ρ=[sdV (.tup [.int place,pt h,.lst (bs.map btG)]),sdV (pt lh),sdV FD',sdV (ln (uO s lh)),sdV (pt dn),some (.own (l1.map btG)),some (.own (l2.map btG)),sdV (pc b.2.1 b.2.2.1),sdV (mvD b.2.2.2),sdV (.tup [pc sh1 zs1,pc sh2 zs2])]) (λK hK2=>?_) ?_
    ·simp only[eX,cV,aC,aV,cG,aJ,aR,bQ,bP]
     exact⟨s,h,lh,t,b.2.1,b.1,b.2.2.1,rfl,⟨f,r⟩,⟨bpoly,ht⟩,bgp,λsh1 zs1 sh2 zs2 a1 a2=>hK2 _ ⟨sh1,zs1,sh2,zs2,⟨a1,a2⟩,rfl⟩⟩
    rintro ρ ⟨sh1,zs1,sh2,zs2,⟨a1,a2⟩,rfl⟩
    refine cR (λρ=>ρ=[sdV (.tup [.int place,pt h,.lst (bs.map btG)]),sdV (pt lh),sdV FD',sdV (ln (uO s lh)),sdV (pt dn),some (.own ((l1++[(lU 1 t b.1,sh1,zs1,b.2.2.2)]).map btG)),some (.own (l2.map btG)),sdV (pc b.2.1 b.2.2.1),sdV (mvD b.2.2.2),sdV (.tup [pc sh1 zs1,pc sh2 zs2])]) (λK hK2=>?_) ?_
    ·simp only[kG,dX,r2,aL,rC,KC,RH,pI,vB,jP,aC,aV,cG,aJ,aR,bQ,bP,if_true,nX,bZ,eW]
     refine⟨sz2,sM (by simp;lia),hK2 _ ?_⟩
     rw[cU];rfl
    rintro ρ rfl
    simp only[kG,dX,r2,aL,rC,KC,RH,oD,vB,jP,cV,aC,aV,cG,aJ,aR,bQ,bP,if_true,nX,bZ,eW]
    refine⟨sz2,s,h,dn,t,sh2,lU (-1) t b.1,zs2,b.2.2.2,rfl,⟨f,hd⟩,⟨a2,c2,g2,WG b.1 bpoly t ht⟩,⟨bmf,bp,bq,bu,bv⟩,λsh' zs m' g3 ms mf=>?_⟩
    refine⟨sM (by simp;lia),hn _ ⟨dn'++[b],td,_,l2++[((lU (-1) t b.1).map (dnG t),sh',zs,m')],sdV (pc b.2.1 b.2.2.1),sdV (mvD b.2.2.2),sdV (.tup [pc sh1 zs1,pc sh2 zs2]),by rw[ec];simp,rfl,Sp.snoc a1 g3 ms mf,?_⟩⟩
    rw[cU (l₁:=l2)];rfl
  ·rintro ρ ⟨dn',td,l1,l2,u,v,w,ec,ey,Sp,rfl⟩
   have:td=[]:=by simpa using ey.symm
   subst this
   rw[eV] at ec
   subst ec
   exact hK _ ⟨l1,l2,u,v,w,Sp,rfl⟩
 rintro ρ ⟨l1,l2,u,v,w,Sp,rfl⟩
 rw[<-hB]
 simp only[Ew,aJ,aR,bQ,bP,fV,jP,aC,aV,Bf,r2,aL,rC,cG,rFr,pI,oD,cV,true_and,bZ,eW]
 refine⟨.int,Td,sz3,.int,h.1,h.2,lh.1,lh.2,rfl,⟨f.h2,r.pos⟩,⟨f.b1.mono (by decide),f.b2.mono (by decide),r.b1.mono (by decide),r.b2.mono (by decide)⟩,λp q' l=>⟨.cons .int (.cons .int .nil),sz3,sz2,q dn l1 l2 (p,q') hd Sp l⟩⟩
end K36
namespace K36
open K34 K33
def KQ:FD:=λds Q=>∃a b c d:Int,ds=[.tup [.int a,.int b],.tup [.int c,.int d]]/\(BL 5000 a/\BL 5000 b/\BL 5000 c/\BL 5000 d)/\Q (.tup [.int (a*d+c*b),.int (b*d)])
theorem Fc:∀ds Q,KQ ds Q->ds.length=2:=by rintro ds Q ⟨_,_,_,_,rfl,_⟩;rfl
theorem Aq:∀ds Q,KQ ds Q->CP { nx:=λ_=>Q .non,rt:=Q } (dW ["_law_one","_law_other"] ds):=by
 rintro ds Q ⟨a,b,c,d,rfl,⟨b1,b2,b3,b4⟩,q⟩
 rw[cN 0 rfl]
 unfold CP
 walk_at "rd"
 exact⟨b1.mulOk b4,b3.mulOk b2,b2.mulOk b4,q⟩
def KR:FD:=λds Q=>∃(sh:Int) (zs:List Pt),ds=[pc sh zs]/\(BL 9000 sh/\Cd 9000 zs/\1<=zs.length/\zs.length<=100)/\Q (.tup [.int (oT crs zs),.int (sh*sh)])
theorem Fd:∀ds Q,KR ds Q->ds.length=1:=by rintro ds Q ⟨_,_,rfl,_⟩;rfl
theorem Ar:∀ds Q,KR ds Q->AN { nx:=λ_=>Q .non,rt:=Q } (dW ["_law_piece","_law_total","_law_k","_law_one","_law_two"] ds):=by
 rintro ds Q ⟨sh,zs,rfl,⟨bs,hS,l1,l2⟩,q⟩
 rw[cN 4 rfl]
 unfold AN
 simp only[iQ,Bk,aT,bU,bG,cC]
 have pos:0<zs.length:=by lia
 refine cR (λρ=>ρ=[sdV (pc sh zs),sdV (.int 0),none,none,none]) (λK hK=>?_) ?_
 ·walk_at "rd"
  exact hK _ rfl
 rintro ρ rfl
 refine cR (λρ=>∃a b c:Option L2.R2.S,ρ=[sdV (pc sh zs),sdV (.int (oT crs zs)),a,b,c]) (λK hK=>?_) ?_
 ·simp only[oW,OE,aC,aV,r1,r2,rC,oD,rT,aL,aJ,aR,S.val,cI]
  refine⟨by constructor <;> lia,?_⟩
  have nn:(((zs.length:Nat):Int)).toNat=zs.length:=by lia
  simp only[nn]
  refine LM 0 zs.length (λi ρ=>∃a b c:Option L2.R2.S,ρ=[sdV (pc sh zs),sdV (.int (pth crs (rg zs (zs.length-1)) (zs.take i))),a,b,c]) ?_ ?_ _ ⟨none,none,none,rfl⟩
  ·rintro i ρ hi ⟨a,b,c,rfl⟩ F _ _ hn _
   obtain⟨p1,p2⟩:=hS _ (yC pos (i+(zs.length-1)))
   obtain⟨q1,q2⟩:=hS _ (yC pos i)
   unfold vC
   walk_at "rd"
   rw[GM hi]
   walk_at "rd"
   simp only[zZ hi]
   walk_at "rd"
   refine⟨p1.mulOk q2,p2.mulOk q1,hn _ ⟨sdV (.int (0+(i:Int))),sdV (pt (rg zs (i+(zs.length-1)))),sdV (pt (rg zs i)),?_⟩⟩
   rw[Lk crs hi]
   unfold crs
   rw[Int.add_sub_assoc]
  ·rintro ρ ⟨a,b,c,rfl⟩
   rw[rP,Pr crs pos]
   exact hK _ ⟨a,b,c,rfl⟩
 rintro ρ ⟨a,b,c,rfl⟩
 walk_at "rd"
 exact⟨bs.mulOk bs,q⟩
structure Bx (s h:Pt) (T:Int) (L:List Bt):Prop where
 fm:Fm s h
 t24:T<=24
 len:L.length<=4
 each:∀b∈L,Gp s h b.1 b.2.1 b.2.2.1/\(Cvx b.1/\b.1.length<=10)/\(∀a∈b.1,(0<=a.1/\a.1<=24)/\0<=a.2/\a.2<=T)/\MvF b.2.2.2
 area:(L.map λb=>oT crs b.1).sum=48*T
section
variable {s h:Pt} {T:Int} {L:List Bt}
theorem Bx.gin (B:Bx s h T L) {b:Bt} (hb:b∈L):Gin b.1:=λa ha=>by
 obtain⟨_,_,g,_⟩:=B.each b hb
 have:=B.t24
 obtain⟨x,y0,y1⟩:=g a ha
 exact⟨x,y0,by lia⟩
theorem Bx.facts (B:Bx s h T L) {b:Bt} (hb:b∈L):IsPc b.2.1 b.2.2.1/\BL 40 b.2.1/\(∀z∈b.2.2.1,BL 70 z.1/\BL 70 z.2)/\b.2.2.1.length=b.1.length:=by
 obtain⟨g,c,_⟩:=B.each b hb
 exact Gp.facts B.fm (B.gin hb) c.1 g
theorem Nw {P zs:List Pt} {sh:Int} (g:Gp s h P sh zs):eF s h*eF s h*oT crs zs=sh*sh*((s.2*h.2)*(h.1*s.2)*oT crs P):=by
 obtain⟨A',r,eq⟩:=Told.ring g
 have e1:=VN (eF s h) zs
 rw[eq,VN] at e1
 have:(λx y=>crs (afF s h x) (afF s h y))=λx y=>s.2*h.2*(h.1*s.2)*crs x y:=by funext x y;exact Mw _ _ _ x y
 rw[<-e1,<-ZC r,VJ,this,VL]
end
def KS:FD:=λds Q=>∃(s h:Pt) (T:Int) (L:List Bt),ds=[.lst (L.map btG)]/\Bx s h T L/\∀N M,(BL 4000 N/\BL 4000 M)->eF s h*eF s h*N=M*((s.2*h.2)*(h.1*s.2)*(48*T))->Q (.tup [.int N,.int M])
theorem Fe:∀ds Q,KS ds Q->ds.length=1:=by rintro ds Q ⟨_,_,_,_,rfl,_⟩;rfl
theorem As:∀ds Q,KS ds Q->CS KQ KR { nx:=λ_=>Q .non,rt:=Q } (dW ["_law_bits_here","_law_total","_law_bit"] ds):=by
 rintro ds Q ⟨s,h,T,L,rfl,B,q⟩
 rw[cN 2 rfl]
 unfold CS
 simp only[iQ,Pw,aT,bU,bG,cC]
 refine cR (λρ=>ρ=[sdV (.lst (L.map btG)),sdV (.tup [.int 0,.int 1]),none]) (λK hK=>?_) ?_
 ·walk_at "rd"
  exact hK _ rfl
 rintro ρ rfl
 refine cR (λρ=>∃N M u,((BL 4000 N/\BL 4000 M)/\eF s h*eF s h*N=M*((s.2*h.2)*(h.1*s.2)*(L.map λb=>oT crs b.1).sum))/\ρ=[sdV (.lst (L.map btG)),sdV (.tup [.int N,.int M]),u]) (λK hK=>?_) ?_
 ·simp only[oW,riL,cG,aJ]
  refine lD (λys ρ=>∃(dn td:List Bt) (N M:Int) (u:Option L2.R2.S),L=dn++td/\ys=td.map btG/\((BL (400*(dn.length+1)) N/\BL (400*(dn.length+1)) M)/\eF s h*eF s h*N=M*((s.2*h.2)*(h.1*s.2)*(dn.map λb=>oT crs b.1).sum))/\ρ=[sdV (.lst (L.map btG)),sdV (.tup [.int N,.int M]),u]) ?_ ?_ _ _ ⟨[],L,0,1,none,rfl,rfl,⟨⟨(BL.const (n:=2) (i:=0) (by decide)).mono (by decide),(BL.const (n:=2) (i:=1) (by decide)).mono (by decide)⟩,by simp⟩,rfl⟩
  ·rintro y ys ρ ⟨dn,td,N,M,u,ec,ey,⟨⟨bN,bM⟩,eq⟩,rfl⟩ F hr hbk hn _
   cases td with
   | nil=>cases ey
   | cons b td =>
    cases ey
    have mb:b∈L:=by rw[ec];simp
    obtain⟨ip,bs,bz,lz⟩:=B.facts mb
    obtain⟨g,⟨cv,l10⟩,_,_⟩:=B.each b mb
    have l3:=cv.len
    have le:dn.length+1<=4:=by have:=congrArg fJ ec;have:=B.len;simp at *;lia
    have bc:BL 160 (oT crs b.2.2.1):=(Rz (n:=70) bz).mono (by lia)
    have bss:BL 80 (b.2.1*b.2.1):=(bs.mul bs).mono (by decide)
    unfold wO btG
    simp only[fB,eX,cV,aC,aV,r2,aL,cG,rC,pI,aJ,aR,bQ,bP]
    refine⟨b.2.1,b.2.2.1,rfl,⟨bs.mono (by decide),λz hz=>⟨(bz z hz).1.mono (by decide),(bz z hz).2.mono (by decide)⟩,by lia,by lia⟩,?_⟩
    refine⟨N,M,oT crs b.2.2.1,b.2.1*b.2.1,rfl,⟨bN.mono (by lia),bM.mono (by lia),bc.mono (by decide),bss.mono (by decide)⟩,?_⟩
    refine hn _ ⟨dn++[b],td,_,_,sdV (.tup [pc b.2.1 b.2.2.1,mvD b.2.2.2]),by rw[ec];simp,rfl,⟨⟨?_,?_⟩,?_⟩,rfl⟩
    ·exact ((bN.mul bss).add (bc.mul bM)).mono (by rw[dI];simp;lia)
    ·exact (bM.mul bss).mono (by rw[dI];simp;lia)
    ·rw[cU,List.sum_append]
     simp only[aT,bU,List.sum_cons,List.sum_nil,tJ]
     have ga:=Nw g
     have l:eF s h*eF s h*(N*(b.2.1*b.2.1)+oT crs b.2.2.1*M)=(eF s h*eF s h*N)*(b.2.1*b.2.1)+(eF s h*eF s h*oT crs b.2.2.1)*M:=by grind
     rw[l,eq,ga];grind
  ·rintro ρ ⟨dn,td,N,M,u,ec,ey,⟨⟨bN,bM⟩,eq⟩,rfl⟩
   have:td=[]:=by simpa using ey.symm
   subst this
   rw[eV] at ec
   subst ec
   have:=B.len
   exact hK _ ⟨N,M,u,⟨⟨bN.mono (by lia),bM.mono (by lia)⟩,eq⟩,rfl⟩
 rintro ρ ⟨N,M,u,⟨⟨bN,bM⟩,eq⟩,rfl⟩
 walk_at "rd"
 rw[B.area] at eq
 exact q N M ⟨bN,bM⟩ eq
end K36
namespace K36
open K34 K33
def LW:FD:=λds Q=>∃p:Pt,ds=[pt p]/\(0<p.2/\cD p.1 p.2=1)/\Q (.bl true)
theorem Kg:∀ds Q,LW ds Q->ds.length=1:=by rintro ds Q ⟨_,rfl,_⟩;rfl
theorem Gu:∀ds Q,LW ds Q->tE yG xA { nx:=λ_=>Q .non,rt:=Q } (dW ["_law_found"] ds):=by
 rintro ds Q ⟨p,rfl,⟨h1,h2⟩,q⟩
 rw[cN 0 rfl]
 unfold tE
 walk_at "rd"
 refine⟨p.1,rfl,?_⟩
 walk_at "rd"
 refine⟨p.2,rfl,?_⟩
 walk_at "rd"
 simp only[h1,decide_true,if_true]
 refine⟨p.1,p.2,rfl,?_⟩
 walk_at "rd"
 rw[h2]
 exact q
structure BtF (b:Bt):Prop where
 ip:IsPc b.2.1 b.2.2.1
 bz:∀z∈b.2.2.1,BL 70 z.1/\BL 70 z.2
 len:b.2.2.1.length<=100
 mf:MvF b.2.2.2
def LB:FD:=λds Q=>∃b:Bt,ds=[btG b]/\BtF b/\Q (.bl true)
theorem Fk:∀ds Q,LB ds Q->ds.length=1:=by rintro ds Q ⟨_,rfl,_⟩;rfl
theorem Aw:∀ds Q,LB ds Q->AR LW Bw xA { nx:=λ_=>Q .non,rt:=Q } (dW ["_law_bit","_law_move"] ds):=by
 rintro ds Q ⟨⟨P,sh,zs,sg,x,y⟩,rfl,⟨ip,bz,len,mf⟩,q⟩
 rw[cN 1 rfl]
 unfold AR btG mvD
 simp only[iQ,Bj,aT,bU,bG,cC]
 generalize hP:pc sh zs=PD
 refine cR (λρ=>ρ=[sdV (.tup [PD,.tup [.int sg,pt x,pt y]]),none]) (λK hK=>?_) ?_
 ·walk_at "rd"
  refine⟨sh,zs,by rw[hP],ip,λz hz=>⟨(bz z hz).1.mono (by decide),(bz z hz).2.mono (by decide)⟩,len,?_⟩
  walk_at "rd"
  exact hK _ rfl
 rintro ρ rfl
 refine cR (λρ=>ρ=[sdV (.tup [PD,.tup [.int sg,pt x,pt y]]),sdV (.tup [.int sg,pt x,pt y])]) (λK hK=>?_) ?_
 ·walk_at "rd"
  exact hK _ rfl
 rintro ρ rfl
 refine cR (λρ=>ρ=[sdV (.tup [PD,.tup [.int sg,pt x,pt y]]),sdV (.tup [.int sg,pt x,pt y])]) (λK hK=>?_) ?_
 ·walk_at "rd"
  refine⟨sg,rfl,?_⟩
  walk_at "rd"
  have:(if sg<0 then -sg else sg)=1:=by have:=mf.sg;dsimp only at this;split <;> lia
  simp only[this,decide_true,fR,aM,if_false]
  exact hK _ rfl
 rintro ρ rfl
 walk_at "rd"
 refine⟨x,rfl,⟨mf.q0,mf.cx⟩,?_⟩
 walk_at "rd"
 exact⟨y,rfl,⟨mf.v0,mf.cy⟩,q⟩
def KU:FD:=λds Q=>∃L:List Bt,ds=[.lst (L.map btG)]/\(∀b∈L,BtF b)/\Q (.bl true)
theorem Ff:∀ds Q,KU ds Q->ds.length=1:=by rintro ds Q ⟨_,rfl,_⟩;rfl
theorem At:∀ds Q,KU ds Q->GY LB { nx:=λ_=>Q .non,rt:=Q } (dW ["_law_bits_here","_law_bit"] ds):=by
 rintro ds Q ⟨L,rfl,hL,q⟩
 rw[cN 1 rfl]
 unfold GY
 simp only[iQ,Bj,aT,bU,bG,cC]
 have il':WK "list" (.lst (L.map btG))=some true:=rfl
 refine cR (λρ=>ρ=[sdV (.lst (L.map btG)),none]) (λK hK=>?_) ?_
 ·walk_at "rd"
  simp only[il']
  walk_at "rd"
  exact hK _ rfl
 rintro ρ rfl
 refine cR (λρ=>∃u,ρ=[sdV (.lst (L.map btG)),u]) (λK hK=>?_) ?_
 ·simp only[oW,riL,cG,aJ]
  refine lD (λys ρ=>∃(dn td:List Bt) (u:Option L2.R2.S),L=dn++td/\ys=td.map btG/\ρ=[sdV (.lst (L.map btG)),u]) ?_ ?_ _ _ ⟨[],L,none,rfl,rfl,rfl⟩
  ·rintro y ys ρ ⟨dn,td,u,ec,ey,rfl⟩ F hr hbk hn _
   cases td with
   | nil=>cases ey
   | cons b td =>
    cases ey
    unfold yM
    walk_at "rd"
    refine⟨b,rfl,hL b (by rw[ec];simp),?_⟩
    walk_at "rd"
    exact hn _ ⟨dn++[b],td,sdV (btG b),by rw[ec];simp,rfl,rfl⟩
  ·rintro ρ ⟨dn,td,u,ec,ey,rfl⟩
   exact hK _ ⟨u,rfl⟩
 rintro ρ ⟨u,rfl⟩
 walk_at "rd"
 exact q
def LA:FD:=λds Q=>∃(sh:Int) (cs:List Pt) (s hh:Pt),ds=[pc sh cs,pt s,pt hh]/\(BL 40 sh/\(∀z∈cs,BL 70 z.1/\BL 70 z.2)/\BL 100 s.1/\BL 100 s.2/\BL 100 hh.1/\BL 100 hh.2)/\cs.length<=100 /\
 (∀z∈cs,(0<=z.1/\z.1<=sh)/\0<=z.2*s.2-z.1*s.1/\(z.2*s.2-z.1*s.1)*hh.2<=hh.1*s.2*sh)/\Q (.bl true)
theorem Fj:∀ds Q,LA ds Q->ds.length=3:=by rintro ds Q ⟨_,_,_,_,rfl,_⟩;rfl
theorem Av:∀ds Q,LA ds Q->AQ { nx:=λ_=>Q .non,rt:=Q } (dW ["_law_piece","_law_s","_law_h","_law_x","_law_y","_law_above"] ds):=by
 rintro ds Q ⟨sh,cs,s,hh,rfl,⟨bs,bz,s1,s2,h1,h2⟩,lc,hz,q⟩
 rw[cN 3 rfl]
 unfold AQ
 simp only[iQ,Ly,aT,bU,bG,cC]
 refine cR (λρ=>∃u v w,ρ=[sdV (pc sh cs),sdV (pt s),sdV (pt hh),u,v,w]) (λK hK=>?_) ?_
 ·simp only[oW,riT,r2,aL,rC,oD,aJ]
  refine lD (λys ρ=>∃(dn td:List Pt) (u v w:Option L2.R2.S),cs=dn++td/\ys=td.map pt/\ρ=[sdV (pc sh cs),sdV (pt s),sdV (pt hh),u,v,w]) ?_ ?_ _ _ ⟨[],cs,none,none,none,rfl,rfl,rfl⟩
  ·rintro y ys ρ ⟨dn,td,u,v,w,ec,ey,rfl⟩ F hr hbk hn _
   cases td with
   | nil=>cases ey
   | cons z td =>
    cases ey
    have mz:z∈cs:=by rw[ec];simp
    obtain⟨b1,b2⟩:=bz z mz
    obtain⟨⟨x0,x1⟩,a0,a1⟩:=hz z mz
    unfold vD
    simp only[rJ,iH,rH,fB,bZ,eW,true_and,bQ,bP]
    refine cR (λρ=>ρ=[sdV (pc sh cs),sdV (pt s),sdV (pt hh),sdV (.int z.1),sdV (.int z.2),w]) (λK hK2=>?_) ?_
    ·walk_at "rd"
     rw[if_neg (by lia),if_neg (by lia)]
     exact hK2 _ rfl
    rintro ρ rfl
    refine cR (λρ=>ρ=[sdV (pc sh cs),sdV (pt s),sdV (pt hh),sdV (.int z.1),sdV (.int z.2),sdV (.int (z.2*s.2-z.1*s.1))]) (λK hK2=>?_) ?_
    ·walk_at "rd"
     exact⟨b2.mulOk s2,b1.mulOk s1,hK2 _ rfl⟩
    rintro ρ rfl
    have ba:BL 200 (z.2*s.2-z.1*s.1):=((b2.mul s2).sub (b1.mul s1)).mono (by decide)
    generalize hA:z.2*s.2-z.1*s.1=A at *
    walk_at "rd"
    rw[if_neg (by lia)]
    refine⟨ba.mulOk h2,h1.mulOk s2,(h1.mul s2).mulOk bs,?_⟩
    rw[if_neg (by lia)]
    exact hn _ ⟨dn++[z],td,sdV (.int z.1),sdV (.int z.2),sdV (.int A),by rw[ec];simp,rfl,rfl⟩
  ·rintro ρ ⟨dn,td,u,v,w,ec,ey,rfl⟩
   exact hK _ ⟨u,v,w,rfl⟩
 rintro ρ ⟨u,v,w,rfl⟩
 walk_at "rd"
 exact q
end K36
namespace K36
open K34 K33
structure Hgt36 (h:Pt) (T:Int) (hh:Pt):Prop where
 pos:0<hh.2
 cop:cD hh.1 hh.2=1
 worth:24*(hh.1*h.2)=T*(h.1*hh.2)
 b1:BL 20 hh.1
 b2:BL 20 hh.2
def KW:FD:=λds Q=>∃(s h hh:Pt) (T place:Int) (L:List Bt),ds=[.tup [.int place,pt hh,.lst (L.map btG)],.int place,pt hh,pt s]/\Bx s h T L/\Hgt36 h T hh/\Q (.bl true)
theorem Fg:∀ds Q,KW ds Q->ds.length=4:=by rintro ds Q ⟨_,_,_,_,_,_,rfl,_⟩;rfl
theorem Er {s h hh:Pt} {T sh:Int} {P cs:List Pt} (f:Fm s h) (H:Hgt36 h T hh) (g:Gp s h P sh cs) (gi:∀a∈P,(0<=a.1/\a.1<=24)/\0<=a.2/\a.2<=T) {z:Pt} (hz:z∈cs) :
  (0<=z.1/\z.1<=sh)/\0<=z.2*s.2-z.1*s.1/\(z.2*s.2-z.1*s.1)*hh.2<=hh.1*s.2*sh:=by
 have sp:=AX f.ep g
 have S0:=f.sp
 obtain⟨A,hA,e⟩:=(JQ g).1 z hz
 obtain⟨a,ha,rfl⟩:=cB.mp hA
 obtain⟨⟨x0,x1⟩,y0,y1⟩:=gi a ha
 unfold scl afF aff at e
 simp only[eK] at e
 obtain⟨e1,e2⟩:=e
 have k1:24*z.1=sh*a.1:=gY (a:=s.2*h.2) (by lia) (by unfold eF at e1;grind)
 have m0:=fH (dC sp) x0
 have m1:=Int.mul_le_mul_of_nonneg_left x1 (dC sp)
 have k2:24*(h.2*(z.2*s.2-z.1*s.1))=sh*(a.2*(h.1*s.2)):=by
  refine cH (a:=s.2) (by have:=f.ls.pos;lia) ?_
  have l:s.2*(24*(h.2*(z.2*s.2-z.1*s.1)))=s.2*(eF s h*z.2)-s.1*(eF s h*z.1):=by unfold eF;grind
  rw[l,e1,e2];grind
 have hi0:=f.hp
 have h20:=f.h2
 have a0:0<=z.2*s.2-z.1*s.1:=by
  have p:=fH (dC sp) (fH y0 (dC hi0))
  apply lT.mp;intro k
  have:=fG h20 k
  lia
 refine⟨⟨by lia,by lia⟩,a0,?_⟩
 apply lT.mp;intro k
 have k3:=Int.mul_lt_mul_of_pos_left k (show (0:Int)<24*h.2 by lia)
 have l3:24*h.2*((z.2*s.2-z.1*s.1)*hh.2)=24*(h.2*(z.2*s.2-z.1*s.1))*hh.2:=by grind
 have r3:24*h.2*(hh.1*s.2*sh)=24*(hh.1*h.2)*(s.2*sh):=by grind
 rw[l3,r3,k2,H.worth] at k3
 have p1:0<h.1*hh.2*(s.2*sh):=aY (aY f.h1 H.pos) (aY f.ls.pos sp)
 have m3:=rL y1 (dC p1)
 have q1:sh*(a.2*(h.1*s.2))*hh.2=a.2*(h.1*hh.2*(s.2*sh)):=by grind
 have q2:T*(h.1*hh.2)*(s.2*sh)=T*(h.1*hh.2*(s.2*sh)):=by grind
 rw[q1,q2] at k3
 lia
theorem Au:∀ds Q,KW ds Q->CT KS KU LA LW xA { nx:=λ_=>Q .non,rt:=Q } (dW ["_law_box_here","_law_place","_law_height","_law_lean","_law_bit","_law_total"] ds):=by
 rintro ds Q ⟨s,h,hh,T,place,L,rfl,B,H,q⟩
 have f:=B.fm
 rw[cN 2 rfl]
 unfold CT
 simp only[iQ,Pw,aT,bU,bG,cC]
 generalize hL:D.lst (L.map btG)=LD
 have ep:eqL (eqF 5) [.int hh.1,.int hh.2] [.int hh.1,.int hh.2]=some true:=sJ _ λx hx=>by
  simp only[aK,fS,or_false] at hx
  rcases hx with rfl | rfl <;> exact LK 4 _
 refine cR (λρ=>ρ=[sdV (.tup [.int place,pt hh,LD]),sdV (.int place),sdV (pt hh),sdV (pt s),none,none]) (λK hK=>?_) ?_
 ·walk_at "rd"
  refine⟨place,rfl,?_⟩
  walk_at "rd"
  simp only[decide_true,fR,aM,if_false]
  exact hK _ rfl
 rintro ρ rfl
 refine cR (λρ=>ρ=[sdV (.tup [.int place,pt hh,LD]),sdV (.int place),sdV (pt hh),sdV (pt s),none,none]) (λK hK=>?_) ?_
 ·walk_at "rd"
  simp only[ep,fR,aM,if_false]
  refine⟨hh,rfl,⟨H.pos,H.cop⟩,?_⟩
  walk_at "rd"
  refine⟨L,by rw[hL],λb hb=>?_,?_⟩
  ·obtain⟨ip,bs,bz,lz⟩:=B.facts hb
   obtain⟨_,⟨_,l10⟩,_,mf⟩:=B.each b hb
   exact⟨ip,bz,by lia,mf⟩
  ·walk_at "rd"
   exact hK _ rfl
 rintro ρ rfl
 refine cR (λρ=>∃u,ρ=[sdV (.tup [.int place,pt hh,LD]),sdV (.int place),sdV (pt hh),sdV (pt s),u,none]) (λK hK=>?_) ?_
 ·rw[<-hL] at hK ⊢
  simp only[oW,riL,r2,aL,rC,uL,aJ]
  refine lD (λys ρ=>∃(dn td:List Bt) (u:Option L2.R2.S),L=dn++td/\ys=td.map btG/\ρ=[sdV (.tup [.int place,pt hh,.lst (L.map btG)]),sdV (.int place),sdV (pt hh),sdV (pt s),u,none]) ?_ ?_ _ _ ⟨[],L,none,rfl,rfl,rfl⟩
  ·rintro y ys ρ ⟨dn,td,u,ec,ey,rfl⟩ F hr hbk hn _
   cases td with
   | nil=>cases ey
   | cons b td =>
    cases ey
    have mb:b∈L:=by rw[ec];simp
    obtain⟨ip,bs,bz,lz⟩:=B.facts mb
    obtain⟨g,⟨_,l10⟩,gi,mf⟩:=B.each b mb
    unfold wP btG
    walk_at "rd"
    refine⟨b.2.1,b.2.2.1,s,hh,rfl,⟨bs,bz,f.ls.top.mono (by decide),f.ls.bot.mono (by decide),H.b1.mono (by decide),H.b2.mono (by decide)⟩,by lia,λz hz=>Er f H g gi hz,?_⟩
    walk_at "rd"
    exact hn _ ⟨dn++[b],td,sdV (.tup [pc b.2.1 b.2.2.1,mvD b.2.2.2]),by rw[ec];simp,rfl,rfl⟩
  ·rintro ρ ⟨dn,td,u,ec,ey,rfl⟩
   exact hK _ ⟨u,rfl⟩
 rintro ρ ⟨u,rfl⟩
 refine cR (λρ=>∃N M u,((BL 4000 N/\BL 4000 M)/\eF s h*eF s h*N=M*((s.2*h.2)*(h.1*s.2)*(48*T)))/\ρ=[sdV (.tup [.int place,pt hh,LD]),sdV (.int place),sdV (pt hh),sdV (pt s),u,sdV (.tup [.int N,.int M])]) (λK hK=>?_) ?_
 ·walk_at "rd"
  exact⟨s,h,T,L,by rw[hL],B,λN M b e=>hK _ ⟨N,M,u,⟨b,e⟩,rfl⟩⟩
 rintro ρ ⟨N,M,u,⟨⟨bN,bM⟩,eq⟩,rfl⟩
 have fin:N*hh.2=2*hh.1*M:=by
  have sp:=f.sp
  have c1:12*(h.2*N)=M*(h.1*T):=by
   have p:(0:Int)<48*(s.2*h.2)*s.2:=aY (by lia) f.ls.pos
   refine cH (a:=48*(s.2*h.2)*s.2) (by lia) ?_
   have l:48*(s.2*h.2)*s.2*(12*(h.2*N))=eF s h*eF s h*N:=by unfold eF;grind
   rw[l,eq];grind
  have p2:(0:Int)<12*h.2:=by have:=f.h2;lia
  refine cH (a:=12*h.2) (by lia) ?_
  have l:12*h.2*(N*hh.2)=12*(h.2*N)*hh.2:=by grind
  have r:12*h.2*(2*hh.1*M)=M*(24*(hh.1*h.2)):=by grind
  rw[l,r,c1,H.worth];grind
 walk_at "rd"
 refine⟨bN.mulOk H.b2,(BL.const (n:=4) (i:=2) (by decide)).mulOk H.b1,((BL.const (n:=4) (i:=2) (by decide)).mul H.b1).mulOk bM,?_⟩
 rw[fin]
 simp only[decide_true]
 exact q
end K36
namespace K36
open K34 K33
theorem GD {f:Pt->Pt} {R:List Pt} {a b:Pt} (h:Cyc (R.map f) a b):∃x y,Cyc R x y/\f x=a/\f y=b:=by
 obtain⟨l,r,e⟩:=h
 rw[<-jN,<-cU] at e
 obtain⟨l',r',e1,rfl,e2⟩:=mP.mp e
 obtain⟨x,r2,rfl,e3,e4⟩:=jR.mp e2
 obtain⟨y,r3,rfl,e5,e6⟩:=jR.mp e4
 exact⟨x,y,⟨l',r3,e1⟩,e3,e5⟩
theorem NG:∀{l:List Pt} {a b:Pt},(a,b)∈PQ l->Nxt l a b
 | [],_,_,h=>by cases h
 | [_],_,_,h=>by cases h
 | x::y::r,a,b,h=>by
  rcases aK.mp h with e | h
  ·cases e;exact⟨[],r,rfl⟩
  ·exact (NG h).cons x
def gsd (I J N:Int) (a b:Pt):Int:=(b.1-a.1)*(J-a.2*N)-(b.2-a.2)*(I-a.1*N)
structure Spt (s h:Pt) (X Y W I J N:Int):Prop where
 w:0<W
 n:0<N
 x:eF s h*X*N=W*(I*(s.2*h.2))
 y:eF s h*Y*N=W*(I*(s.1*h.2)+J*(h.1*s.2))
def gv (I J N:Int) (P:List Pt):Int:=if ((PQ (P++P.take 1)).all λp=>decide (0<gsd I J N p.1 p.2))=true then 1 else if ((PQ (P++P.take 1)).all λp=>decide (0<=gsd I J N p.1 p.2))=true then 0 else -1
section
variable {I J N:Int} {P R:List Pt}
theorem FX {p:Pt × Pt->Prop} [DecidablePred p]:((PQ (P++P.take 1)).all λx=>decide (p x))=true↔∀a b,Cyc P a b->p (a,b):=by
 rw[jH]
 constructor
 ·intro h a b c;exact of_decide_eq_true (h _ (AI c))
 ·intro h x hx;exact decide_eq_true (h x.1 x.2 (NG hx))
theorem MU (h:∀a b,Cyc P a b->0<gsd I J N a b):gv I J N P=1:=by
 unfold gv;rw[if_pos (FX.mpr h)]
theorem Db (h:∀a b,Cyc P a b->0<=gsd I J N a b) (z:∃a b,Cyc P a b/\gsd I J N a b<=0):gv I J N P=0:=by
 obtain⟨a,b,c,z⟩:=z
 unfold gv;rw[if_neg (λk=>by have:=FX.mp k a b c;dsimp only at this;lia),if_pos (FX.mpr h)]
theorem TN (z:∃a b,Cyc P a b/\gsd I J N a b<0):gv I J N P = -1:=by
 obtain⟨a,b,c,z⟩:=z
 unfold gv
 rw[if_neg (λk=>by have:=FX.mp k a b c;dsimp only at this;lia),if_neg (λk=>by have:=FX.mp k a b c;dsimp only at this;lia)]
theorem MT:(gv I J N P=1/\∀a b,Cyc P a b->0<gsd I J N a b)\/(gv I J N P=0/\∀a b,Cyc P a b->0<=gsd I J N a b)\/(gv I J N P = -1/\∃a b,Cyc P a b/\gsd I J N a b<0):=by
 by_cases h:∀a b,Cyc P a b->0<gsd I J N a b
 ·exact .inl ⟨MU h,h⟩
 ·by_cases k:∀a b,Cyc P a b->0<=gsd I J N a b
  ·refine .inr (.inl ⟨Db k ?_,k⟩)
   apply dJ;intro n
   exact h λa b c=>dS.mp λz=>n ⟨a,b,c,z⟩
  ·have z:∃a b,Cyc P a b/\gsd I J N a b<0:=by
    apply dJ;intro n
    exact k λa b c=>lT.mp λz=>n ⟨a,b,c,z⟩
   exact .inr (.inr ⟨TN z,z⟩)
theorem sK {c1 c2 x y:Int} (h1:0<c1) (h2:0<c2) (e:c1*x=c2*y):(0<x↔0<y)/\(x<0↔y<0):=by
 rcases gS x 0 with k | rfl | k
 ·have:=fG h1 k
  have hy:y<0:=by
   apply dS.mp;intro z
   have:=fH (dC h2) z
   lia
  lia
 ·rw[Int.mul_zero] at e
  rcases sO.mp e.symm with z | z <;> lia
 ·have:=aY h1 k
  have hy:0<y:=by
   apply dS.mp;intro z
   have:=eD (dC h2) z
   lia
  lia
theorem Nx {I' J' N' c1 c2:Int} (h1:0<c1) (h2:0<c2) (l:∀a b,Cyc P a b->∃p q,Cyc R p q/\c1*gsd I J N a b=c2*gsd I' J' N' p q) (r:∀p q,Cyc R p q->∃a b,Cyc P a b/\c1*gsd I J N a b=c2*gsd I' J' N' p q):gv I J N P=gv I' J' N' R:=by
 rcases MT (I:=I) (J:=J) (N:=N) (P:=P) with ⟨e,k⟩ | ⟨e,k⟩ | ⟨e,a,b,c,k⟩
 ·rw[e,MU λp q c=>?_]
  obtain⟨a,b,c',ee⟩:=r p q c
  exact (sK h1 h2 ee).1.mp (k a b c')
 ·rcases MT (I:=I') (J:=J') (N:=N') (P:=R) with ⟨e',k'⟩ | ⟨e',k'⟩ | ⟨e',p,q,c',k'⟩
  ·have:gv I J N P=1:=MU λa b c=>by
    obtain⟨p,q,c',ee⟩:=l a b c
    exact (sK h1 h2 ee).1.mpr (k' p q c')
   lia
  ·rw[e,e']
  ·obtain⟨a,b,c,ee⟩:=r p q c'
   have:=(sK h1 h2 ee).2.mpr k'
   have:=k a b c
   lia
 ·obtain⟨p,q,c',ee⟩:=l a b c
  rw[e,TN ⟨p,q,c',(sK h1 h2 ee).2.mp k⟩]
theorem Vo (t:Int):gv I (J-t*N) N (P.map (dnG t))=gv I J N P:=by
 have e:∀a b,gsd I (J-t*N) N (dnG t a) (dnG t b)=gsd I J N a b:=λa b=>by unfold gsd dnG;dsimp only;grind
 refine Nx (c1:=1) (c2:=1) (by decide) (by decide) (λa b c=>?_) λp q c=>?_
 ·obtain⟨x,y,c',rfl,rfl⟩:=GD c
  exact⟨x,y,c',by rw[e]⟩
 ·exact⟨_,_,LI (f:=dnG t) c,by rw[e]⟩
theorem SD {s h:Pt} {sh X Y W:Int} (sp:Spt s h X Y W I J N) {a b p q:Pt} (ea:scl (eF s h) a=scl sh (afF s h p)) (eb:scl (eF s h) b=scl sh (afF s h q)) :
  eF s h*eF s h*N*sdd sh X Y W a b=sh*sh*W*(s.2*h.2)*(h.1*s.2)*gsd I J N p q:=by
 obtain⟨_,_,sx,sy⟩:=sp
 unfold scl afF aff at ea eb
 simp only[eK] at ea eb
 obtain⟨a1,a2⟩:=ea
 obtain⟨b1,b2⟩:=eb
 rw[<-Md]
 unfold gsd
 generalize eF s h=e at *
 generalize s.2*h.2=A at *
 generalize s.1*h.2=B at *
 generalize h.1*s.2=C at *
 have l:e*e*N*((b.1-a.1)*(Y*sh-a.2*W)-(b.2-a.2)*(X*sh-a.1*W))=(e*b.1-e*a.1)*(sh*(e*Y*N)-W*N*(e*a.2))-(e*b.2-e*a.2)*(sh*(e*X*N)-W*N*(e*a.1)):=by grind
 rw[l,a1,a2,b1,b2,sx,sy]
 grind
theorem Fv {s h:Pt} {sh X Y W M:Int} {cs:List Pt} (f:Fm s h) (g:Gp s h P sh cs) (sp:Spt s h X Y W I J N) (h1:∃a b,Cyc cs a b/\M=sdd sh X Y W a b) (h2:∀a b,Cyc cs a b->M<=sdd sh X Y W a b):sgI M=gv I J N P:=by
 have h0:=AX f.ep g
 have c1:0<eF s h*eF s h*N:=aY (aY f.ep f.ep) sp.n
 have c2:0<sh*sh*W*(s.2*h.2)*(h.1*s.2):=aY (aY (aY (aY h0 h0) sp.w) f.sp) f.hp
 obtain⟨A',r,eq⟩:=Told.ring g
 have l1:∀a b,Cyc cs a b->∃p q,Cyc P p q/\eF s h*eF s h*N*sdd sh X Y W a b=sh*sh*W*(s.2*h.2)*(h.1*s.2)*gsd I J N p q:=λa b c=>by
  have k:=LI (f:=scl (eF s h)) c
  rw[eq] at k
  obtain⟨x,y,k1,ex,ey⟩:=GD k
  obtain⟨p,q,k2,rfl,rfl⟩:=GD (Cm r k1)
  exact⟨p,q,k2,SD sp ex.symm ey.symm⟩
 have l2:∀p q,Cyc P p q->∃a b,Cyc cs a b/\eF s h*eF s h*N*sdd sh X Y W a b=sh*sh*W*(s.2*h.2)*(h.1*s.2)*gsd I J N p q:=λp q c=>by
  have c:=LI (f:=scl sh) (Cm r.symm (LI (f:=afF s h) c))
  rw[<-eq] at c
  obtain⟨x,y,c,ex,ey⟩:=GD c
  exact⟨x,y,c,SD sp ex ey⟩
 obtain⟨a,b,c,e⟩:=h1
 obtain⟨p,q,c',ee⟩:=l1 a b c
 rw[<-e] at ee
 have sg:=sK c1 c2 ee
 have ge:∀p q,Cyc P p q->∃x,M<=x/\(0<x↔0<gsd I J N p q)/\(x<0↔gsd I J N p q<0):=λp q c=>by
  obtain⟨a,b,k,ee⟩:=l2 p q c
  exact⟨_,h2 a b k,sK c1 c2 ee⟩
 unfold sgI
 rcases gS M 0 with k | k | k
 ·rw[TN ⟨p,q,c',sg.2.mp k⟩,if_neg (by lia),if_pos k];decide
 ·rw[Db (λp q c=>by obtain⟨x,u,v,w⟩:=ge p q c;lia) ⟨p,q,c',by lia⟩,if_neg (by lia),if_neg (by lia)];decide
 ·rw[MU (λp q c=>by obtain⟨x,u,v,w⟩:=ge p q c;lia),if_pos k,if_neg (by lia)];decide
end
abbrev F3:=Int × Int × Int
def cof (a b:Pt):F3:=(-(b.2-a.2),b.1-a.1,(b.2-a.2)*a.1-(b.1-a.1)*a.2)
def fv (I J N:Int) (f:F3):Int:=f.1*I+f.2.1*J+f.2.2*N
theorem LO {I J N:Int} (a b:Pt):gsd I J N a b=fv I J N (cof a b):=by unfold gsd fv cof;dsimp only;grind
def par (f g:F3):Bool:=decide (f.1*g.2.1=f.2.1*g.1) && decide (f.1*g.2.2=f.2.2*g.1) && decide (f.2.1*g.2.2=f.2.2*g.2.1) && decide (0<f.1*g.1+f.2.1*g.2.1+f.2.2*g.2.2) && decide (0<g.1*g.1+g.2.1*g.2.1+g.2.2*g.2.2)
theorem Dm {f g:F3} (h:par f g=true) (I J N:Int):(0<fv I J N f↔0<fv I J N g)/\(fv I J N f<0↔fv I J N g<0):=by
 unfold par at h
 simp only[fC,decide_eq_true_eq] at h
 obtain⟨⟨⟨⟨h1,h2⟩,h3⟩,h4⟩,h5⟩:=h
 refine sK h5 h4 ?_
 unfold fv
 grind
def Qc (σ t:Int) (f:F3):Bool:=decide (f.1=0) && decide (0 < -σ*f.2.1) && decide (0<=t*f.2.1+f.2.2)
theorem YC {σ t I J N:Int} {f:F3} (hσ:σ=1\/σ = -1) (hN:0<N) (hJ:σ*(J-t*N)<0) (h:Qc σ t f=true):0<fv I J N f:=by
 unfold Qc at h
 simp only[fC,decide_eq_true_eq] at h
 obtain⟨⟨h1,h2⟩,h3⟩:=h
 have e:fv I J N f=(-σ*f.2.1)*(-(σ*(J-t*N)))+(t*f.2.1+f.2.2)*N:=by
  unfold fv
  rw[h1]
  rcases hσ with rfl | rfl <;> grind
 rw[e]
 have p1:=aY h2 (show 0 < -(σ*(J-t*N)) by lia)
 have p2:=fH h3 (dC hN)
 lia
def sds (P:List Pt):List F3:=(PQ (P++P.take 1)).map λp=>cof p.1 p.2
theorem Me {P:List Pt} {a b:Pt} (c:Cyc P a b):cof a b∈sds P:=cB.mpr ⟨(a,b),AI c,rfl⟩
theorem Kw {P:List Pt} {f:F3} (h:f∈sds P):∃a b,Cyc P a b/\f=cof a b:=by
 obtain⟨p,hp,e⟩:=cB.mp h
 exact⟨p.1,p.2,NG hp,e.symm⟩
def Mz (σ t:Int) (P:List Pt):Bool:=((sds (lU σ t P)).all λf=>(sds P).any (par f) || Qc σ t f) && (sds P).all λf=>(sds (lU σ t P)).any (par f) || Qc σ t f
theorem Ij:∀P∈pK,∀t∈pA,Mz 1 t P=true/\Mz (-1) t P=true:=by decide +kernel
theorem Jv {σ t I J N:Int} {P:List Pt} (hσ:σ=1\/σ = -1) (hP:P∈pK) (ht:t∈pA) (hN:0<N) (hJ:σ*(J-t*N)<0) (h:gv I J N P≠0):gv I J N (lU σ t P)=gv I J N P:=by
 have ck:Mz σ t P=true:=by
  have:=Ij P hP t ht
  rcases hσ with rfl | rfl
  ·exact this.1
  ·exact this.2
 unfold Mz at ck
 rw[fC,jH,jH] at ck
 obtain⟨k1,k2⟩:=ck
 rcases MT (I:=I) (J:=J) (N:=N) (P:=P) with ⟨e,k⟩ | ⟨e,k⟩ | ⟨e,a,b,c,k⟩
 ·rw[e]
  refine MU λa b c=>?_
  rw[LO]
  rcases (pO _ _).mp (k1 _ (Me c)) with z | z
  ·obtain⟨g,hg,pg⟩:=rN.mp z
   obtain⟨x,y,cc,rfl⟩:=Kw hg
   exact (Dm pg I J N).1.mpr (by rw[<-LO];exact k x y cc)
  ·exact YC hσ hN hJ z
 ·exact absurd e h
 ·rw[e]
  rw[LO] at k
  rcases (pO _ _).mp (k2 _ (Me c)) with z | z
  ·obtain⟨g,hg,pg⟩:=rN.mp z
   obtain⟨x,y,cc,rfl⟩:=Kw hg
   exact TN ⟨x,y,cc,by rw[LO];exact (Dm pg I J N).2.mp k⟩
  ·have:=YC (I:=I) hσ hN hJ z
   lia
def Hk (w:Int):List (List Pt):=if w=0 then [[(0,0),(24,0),(24,24),(0,24)]] else if w=1 then [[(0,0),(24,0),(24,24)],[(0,0),(24,24),(0,24)]] else if w=2 then [[(0,0),(24,0),(0,24)],[(24,0),(24,24),(0,24)]] else [[(0,0),(8,0),(8,24),(0,24)],[(8,0),(24,0),(24,24),(8,24)]]
def QG:List (List (List Pt)):=[Hk 0,Hk 1,Hk 2,Hk 3]
theorem Uu {w:Int} (h0:0<=w) (h1:w<4):Hk w∈QG:=by
 unfold QG
 have:w=0\/w=1\/w=2\/w=3:=by lia
 rcases this with rfl | rfl | rfl | rfl <;> simp
theorem Hl:∀w∈QG,w.length<=2/\∀P∈w,P∈pK:=by decide +kernel
theorem Mn:∀w∈QG,∀t∈pA,(w.map λP=>oT crs (lU 1 t P)).sum=48*t/\(w.map λP=>oT crs ((lU (-1) t P).map (dnG t))).sum=48*(24-t):=by decide +kernel
theorem HH:∀P∈pK,∀t∈pA,(∀a∈lU 1 t P,(0<=a.1/\a.1<=24)/\0<=a.2/\a.2<=t)/\(∀a∈(lU (-1) t P).map (dnG t),(0<=a.1/\a.1<=24)/\0<=a.2/\a.2<=24-t)/\(lU 1 t P).length<=10/\Es (lU 1 t P)=true/\Es ((lU (-1) t P).map (dnG t))=true:=by decide +kernel
theorem gv3 {I J N:Int} (a b c:Pt):gv I J N [a,b,c]=if 0<gsd I J N a b/\0<gsd I J N b c/\0<gsd I J N c a then 1 else if 0<=gsd I J N a b/\0<=gsd I J N b c/\0<=gsd I J N c a then 0 else -1:=by
 unfold gv
 simp only[PQ,sX,zN,bG,cC,BZ,List.all_nil,vI,fC,decide_eq_true_eq]
theorem gv4 {I J N:Int} (a b c d:Pt):gv I J N [a,b,c,d]=if 0<gsd I J N a b/\0<gsd I J N b c/\0<gsd I J N c d/\0<gsd I J N d a then 1 else if 0<=gsd I J N a b/\0<=gsd I J N b c/\0<=gsd I J N c d/\0<=gsd I J N d a then 0 else -1:=by
 unfold gv
 simp only[PQ,sX,zN,bG,cC,BZ,List.all_nil,vI,fC,decide_eq_true_eq]
theorem IG {A B:Prop} [Decidable A] [Decidable B] {D:Int} (h1:0<D->A) (h2:D=0->¬A/\B) (h3:D<0->¬A/\¬B):(D=0/\(if A then 1 else if B then 0 else -1:Int)=0)\/(0<D/\(if A then 1 else if B then 0 else -1:Int)=1)\/(D<0/\(if A then 1 else if B then 0 else -1:Int) = -1):=by
 rcases gS D 0 with k | k | k
 ·obtain⟨a,b⟩:=h3 k;rw[if_neg a,if_neg b];exact .inr (.inr ⟨k,rfl⟩)
 ·obtain⟨a,b⟩:=h2 k;rw[if_neg a,if_pos b];exact .inl ⟨k,rfl⟩
 ·rw[if_pos (h1 k)];exact .inr (.inl ⟨k,rfl⟩)
theorem UV {I J N D:Int} {P R:List Pt} (h1:(D=0/\gv I J N P=0)\/(0<D/\gv I J N P=1)\/(D<0/\gv I J N P = -1)) (h2:(-D=0/\gv I J N R=0)\/(0 < -D/\gv I J N R=1)\/(-D<0/\gv I J N R = -1)) (h:∀T∈[P,R],gv I J N T≠0) :
  ([P,R].filter λT=>decide (gv I J N T=1)).length=1:=by
 have n1:=h P (by simp)
 rcases h1 with ⟨d,e⟩ | ⟨d,e⟩ | ⟨d,e⟩
 ·exact absurd e n1
 ·rcases h2 with ⟨d',e'⟩ | ⟨d',e'⟩ | ⟨d',e'⟩
  ·lia
  ·lia
  ·simp[e,e']
 ·rcases h2 with ⟨d',e'⟩ | ⟨d',e'⟩ | ⟨d',e'⟩
  ·lia
  ·simp[e,e']
  ·lia
theorem Qp {I J N:Int} (i0:0<I) (i1:I<24*N) (j0:0<J) (j1:J<24*N):∀w∈QG,(∀P∈w,gv I J N P≠0)->(w.filter λP=>decide (gv I J N P=1)).length=1:=by
 intro w hw h
 unfold QG at hw
 simp only[aK,fS,or_false] at hw
 rcases hw with rfl | rfl | rfl | rfl
 ·have e:gv I J N [(0,0),(24,0),(24,24),(0,24)]=1:=by
   rw[gv4,if_pos];unfold gsd;dsimp only;lia
  show ([[(0,0),(24,0),(24,24),(0,24)]].filter _).length=1
  simp[e]
 ·refine UV (P:=[(0,0),(24,0),(24,24)]) (R:=[(0,0),(24,24),(0,24)]) (D:=I-J) ?_ ?_ h
  ·rw[gv3];unfold gsd;dsimp only;exact IG (λ_=>by lia) (λ_=>by lia) λ_=>by lia
  ·rw[gv3];unfold gsd;dsimp only;exact IG (λ_=>by lia) (λ_=>by lia) λ_=>by lia
 ·refine UV (P:=[(0,0),(24,0),(0,24)]) (R:=[(24,0),(24,24),(0,24)]) (D:=24*N-I-J) ?_ ?_ h
  ·rw[gv3];unfold gsd;dsimp only;exact IG (λ_=>by lia) (λ_=>by lia) λ_=>by lia
  ·rw[gv3];unfold gsd;dsimp only;exact IG (λ_=>by lia) (λ_=>by lia) λ_=>by lia
 ·refine UV (P:=[(0,0),(8,0),(8,24),(0,24)]) (R:=[(8,0),(24,0),(24,24),(8,24)]) (D:=8*N-I) ?_ ?_ h
  ·rw[gv4];unfold gsd;dsimp only;exact IG (λ_=>by lia) (λ_=>by lia) λ_=>by lia
  ·rw[gv4];unfold gsd;dsimp only;exact IG (λ_=>by lia) (λ_=>by lia) λ_=>by lia
end K36
namespace K36
open K34 K33
abbrev KF (m:Mv) (X Y W:Int):D:=sp3 ((m.1*X*m.2.1.2+m.2.1.1*W)*m.2.2.2) ((m.1*Y*m.2.2.2+m.2.2.1*W)*m.2.1.2) (W*m.2.1.2*m.2.2.2)
def SM:FD:=λds Q=>∃(m:Mv) (X Y W:Int),ds=[mvD m,sp3 X Y W]/\(MvF m/\BL 400 X/\BL 400 Y/\BL 400 W)/\Q (KF m X Y W)
theorem Kh:∀ds Q,SM ds Q->ds.length=2:=by rintro ds Q ⟨_,_,_,_,rfl,_⟩;rfl
theorem Gw:∀ds Q,SM ds Q->JN { nx:=λ_=>Q .non,rt:=Q } (dW ["_law_move_here","_law_spot","_law_sign","_law_dx","_law_dy","_law_x","_law_y"] ds):=by
 rintro ds Q ⟨⟨sg,⟨p,q'⟩,u,v⟩,X,Y,W,rfl,⟨mf,bX,bY,bW⟩,q⟩
 have bs:BL 2 sg:=by have:=mf.sg;exact BL.of_lt (m:=2) (by dsimp only at this;lia) (by dsimp only at this;lia)
 have bp:BL 400 p:=mf.bp
 have bq:BL 400 q':=mf.bq
 have bu:BL 400 u:=mf.bu
 have bv:BL 400 v:=mf.bv
 rw[cN 5 rfl]
 unfold JN mvD
 simp only[iQ,Px,aT,bU,bG,cC]
 walk_at "rd"
 refine⟨bs.mulOk bX,(bs.mul bX).mulOk bq,bp.mulOk bW,(((bs.mul bX).mul bq).add (bp.mul bW)).mulOk bv,bs.mulOk bY,(bs.mul bY).mulOk bv,bu.mulOk bW,(((bs.mul bY).mul bv).add (bu.mul bW)).mulOk bq,bW.mulOk bq,(bW.mul bq).mulOk bv,q⟩
def zE:FD:=λds Q=>∃a b c d e f:Int,ds=[sp3 a b c,sp3 d e f]/\(BL 4000 a/\BL 4000 b/\BL 4000 c/\BL 4000 d/\BL 4000 e/\BL 4000 f)/\(a*f=d*c/\b*f=e*c)/\Q (.bl true)
theorem ZP:∀ds Q,zE ds Q->ds.length=2:=by rintro ds Q ⟨_,_,_,_,_,_,rfl,_⟩;rfl
theorem XO:∀ds Q,zE ds Q->CQ { nx:=λ_=>Q .non,rt:=Q } (dW ["_law_one","_law_other"] ds):=by
 rintro ds Q ⟨a,b,c,d,e,f,rfl,⟨b1,b2,b3,b4,b5,b6⟩,⟨e1,e2⟩,q⟩
 rw[cN 0 rfl]
 unfold CQ
 walk_at "rd"
 refine⟨b1.mulOk b6,b4.mulOk b3,?_⟩
 simp only[e1,decide_true]
 walk_at "rd"
 refine⟨b2.mulOk b6,b5.mulOk b3,?_⟩
 simp only[e2,decide_true]
 exact q
def FG:FD:=λds Q=>∃(n:Int) (s h:Pt),ds=[.int n,pt s,pt h]/\Fm s h/\∀X Y W I J N,Spt s h X Y W I J N->((0<I/\I<24*N)/\0<J/\J<24*N)->(BL 200 X/\BL 200 Y/\BL 200 W)->Q (sp3 X Y W)
theorem Ab:∀ds Q,FG ds Q->ds.length=3:=by rintro ds Q ⟨_,_,_,rfl,_⟩;rfl
theorem XY:∀ds Q,FG ds Q->yQ { nx:=λ_=>Q .non,rt:=Q } (dW ["_law_cell_here","_law_s","_law_h","_law_number","_law_x","_law_y","_law_share"] ds):=by
 rintro ds Q ⟨n,s,h,rfl,f,q⟩
 rw[cN 4 rfl]
 unfold yQ
 simp only[iQ,Bk,aT,bU,bG,cC]
 refine cR (λρ=>∃k:Int,(0<=k/\k<2147483629)/\ρ=[sdV (.int n),sdV (pt s),sdV (pt h),sdV (.int k),none,none,none]) (λK hK=>?_) ?_
 ·obtain⟨a0,a1⟩:=fF (a:=n) (b:=1000000000) (by decide)
  have b7:BL 41 (n.fmod 1000000000+7):=BL.of_lt (m:=41) (by lia) (by lia)
  have b31:BL 41 (n.fmod 1000000000+31):=BL.of_lt (m:=41) (by lia) (by lia)
  obtain⟨c0,c1⟩:=fF (a:=(n.fmod 1000000000+7)*(n.fmod 1000000000+31)*48271) (b:=2147483629) (by decide)
  walk_at "rd"
  exact⟨NR,lV,NR,lV,b7.mulOk b31,(b7.mul b31).mulOk (BL.const (n:=20) (by decide)),lV,hK _ ⟨_,⟨c0,c1⟩,rfl⟩⟩
 rintro ρ ⟨k,hk,rfl⟩
 have bk:BL 40 k:=BL.of_lt (m:=40) (by lia) (by lia)
 refine cR (λρ=>∃x:Int,(1<=x/\x<=1008)/\ρ=[sdV (.int n),sdV (pt s),sdV (pt h),sdV (.int k),sdV (.int x),none,none]) (λK hK=>?_) ?_
 ·obtain⟨a0,a1⟩:=fF (a:=k) (b:=1008) (by decide)
  walk_at "rd"
  exact⟨lV,hK _ ⟨_,⟨by lia,by lia⟩,rfl⟩⟩
 rintro ρ ⟨x,hx,rfl⟩
 refine cR (λρ=>∃y:Int,(1<=y/\y<=9972)/\ρ=[sdV (.int n),sdV (pt s),sdV (pt h),sdV (.int k),sdV (.int x),sdV (.int y),none]) (λK hK=>?_) ?_
 ·obtain⟨a0,a1⟩:=fF (a:=(k*69621).fmod 2147483587) (b:=9972) (by decide)
  walk_at "rd"
  exact⟨bk.mulOk (BL.const (n:=20) (by decide)),lV,lV,hK _ ⟨_,⟨by lia,by lia⟩,rfl⟩⟩
 rintro ρ ⟨y,hy,rfl⟩
 have b1:=f.ls.top
 have b2:=f.ls.bot
 have b3:=f.b1
 have b4:=f.b2
 have bx:BL 11 x:=BL.of_lt (m:=11) (by lia) (by lia)
 have by':BL 14 y:=BL.of_lt (m:=14) (by lia) (by lia)
 have k9:BL 14 9973:=BL.const (by decide)
 have k1:BL 14 1009:=BL.const (by decide)
 have kk:BL 30 10062757:=BL.const (by decide)
 refine cR (λρ=>ρ=[sdV (.int n),sdV (pt s),sdV (pt h),sdV (.int k),sdV (.int x),sdV (.int y),sdV (.int (10062757*s.2*h.2))]) (λK hK=>?_) ?_
 ·walk_at "rd"
  exact⟨k1.mulOk k9,kk.mulOk b2,(kk.mul b2).mulOk b4,hK _ rfl⟩
 rintro ρ rfl
 walk_at "rd"
 refine⟨bx.mulOk k9,(bx.mul k9).mulOk b2,((bx.mul k9).mul b2).mulOk b4,bx.mulOk b1,(bx.mul b1).mulOk k9,((bx.mul b1).mul k9).mulOk b4,by'.mulOk b3,(by'.mul b3).mulOk k1,((by'.mul b3).mul k1).mulOk b2,?_⟩
 have S0:=f.sp
 refine q _ _ _ (24*x*9973) (24*y*1009) 10062757 ⟨?_,by decide,?_,?_⟩ ⟨⟨by lia,by lia⟩,by lia,by lia⟩ ⟨?_,?_,?_⟩
 ·have:10062757*s.2*h.2=10062757*(s.2*h.2):=by grind
  rw[this];lia
 ·unfold eF;grind
 ·unfold eF;grind
 ·exact (((bx.mul k9).mul b2).mul b4).mono (by decide)
 ·exact ((((bx.mul b1).mul k9).mul b4).add (((by'.mul b3).mul k1).mul b2)).mono (by decide)
 ·exact ((kk.mul b2).mul b4).mono (by decide)
end K36
namespace K36
open K34 K33
structure HB (s h:Pt) (L:List Bt):Prop where
 fm:Fm s h
 len:L.length<=4
 each:∀b∈L,Gp s h b.1 b.2.1 b.2.2.1/\(Cvx b.1/\b.1.length<=10)/\Gin b.1/\MvF b.2.2.2
abbrev hit (I J N:Int) (b:Bt):Bool:=decide (gv I J N b.1=1)
def EZ:FD:=λds Q=>∃(s h:Pt) (L:List Bt) (X Y W I J N:Int),ds=[.lst (L.map btG),sp3 X Y W]/\(HB s h L/\Spt s h X Y W I J N)/\(BL 400 X/\BL 400 Y/\BL 400 W) /\
 ((∃b∈L,gv I J N b.1=0)->Q .non)/\((∀b∈L,gv I J N b.1≠0)->Q (.lst ((L.filter (hit I J N)).map λb=>KF b.2.2.2 X Y W)))
theorem ZT:∀ds Q,EZ ds Q->ds.length=2:=by rintro ds Q ⟨_,_,_,_,_,_,_,_,_,rfl,_⟩;rfl
theorem XT:∀ds Q,EZ ds Q->wS SM FB { nx:=λ_=>Q .non,rt:=Q } (dW ["_law_bits_here","_law_spot","_law_found","_law_piece","_law_move_here","_law_where"] ds):=by
 rintro ds Q ⟨s,h,L,X,Y,W,I,J,N,rfl,⟨hb,sp⟩,⟨bX,bY,bW⟩,q0,q1⟩
 rw[cN 4 rfl]
 unfold wS
 simp only[iQ,Bk,aT,bU,bG,cC]
 refine cR (λρ=>ρ=[sdV (.lst (L.map btG)),sdV (sp3 X Y W),some (.own []),none,none,none]) (λK hK=>?_) ?_
 ·walk_at "rd";exact hK _ rfl
 rintro ρ rfl
 refine cR (λρ=>∃u v w,(∀b∈L,gv I J N b.1≠0)/\ρ=[sdV (.lst (L.map btG)),sdV (sp3 X Y W),some (.own ((L.filter (hit I J N)).map λb=>KF b.2.2.2 X Y W)),u,v,w]) (λK hK=>?_) ?_
 ·simp only[oW,riL,cG,aJ]
  refine lD (λys ρ=>∃(dn td:List Bt) (u v w:Option L2.R2.S),L=dn++td/\ys=td.map btG/\(∀b∈dn,gv I J N b.1≠0)/\ρ=[sdV (.lst (L.map btG)),sdV (sp3 X Y W),some (.own ((dn.filter (hit I J N)).map λb=>KF b.2.2.2 X Y W)),u,v,w]) ?_ ?_ _ _ ⟨[],L,none,none,none,rfl,rfl,by simp,rfl⟩
  ·rintro y ys ρ ⟨dn,td,u,v,w,ec,ey,hd,rfl⟩ F hr hbk hn _
   cases td with
   | nil=>cases ey
   | cons b td =>
    cases ey
    have mb:b∈L:=by rw[ec];simp
    obtain⟨g,⟨cv,l10⟩,gi,mf⟩:=hb.each b mb
    obtain⟨ip,bs,bz,lz⟩:=Gp.facts hb.fm gi cv g
    have l3:=cv.len
    unfold tD btG
    simp only[rJ,iH,rH,fB,bZ,eW,true_and,bQ,bP]
    refine cR (λρ=>ρ=[sdV (.lst (L.map btG)),sdV (sp3 X Y W),some (.own ((dn.filter (hit I J N)).map λb=>KF b.2.2.2 X Y W)),sdV (pc b.2.1 b.2.2.1),sdV (mvD b.2.2.2),sdV (.int (gv I J N b.1))]) (λK hK2=>?_) ?_
    ·simp only[eX,cV,aC,aV,cG,aJ,aR,bQ,bP]
     refine⟨b.2.1,b.2.2.1,X,Y,W,rfl,⟨bs.mono (by decide),λz hz=>⟨(bz z hz).1.mono (by decide),(bz z hz).2.mono (by decide)⟩,by lia,by lia⟩,⟨bX.mono (by decide),bY.mono (by decide),bW.mono (by decide)⟩,λM h1 h2=>?_⟩
     rw[Fv hb.fm g sp h1 h2]
     exact hK2 _ rfl
    rintro ρ rfl
    generalize hm:mvD b.2.2.2=MD
    generalize hp:pc b.2.1 b.2.2.1=PD
    refine cR (λρ=>gv I J N b.1≠0/\ρ=[sdV (.lst (L.map btG)),sdV (sp3 X Y W),some (.own ((dn.filter (hit I J N)).map λb=>KF b.2.2.2 X Y W)),sdV PD,sdV MD,sdV (.int (gv I J N b.1))]) (λK hK2=>?_) ?_
    ·by_cases z:gv I J N b.1=0
     ·simp only[z]
      walk_at "rd"
      exact hr ▸ q0 ⟨b,mb,z⟩
     ·walk_at "rd"
      simp only[z,decide_false,aM,if_false]
      exact hK2 _ ⟨z,rfl⟩
    rintro ρ ⟨hz,rfl⟩
    have hd2:∀x∈dn++[b],gv I J N x.1≠0:=λx hx=>by
     rcases cY.mp hx with k | k
     ·exact hd x k
     ·rw[dU.mp k];exact hz
    have le:(dn.filter (hit I J N)).length<=4:=by
     have:=congrArg fJ ec
     have:=hb.len
     have:=List.length_filter_le (hit I J N) dn
     simp at *;lia
    by_cases z:gv I J N b.1=1
    ·simp only[z]
     simp only[kG,dX,r2,aL,rC,pV,vB,cV,aC,aV,cG,aJ,aR,bQ,bP,decide_true,if_true,aM,if_false]
     refine⟨b.2.2.2,X,Y,W,by rw[hm],⟨mf,bX,bY,bW⟩,sM (by simp;lia),hn _ ⟨dn++[b],td,sdV PD,sdV MD,sdV (.int 1),by rw[ec];simp,rfl,hd2,?_⟩⟩
     rw[uD,cU]
     have:[b].filter (hit I J N)=[b]:=by simp[hit,z]
     rw[this];rfl
    ·walk_at "rd"
     simp only[z,decide_false,aM,if_false]
     refine hn _ ⟨dn++[b],td,sdV PD,sdV MD,sdV (.int (gv I J N b.1)),by rw[ec];simp,rfl,hd2,?_⟩
     rw[uD,cU]
     have:[b].filter (hit I J N)=[]:=by simp[hit,z]
     rw[this];simp
  ·rintro ρ ⟨dn,td,u,v,w,ec,ey,hd,rfl⟩
   have:td=[]:=by simpa using ey.symm
   subst this
   rw[eV] at ec
   subst ec
   exact hK _ ⟨u,v,w,hd,rfl⟩
 rintro ρ ⟨u,v,w,hd,rfl⟩
 simp only[xU,S.fz,fV,cG,aJ,aR,bQ,bP]
 exact q1 hd
section
variable {s h dn lh:Pt} {t I J N:Int} {bs l1 l2:List Bt}
theorem Spl.lower (Sp:Spl s h dn t bs l1 l2) (ht:t∈pA) (hN:0<N) (hJ:J<t*N) (hp:∀b∈bs,b.1∈pK/\gv I J N b.1≠0) :
  (∀b∈l1,gv I J N b.1≠0)/\(l1.filter (hit I J N)).map (λb=>b.2.2.2)=(bs.filter (hit I J N)).map λb=>b.2.2.2:=by
 induction Sp with
 | nil=>exact⟨by simp,rfl⟩
 | @cons b bs l1 l2 sh1 sh2 zs1 zs2 m' a1 a2 a3 a4 _ ih =>
  obtain⟨i1,i2⟩:=ih λx hx=>hp x (aW _ hx)
  obtain⟨p1,p2⟩:=hp b (cF ..)
  have e:=Jv (σ:=1) (.inl rfl) p1 ht hN (by lia) p2
  constructor
  ·intro x hx
   rcases aK.mp hx with rfl | hx
   ·dsimp only;rw[e];exact p2
   ·exact i1 x hx
  ·simp only[mB,hit,e]
   split
   ·simp only[aT];rw[i2]
   ·exact i2
theorem Spl.upper (Sp:Spl s h dn t bs l1 l2) (ht:t∈pA) (hN:0<N) (hJ:t*N<J) (hp:∀b∈bs,b.1∈pK/\gv I J N b.1≠0) :
  (∀b∈l2,gv I (J-t*N) N b.1≠0)/\(l2.filter (hit I (J-t*N) N)).length=(bs.filter (hit I J N)).length/\∀x∈l2.filter (hit I (J-t*N) N),∃b∈bs.filter (hit I J N),MvS dn b.2.2.2 x.2.2.2/\MvF x.2.2.2:=by
 induction Sp with
 | nil=>exact⟨by simp,rfl,by simp⟩
 | @cons b bs l1 l2 sh1 sh2 zs1 zs2 m' a1 a2 a3 a4 _ ih =>
  obtain⟨i1,i2,i3⟩:=ih λx hx=>hp x (aW _ hx)
  obtain⟨p1,p2⟩:=hp b (cF ..)
  have e0:=Jv (σ:=-1) (.inr rfl) p1 ht hN (by lia) p2
  have e:gv I (J-t*N) N ((lU (-1) t b.1).map (dnG t))=gv I J N b.1:=by rw[Vo,e0]
  refine⟨?_,?_,?_⟩
  ·intro x hx
   rcases aK.mp hx with rfl | hx
   ·dsimp only;rw[e];exact p2
   ·exact i1 x hx
  ·simp only[mB,hit,e]
   split
   ·simp only[bZ];rw[i2]
   ·exact i2
  ·intro x hx
   simp only[mB,hit,e] at hx ⊢
   split at hx
   ·rename_i k
    rw[if_pos k]
    rcases aK.mp hx with rfl | hx
    ·exact⟨b,cF ..,a3,a4⟩
    ·obtain⟨y,hy,z⟩:=i3 x hx
     exact⟨y,aW _ hy,z⟩
   ·rename_i k
    rw[if_neg k]
    exact i3 x hx
theorem Spl.hb (Sp:Spl s h dn t bs l1 l2) (f:Fm s h) (ht:t∈pA) (lb:bs.length<=4) (hb:∀b∈bs,BtOk s h b):HB s h bs/\HB s h l1/\HB s h l2:=by
 obtain⟨e1,e2⟩:=Sp.len
 refine⟨⟨f,lb,λb hb'=>?_⟩,⟨f,by lia,?_⟩,⟨f,by lia,?_⟩⟩
 ·obtain⟨p,g,mf,_⟩:=hb b hb'
  have c:=ID (σ:=1) (.inl rfl) p ht
  have l4:∀P∈pK,P.length<=4:=by decide
  exact⟨g,⟨c.1.1,by have:=l4 _ p;lia⟩,XI _ p,mf⟩
 ·clear lb e1 e2
  induction Sp with
  | nil=>simp
  | @cons b bs l1 l2 sh1 sh2 zs1 zs2 m' a1 a2 a3 a4 _ ih =>
   intro x hx
   rcases aK.mp hx with rfl | hx
   ·obtain⟨p,g,mf,_⟩:=hb b (cF ..)
    obtain⟨w1,w2,w3,w4,w5⟩:=HH b.1 p t ht
    exact⟨a1,⟨LH w4,w3⟩,(Da b.1 p t ht).1,mf⟩
   ·exact ih (λy hy=>hb y (aW _ hy)) x hx
 ·clear lb e1 e2
  induction Sp with
  | nil=>simp
  | @cons b bs l1 l2 sh1 sh2 zs1 zs2 m' a1 a2 a3 a4 _ ih =>
   intro x hx
   rcases aK.mp hx with rfl | hx
   ·obtain⟨p,g,mf,_⟩:=hb b (cF ..)
    obtain⟨w1,w2,w3,w4,w5⟩:=HH b.1 p t ht
    have t0:=HC ht
    refine⟨a2,⟨LH w5,by rw[cI];exact WG b.1 p t ht⟩,λa ha=>?_,a4⟩
    obtain⟨x0,y0,y1⟩:=w2 a ha
    exact⟨x0,y0,by lia⟩
   ·exact ih (λy hy=>hb y (aW _ hy)) x hx
theorem Spl.box (Sp:Spl s h dn t bs l1 l2) (f:Fm s h) (ht:t∈pA) (lb:bs.length<=4) (hb:∀b∈bs,BtOk s h b) (hw:bs.map (·.1)∈QG):Bx s h t l1/\Bx s h (24-t) l2:=by
 have t0:=HC ht
 obtain⟨B0,B1,B2⟩:=Sp.hb f ht lb hb
 obtain⟨a1,a2⟩:=Mn _ hw t ht
 have s1:(l1.map λb=>oT crs b.1)=(bs.map (·.1)).map λP=>oT crs (lU 1 t P):=by
  clear lb hb hw B0 B1 B2 a1 a2
  induction Sp with
  | nil=>rfl
  | cons _ _ _ _ _ ih=>simp only[aT];rw[ih]
 have s2:(l2.map λb=>oT crs b.1)=(bs.map (·.1)).map λP=>oT crs ((lU (-1) t P).map (dnG t)):=by
  clear lb hb hw B0 B1 B2 a1 a2 s1
  induction Sp with
  | nil=>rfl
  | cons _ _ _ _ _ ih=>simp only[aT];rw[ih]
 have r1:∀b∈l1,∀a∈b.1,(0<=a.1/\a.1<=24)/\0<=a.2/\a.2<=t:=by
  clear lb hw B0 B1 B2 a1 a2 s1 s2
  induction Sp with
  | nil=>simp
  | @cons b bs l1 l2 sh1 sh2 zs1 zs2 m' _ _ _ _ _ ih =>
   intro x hx
   rcases aK.mp hx with rfl | hx
   ·exact (HH b.1 (hb b (cF ..)).poly t ht).1
   ·exact ih (λy hy=>hb y (aW _ hy)) x hx
 have r2:∀b∈l2,∀a∈b.1,(0<=a.1/\a.1<=24)/\0<=a.2/\a.2<=24-t:=by
  clear lb hw B0 B1 B2 a1 a2 s1 s2 r1
  induction Sp with
  | nil=>simp
  | @cons b bs l1 l2 sh1 sh2 zs1 zs2 m' _ _ _ _ _ ih =>
   intro x hx
   rcases aK.mp hx with rfl | hx
   ·exact (HH b.1 (hb b (cF ..)).poly t ht).2.1
   ·exact ih (λy hy=>hb y (aW _ hy)) x hx
 refine⟨⟨f,by lia,B1.len,λb hb'=>?_,by rw[s1,a1]⟩,⟨f,by lia,B2.len,λb hb'=>?_,by rw[s2,a2]⟩⟩
 ·obtain⟨g,c,_,m⟩:=B1.each b hb'
  exact⟨g,c,r1 b hb',m⟩
 ·obtain⟨g,c,_,m⟩:=B2.each b hb'
  exact⟨g,c,r2 b hb',m⟩
end
end K36
namespace K36
open K34 K33
structure Kp (s h lh dn:Pt) (t:Int) (bs l1 l2:List Bt):Prop where
 fm:Fm s h
 row:Row h lh t
 ht:t∈pA
 d:Dn h t dn
 sp:Spl s h dn t bs l1 l2
 lb:bs.length<=4
 ok:∀b∈bs,BtOk s h b
 way:bs.map (·.1)∈QG
def FA:FD:=λds Q=>∃(s h lh dn up:Pt) (t place:Int) (bs l1 l2:List Bt) (X Y W I J N:Int),ds=[.tup [.tup [.int place,pt lh,.lst (l1.map btG)],.tup [.int place,pt up,.lst (l2.map btG)]],.lst (bs.map btG),pt lh,pt s,sp3 X Y W]/\Kp s h lh dn t bs l1 l2 /\
 Spt s h X Y W I J N/\((0<I/\I<24*N)/\0<J/\J<24*N)/\(BL 200 X/\BL 200 Y/\BL 200 W)/\Q (.bl true)
theorem ZU:∀ds Q,FA ds Q->ds.length=5:=by rintro ds Q ⟨_,_,_,_,_,_,_,_,_,_,_,_,_,_,_,_,rfl,_⟩;rfl
section
variable {s h lh dn:Pt} {t X Y W I J N:Int}
theorem YV (f:Fm s h) (r:Row h lh t) (sp:Spt s h X Y W I J N):eF s h*N*((Y*s.2-s.1*X)*lh.2-lh.1*s.2*W)=W*s.2*s.2*h.1*lh.2*(J-t*N):=by
 obtain⟨_,_,sx,sy⟩:=sp
 have w:=r.worth
 have l:eF s h*N*((Y*s.2-s.1*X)*lh.2-lh.1*s.2*W)=(s.2*(eF s h*Y*N)-s.1*(eF s h*X*N))*lh.2-s.2*s.2*N*W*(24*(lh.1*h.2)):=by unfold eF;grind
 rw[l,sx,sy,w];grind
theorem Uk (r:Row h lh t) (sp:Spt s h X Y W I J N):Spt s h (X*lh.2) (Y*lh.2-lh.1*W) (W*lh.2) I (J-t*N) N:=by
 obtain⟨sw,sn,sx,sy⟩:=sp
 have w:=r.worth
 refine⟨aY sw r.pos,sn,?_,?_⟩
 ·have:eF s h*(X*lh.2)*N=eF s h*X*N*lh.2:=by grind
  rw[this,sx];grind
 ·have:eF s h*(Y*lh.2-lh.1*W)*N=(eF s h*Y*N)*lh.2-s.2*N*W*(24*(lh.1*h.2)):=by unfold eF;grind
  rw[this,sy,w];grind
theorem Vh (f:Fm s h) (r:Row h lh t) (d:Dn h t dn):dn.1*lh.2 = -(lh.1*dn.2):=by
 have w:=r.worth
 have w2:=d.worth
 have p:(0:Int)<24*h.2:=by have:=f.h2;lia
 refine cH (a:=24*h.2) (by lia) ?_
 have e1:24*h.2*(dn.1*lh.2)=24*(dn.1*h.2)*lh.2:=by grind
 have e2:24*h.2 * -(lh.1*dn.2) = -(24*(lh.1*h.2)*dn.2):=by grind
 rw[e1,e2,w,w2];grind
theorem Hy {m m':Mv} (f:Fm s h) (r:Row h lh t) (d:Dn h t dn) (ms:MvS dn m m') :
  (m'.1*(X*lh.2)*m'.2.1.2+m'.2.1.1*(W*lh.2))*m'.2.2.2*(W*m.2.1.2*m.2.2.2)=(m.1*X*m.2.1.2+m.2.1.1*W)*m.2.2.2*(W*lh.2*m'.2.1.2*m'.2.2.2) /\
  (m'.1*(Y*lh.2-lh.1*W)*m'.2.2.2+m'.2.2.1*(W*lh.2))*m'.2.1.2*(W*m.2.1.2*m.2.2.2)=(m.1*Y*m.2.2.2+m.2.2.1*W)*m.2.1.2*(W*lh.2*m'.2.1.2*m'.2.2.2):=by
 obtain⟨e1,e2,e3⟩:=ms
 have k:=Vh f r d
 have dp:=d.pos
 obtain⟨sg,⟨p,q⟩,u,v⟩:=m
 obtain⟨sg',⟨p',q'⟩,u',v'⟩:=m'
 dsimp only at *
 subst e1
 constructor
 ·have l:(sg'*(X*lh.2)*q'+p'*(W*lh.2))*v'*(W*q*v)=lh.2*v'*W*v*(sg'*X*q*q'+W*(p'*q)):=by grind
  rw[l,e2];grind
 ·have y:u'*v*lh.2=(sg'*lh.1*v+u*lh.2)*v':=by
   refine cH (a:=dn.2) (by lia) ?_
   have l:dn.2*(u'*v*lh.2)=u'*(dn.2*v)*lh.2:=by grind
   rw[l,e3]
   have l2:(sg' * -dn.1*v+u*dn.2)*v'*lh.2 = -(sg'*v*v'*(dn.1*lh.2))+u*dn.2*v'*lh.2:=by grind
   rw[l2,k];grind
  have l:(sg'*(Y*lh.2-lh.1*W)*v'+u'*(W*lh.2))*q'*(W*q*v)=q'*W*q*(sg'*(Y*lh.2-lh.1*W)*v'*v+W*(u'*v*lh.2)):=by grind
  rw[l,y];grind
theorem Ic {m:Mv} (mf:MvF m) (bX:BL 400 X) (bY:BL 400 Y) (bW:BL 400 W):BL 4000 ((m.1*X*m.2.1.2+m.2.1.1*W)*m.2.2.2)/\BL 4000 ((m.1*Y*m.2.2.2+m.2.2.1*W)*m.2.1.2)/\BL 4000 (W*m.2.1.2*m.2.2.2):=by
 have bs:BL 2 m.1:=by have:=mf.sg;exact BL.of_lt (m:=2) (by lia) (by lia)
 exact⟨(((((bs.mul bX).mul mf.bq).add (mf.bp.mul bW)).mul mf.bv)).mono (by decide),(((((bs.mul bY).mul mf.bv).add (mf.bu.mul bW)).mul mf.bq)).mono (by decide),((bW.mul mf.bq).mul mf.bv).mono (by decide)⟩
end
theorem La {α:Type} {l:List α} (h:l.length=1):∃x,l=[x]:=by
 match l,h with
 | [x],_=>exact⟨x,rfl⟩
theorem XU:∀ds Q,FA ds Q->vF zE EZ { nx:=λ_=>Q .non,rt:=Q } (dW ["_law_found","_law_bits_here","_law_height","_law_lean","_law_spot","_law_due_here","_law_above","_law_homes","_law_low"] ds):=by
 rintro ds Q ⟨s,h,lh,dn,up,t,place,bs,l1,l2,X,Y,W,I,J,N,rfl,⟨f,r,ht,d,Sp,lb,hb,hw⟩,sp,⟨⟨i0,i1⟩,j0,j1⟩,⟨bX,bY,bW⟩,q⟩
 obtain⟨B0,B1,B2⟩:=Sp.hb f ht lb hb
 have hN:=sp.n
 have bX4:BL 400 X:=bX.mono (by decide)
 have bY4:BL 400 Y:=bY.mono (by decide)
 have bW4:BL 400 W:=bW.mono (by decide)
 have c1:0<eF s h*N:=aY f.ep hN
 have c2:0<W*s.2*s.2*h.1*lh.2:=aY (aY (aY (aY sp.w f.ls.pos) f.ls.pos) f.h1) r.pos
 have sg:=sK c1 c2 (YV f r sp)
 have bA1:BL 300 (Y*s.2-s.1*X):=((bY.mul f.ls.bot).sub (f.ls.top.mul bX)).mono (by decide)
 rw[cN 4 rfl]
 unfold vF
 simp only[iQ,Bk,aT,bU,bG,cC]
 generalize h1D:D.lst (l1.map btG)=LD1
 generalize h2D:D.lst (l2.map btG)=LD2
 generalize h0D:D.lst (bs.map btG)=LD0
 have b400:BL 400 X/\BL 400 Y/\BL 400 W:=⟨bX4,bY4,bW4⟩
 refine cR (λρ=>∃x:D,(x = .non\/(∀b∈bs,gv I J N b.1≠0)/\x = .lst ((bs.filter (hit I J N)).map λb=>KF b.2.2.2 X Y W))/\ρ=[sdV (.tup [.tup [.int place,pt lh,LD1],.tup [.int place,pt up,LD2]]),sdV LD0,sdV (pt lh),sdV (pt s),sdV (sp3 X Y W),sdV x,none,none,none]) (λK hK=>?_) ?_
 ·simp only[eX,cV,aC,aV,cG,aJ,aR,bQ,bP]
  exact⟨s,h,bs,X,Y,W,I,J,N,by rw[h0D],⟨B0,sp⟩,b400,λ_=>hK _ ⟨.non,.inl rfl,rfl⟩,λk=>hK _ ⟨_,.inr ⟨k,rfl⟩,rfl⟩⟩
 rintro ρ ⟨x,hx,rfl⟩
 obtain⟨A,hA⟩:∃A,A=(Y*s.2-s.1*X)*lh.2-lh.1*s.2*W:=⟨_,rfl⟩
 rw[<-hA] at sg
 refine cR (λρ=>ρ=[sdV (.tup [.tup [.int place,pt lh,LD1],.tup [.int place,pt up,LD2]]),sdV LD0,sdV (pt lh),sdV (pt s),sdV (sp3 X Y W),sdV x,sdV (.int ((Y*s.2-s.1*X)*lh.2)),none,none]) (λK hK=>?_) ?_
 ·walk_at "rd"
  exact⟨bY.mulOk f.ls.bot,f.ls.top.mulOk bX,bA1.mulOk r.b2,hK _ rfl⟩
 rintro ρ rfl
 refine cR (λρ=>ρ=[sdV (.tup [.tup [.int place,pt lh,LD1],.tup [.int place,pt up,LD2]]),sdV LD0,sdV (pt lh),sdV (pt s),sdV (sp3 X Y W),sdV x,sdV (.int A),none,none]) (λK hK=>?_) ?_
 ·walk_at "rd"
  refine⟨r.b1.mulOk f.ls.bot,(r.b1.mul f.ls.bot).mulOk bW,?_⟩
  rw[<-hA]
  exact hK _ rfl
 rintro ρ rfl
 refine cR (λρ=>A≠0/\(∀b∈bs,gv I J N b.1≠0)/\ρ=[sdV (.tup [.tup [.int place,pt lh,LD1],.tup [.int place,pt up,LD2]]),sdV LD0,sdV (pt lh),sdV (pt s),sdV (sp3 X Y W),sdV (.lst ((bs.filter (hit I J N)).map λb=>KF b.2.2.2 X Y W)),sdV (.int A),none,none]) (λK hK=>?_) ?_
 ·rcases hx with rfl | ⟨k,rfl⟩
  ·walk_at "rd"
   exact q
  ·by_cases z:A=0
   ·walk_at "rd"
    simp only[z,decide_true,if_true]
    exact q
   ·walk_at "rd"
    simp only[z,decide_false,aM,if_false]
    exact hK _ ⟨z,k,rfl⟩
 rintro ρ ⟨z,k,rfl⟩
 have hp:∀b∈bs,b.1∈pK/\gv I J N b.1≠0:=λb hb'=>⟨(hb b hb').poly,k b hb'⟩
 have w1:=Qp i0 i1 j0 j1 _ hw (λP hP=>by
  obtain⟨b,hb',e⟩:=cB.mp hP
  rw[<-e];exact k b hb')
 have w2:(bs.filter (hit I J N)).length=1:=by
  rw[List.filter_map,cI] at w1
  exact w1
 obtain⟨b0,e0⟩:=La w2
 have m0:b0∈bs:=(nD.mp (by rw[e0];simp:b0∈bs.filter (hit I J N))).1
 have mf0:=(hb b0 m0).mf
 rw[e0]
 simp only[aT,bU]
 generalize hDue:KF b0.2.2.2 X Y W=DueD
 obtain⟨c4,c5,c6⟩:=Ic mf0 bX4 bY4 bW4
 refine cR (λρ=>∃y:D,(J<t*N->y = .lst [DueD])/\ρ=[sdV (.tup [.tup [.int place,pt lh,LD1],.tup [.int place,pt up,LD2]]),sdV LD0,sdV (pt lh),sdV (pt s),sdV (sp3 X Y W),sdV (.lst [DueD]),sdV (.int A),sdV y,none]) (λK hK=>?_) ?_
 ·simp only[eX,cV,aC,aV,cG,aL,r2,rC,pI,uL,aJ,aR,bQ,bP]
  refine⟨s,h,l1,X,Y,W,I,J,N,by rw[h1D],⟨B1,sp⟩,b400,λ⟨b,hb',z0⟩=>hK _ ⟨.non,λhJ=>?_,rfl⟩,λk1=>hK _ ⟨_,λhJ=>?_,rfl⟩⟩
  ·exact absurd z0 ((Sp.lower ht hN hJ hp).1 b hb')
  ·have:=(Sp.lower ht hN hJ hp).2
   rw[e0] at this
   have e:(l1.filter (hit I J N)).map (λb=>KF b.2.2.2 X Y W)=((l1.filter (hit I J N)).map (λb=>b.2.2.2)).map λm=>KF m X Y W:=by rw[dD];rfl
   rw[e,this,<-hDue];rfl
 rintro ρ ⟨y,hy,rfl⟩
 refine cR (λρ=>∃(g:D) (u:Option L2.R2.S),(∀P:D->Prop,P (.bl true)->zE [g,DueD] P)/\ρ=[sdV (.tup [.tup [.int place,pt lh,LD1],.tup [.int place,pt up,LD2]]),sdV LD0,sdV (pt lh),sdV (pt s),sdV (sp3 X Y W),sdV (.lst [DueD]),sdV (.int A),sdV (.lst [g]),u]) (λK hK=>?_) ?_
 ·by_cases up':0<A
  ·have hJ:t*N<J:=by have:=sg.1.mp up';lia
   obtain⟨u1,u2,u3⟩:=Sp.upper ht hN hJ hp
   rw[w2] at u2
   obtain⟨b2,e2⟩:=La u2
   obtain⟨b,hb',ms,mf2⟩:=u3 b2 (by rw[e2];simp)
   rw[e0] at hb'
   obtain rfl:=dU.mp hb'
   have x2:BL 400 (X*lh.2):=(bX.mul r.b2).mono (by decide)
   have y2:BL 400 (Y*lh.2-lh.1*W):=((bY.mul r.b2).sub (r.b1.mul bW)).mono (by decide)
   have w3:BL 400 (W*lh.2):=(bW.mul r.b2).mono (by decide)
   simp only[kG,dX,dY,eX,cV,jP,aC,aV,cG,aL,r2,rC,nG,kT,eJ,pI,oD,uL,aJ,aR,bQ,bP,up',decide_true,if_true,bZ,eW]
   refine⟨bY.mulOk r.b2,r.b1.mulOk bW,bX.mulOk r.b2,bW.mulOk r.b2,sz3,?_⟩
   refine⟨s,h,l2,X*lh.2,Y*lh.2-lh.1*W,W*lh.2,I,J-t*N,N,by rw[h2D],⟨B2,Uk r sp⟩,⟨x2,y2,w3⟩,λ⟨b',hb2,z0⟩=>absurd z0 (u1 b' hb2),λ_=>?_⟩
   rw[e2]
   obtain⟨c1',c2',c3'⟩:=Ic mf2 x2 y2 w3
   refine hK _ ⟨KF b2.2.2.2 (X*lh.2) (Y*lh.2-lh.1*W) (W*lh.2),sdV (.int (Y*lh.2-lh.1*W)),λP hP=>?_,rfl⟩
   rw[<-hDue]
   exact⟨_,_,_,_,_,_,rfl,⟨c1',c2',c3',c4,c5,c6⟩,Hy f r d ms,hP⟩
  ·have hJ:J<t*N:=by
    have:A<0:=by lia
    have:=sg.2.mp this;lia
   rw[hy hJ]
   simp only[kG,dX,iB,aL,r2,rC,nG,aJ,aR,up',decide_false,aM,if_false]
   refine hK _ ⟨DueD,none,λP hP=>?_,rfl⟩
   rw[<-hDue]
   exact⟨_,_,_,_,_,_,rfl,⟨c4,c5,c6,c4,c5,c6⟩,⟨rfl,rfl⟩,hP⟩
 rintro ρ ⟨g,u,al,rfl⟩
 walk_at "rd"
 refine al _ ?_
 exact q
end K36
namespace K36
open K34 K33
theorem Re {s h:Pt} {share:Int} {A P:List Pt} {Q:D->Prop} (f:Fm s h) (hP:P∈pK) (h0:0<share) (h1:BL 100 share) (hA:A.length<=10) (eq:A.map (scl (eF s h))=(P.map (afF s h)).map (scl share)) (q:∀sh zs,Gp s h P sh zs->Q (pc sh zs)):LV [.int share,pts A] Q:=by
 obtain⟨⟨cP,_⟩,_⟩:=ID (σ:=1) (.inl rfl) hP (t:=3) (by decide)
 have cA:=SS f.sp f.hp cP (lo:=s.1*h.2)
 have nP:(P.map (afF s h)).Nodup:=cA.nodup
 have n1:((P.map (afF s h)).map (scl share)).Nodup:=qK (scl share) (λa b hn k=>hn (LR h0 k)) nP
 have nA:A.Nodup:=by
  rw[<-eq] at n1
  exact zH (scl (eF s h)) (λa b hn k=>hn (by rw[k])) n1
 have l3:3<=A.length:=by
  have l:=congrArg fJ eq
  have:=cP.len
  simp at l;lia
 refine⟨share,A,rfl,⟨h0,h1⟩,⟨by rintro rfl;simp at l3,by lia⟩,λm sh zs j d=>?_⟩
 exact q _ _ (UU (Jo d) h0 f.ep (λk=>by have:=cA.len;rw[k] at this;simp at this) eq nA)
def EY:FD:=λds Q=>∃(s h:Pt) (w:Int),ds=[pt s,pt h,.int w]/\(Fm s h/\0<=w/\w<4)/\∀L:List (List Pt × Int × List Pt),L.map (·.1)=Hk w->(∀p∈L,Gp s h p.1 p.2.1 p.2.2)->Q (.lst (L.map λp=>pc p.2.1 p.2.2))
theorem ZR:∀ds Q,EY ds Q->ds.length=3:=by rintro ds Q ⟨_,_,_,rfl,_⟩;rfl
theorem XR:∀ds Q,EY ds Q->yN LV { nx:=λ_=>Q .non,rt:=Q } (dW ["_law_s","_law_h","_law_way","_law_share","_law_low","_law_high","_law_one","_law_two","_law_three","_law_four","_law_amid","_law_first"] ds):=by
 rintro ds Q ⟨s,h,w,rfl,⟨f,w0,w4⟩,q⟩
 have sp:=f.sp
 have bS:BL 90 (s.2*h.2):=(f.ls.bot.mul f.b2).mono (by decide)
 have bl:BL 90 (s.1*h.2):=(f.ls.top.mul f.b2).mono (by decide)
 have bh:BL 90 (h.1*s.2):=(f.b1.mul f.ls.bot).mono (by decide)
 have due1:∀{P A:List Pt} {R:D->Prop},P∈pK->A.length<=10->A.map (scl (eF s h))=(P.map (afF s h)).map (scl (s.2*h.2))->(∀sh zs,Gp s h P sh zs->R (pc sh zs))->LV [.int (s.2*h.2),pts A] R:=λhP hA e q=>Re f hP sp (bS.mono (by decide)) hA e q
 have due3:∀{P A:List Pt} {R:D->Prop},P∈pK->A.length<=10->A.map (scl (eF s h))=(P.map (afF s h)).map (scl (3*(s.2*h.2)))->(∀sh zs,Gp s h P sh zs->R (pc sh zs))->LV [.int (3*(s.2*h.2)),pts A] R:=λhP hA e q=>Re f hP (by lia) (((BL.const (n:=3) (i:=3) (by decide)).mul bS).mono (by decide)) hA e q
 rw[cN 9 rfl]
 unfold yN
 simp only[iQ,Wy,aT,bU,bG,cC]
 refine cR (λρ=>ρ=[sdV (pt s),sdV (pt h),sdV (.int w),sdV (.int (s.2*h.2)),none,none,none,none,none,none,none,none]) (λK hK=>?_) ?_
 ·walk_at "rd";exact⟨f.ls.bot.mulOk f.b2,hK _ rfl⟩
 rintro ρ rfl
 refine cR (λρ=>ρ=[sdV (pt s),sdV (pt h),sdV (.int w),sdV (.int (s.2*h.2)),sdV (.int (s.1*h.2)),none,none,none,none,none,none,none]) (λK hK=>?_) ?_
 ·walk_at "rd";exact⟨f.ls.top.mulOk f.b2,hK _ rfl⟩
 rintro ρ rfl
 refine cR (λρ=>ρ=[sdV (pt s),sdV (pt h),sdV (.int w),sdV (.int (s.2*h.2)),sdV (.int (s.1*h.2)),sdV (.int (h.1*s.2)),none,none,none,none,none,none]) (λK hK=>?_) ?_
 ·walk_at "rd";exact⟨f.b1.mulOk f.ls.bot,hK _ rfl⟩
 rintro ρ rfl
 have eE:eF s h=24*(s.2*h.2):=rfl
 have eA:∀z,afF s h z=(z.1*(s.2*h.2),z.1*(s.1*h.2)+z.2*(h.1*s.2)):=λ_=>rfl
 generalize hS:s.2*h.2=A at *
 generalize hL:s.1*h.2=B at *
 generalize hH:h.1*s.2=C at *
 have cw:w=0\/w=1\/w=2\/w=3:=by lia
 refine cR (λρ=>w=3/\ρ=[sdV (pt s),sdV (pt h),sdV (.int w),sdV (.int A),sdV (.int B),sdV (.int C),none,none,none,none,none,none]) (λK hK=>?_) ?_
 ·rcases cw with rfl | rfl | rfl | rfl
  ·walk_at "rd"
   rw[if_pos (by decide)]
   refine due1 (P:=[(0,0),(24,0),(24,24),(0,24)]) (A:=[(0,0),(A,B),(A,B+C),(0,C)]) (by decide) (by simp) ?_ λsh zs g=>?_
   ·simp only[aT,bU,eA,eE,scl];simp only[iO,eK,and_true];refine⟨⟨?_,?_⟩,⟨?_,?_⟩,⟨?_,?_⟩,?_,?_⟩ <;> grind
   ·exact q [(_,sh,zs)] rfl (by simpa using g)
  ·walk_at "rd"
   rw[if_pos (by decide),if_neg (by decide)]
   refine due1 (P:=[(0,0),(24,0),(24,24)]) (A:=[(0,0),(A,B),(A,B+C)]) (by decide) (by simp) ?_ λsh zs g=>?_
   ·simp only[aT,bU,eA,eE,scl];simp only[iO,eK,and_true];refine⟨⟨?_,?_⟩,⟨?_,?_⟩,?_,?_⟩ <;> grind
   refine due1 (P:=[(0,0),(24,24),(0,24)]) (A:=[(0,0),(A,B+C),(0,C)]) (by decide) (by simp) ?_ λsh2 zs2 g2=>?_
   ·simp only[aT,bU,eA,eE,scl];simp only[iO,eK,and_true];refine⟨⟨?_,?_⟩,⟨?_,?_⟩,?_,?_⟩ <;> grind
   ·exact q [(_,sh,zs),(_,sh2,zs2)] rfl (by simpa using ⟨g,g2⟩)
  ·walk_at "rd"
   rw[if_pos (by decide),if_neg (by decide),if_neg (by decide)]
   refine due1 (P:=[(0,0),(24,0),(0,24)]) (A:=[(0,0),(A,B),(0,C)]) (by decide) (by simp) ?_ λsh zs g=>?_
   ·simp only[aT,bU,eA,eE,scl];simp only[iO,eK,and_true];refine⟨⟨?_,?_⟩,⟨?_,?_⟩,?_,?_⟩ <;> grind
   refine due1 (P:=[(24,0),(24,24),(0,24)]) (A:=[(A,B),(A,B+C),(0,C)]) (by decide) (by simp) ?_ λsh2 zs2 g2=>?_
   ·simp only[aT,bU,eA,eE,scl];simp only[iO,eK,and_true];refine⟨⟨?_,?_⟩,⟨?_,?_⟩,?_,?_⟩ <;> grind
   ·exact q [(_,sh,zs),(_,sh2,zs2)] rfl (by simpa using ⟨g,g2⟩)
  ·walk_at "rd"
   rw[if_neg (by decide)]
   exact hK _ ⟨rfl,rfl⟩
 rintro ρ ⟨rfl,rfl⟩
 refine cR (λρ=>ρ=[sdV (pt s),sdV (pt h),sdV (.int 3),sdV (.int A),sdV (.int B),sdV (.int C),none,none,none,none,sdV (.lst [pt (A,B),pt (A,B+3*C)]),none]) (λK hK=>?_) ?_
 ·walk_at "rd"
  exact⟨(BL.const (n:=3) (i:=3) (by decide)).mulOk bh,hK _ rfl⟩
 rintro ρ rfl
 refine cR (λρ=>∃sh zs,Gp s h [(0,0),(8,0),(8,24),(0,24)] sh zs/\ρ=[sdV (pt s),sdV (pt h),sdV (.int 3),sdV (.int A),sdV (.int B),sdV (.int C),none,none,none,none,sdV (.lst [pt (A,B),pt (A,B+3*C)]),sdV (pc sh zs)]) (λK hK=>?_) ?_
 ·walk_at "rd"
  refine⟨(BL.const (n:=3) (i:=3) (by decide)).mulOk bS,(BL.const (n:=3) (i:=3) (by decide)).mulOk bh,?_⟩
  refine due3 (P:=[(0,0),(8,0),(8,24),(0,24)]) (A:=[(0,0),(A,B),(A,B+3*C),(0,3*C)]) (by decide) (by simp) ?_ λsh zs g=>hK _ ⟨sh,zs,g,rfl⟩
  simp only[aT,bU,eA,eE,scl];simp only[iO,eK,and_true];refine⟨⟨?_,?_⟩,⟨?_,?_⟩,⟨?_,?_⟩,?_,?_⟩ <;> grind
 rintro ρ ⟨sh,zs,g,rfl⟩
 generalize hPC:pc sh zs=PD
 walk_at "rd"
 refine⟨(BL.const (n:=3) (i:=3) (by decide)).mulOk bS,(BL.const (n:=3) (i:=3) (by decide)).mulOk bS,(BL.const (n:=3) (i:=3) (by decide)).mulOk bl,(BL.const (n:=3) (i:=3) (by decide)).mulOk bS,(BL.const (n:=3) (i:=3) (by decide)).mulOk bl,(BL.const (n:=3) (i:=3) (by decide)).mulOk bh,?_⟩
 refine due3 (P:=[(8,0),(24,0),(24,24),(8,24)]) (A:=[(A,B),(3*A,3*B),(3*A,3*B+3*C),(A,B+3*C)]) (by decide) (by simp) ?_ λsh2 zs2 g2=>?_
 ·simp only[aT,bU,eA,eE,scl];simp only[iO,eK,and_true];refine⟨⟨?_,?_⟩,⟨?_,?_⟩,⟨?_,?_⟩,?_,?_⟩ <;> grind
 ·rw[<-hPC]
  exact q [(_,sh,zs),(_,sh2,zs2)] rfl (by simpa using ⟨g,g2⟩)
def FC:FD:=λds Q=>∃n:Int,ds=[.int n]/\BL 210 n/\∀m:Mv,MvF m->(BL 210 m.2.1.1/\BL 210 m.2.1.2/\BL 210 m.2.2.1/\BL 210 m.2.2.2)->Q (mvD m)
theorem ZW:∀ds Q,FC ds Q->ds.length=1:=by rintro ds Q ⟨_,rfl,_⟩;rfl
theorem XV:∀ds Q,FC ds Q->AT QK { nx:=λ_=>Q .non,rt:=Q } (dW ["_law_number","_law_far","_law_dx","_law_dy"] ds):=by
 rintro ds Q ⟨n,rfl,bn,q⟩
 rw[cN 3 rfl]
 unfold AT
 simp only[iQ,Ly,aT,bU,bG,cC]
 refine cR (λρ=>∃f:Int,(0<=f/\BL 200 f)/\ρ=[sdV (.int n),sdV (.int f),none,none]) (λK hK=>?_) ?_
 ·walk_at "rd"
  obtain⟨a0,a1⟩:=fF (a:=n.fdiv 2) (b:=2) (by decide)
  refine⟨NR,(BL.const (n:=9000) (by decide)).divOk (by decide),lV,?_⟩
  refine Cn a0 (by simpa using a1) λx hx=>?_
  obtain⟨f,rfl,f0,f1⟩:=Vk hx
  exact hK _ ⟨f,⟨f0,f1⟩,rfl⟩
 rintro ρ ⟨f,⟨f0,f1⟩,rfl⟩
 have fp:(2*f+1)≠0:=by lia
 refine cR (λρ=>∃x:Pt,(0<x.2/\BL 210 x.1/\BL 3 x.2/\cD x.1 x.2=1)/\ρ=[sdV (.int n),sdV (.int f),sdV (pt x),none]) (λK hK=>?_) ?_
 ·walk_at "rd"
  obtain⟨a0,a1⟩:=fF (a:=n*48271) (b:=1000000007) (by decide)
  obtain⟨b0,b1⟩:=fF (a:=n.fdiv 4) (b:=4) (by decide)
  obtain⟨c0,c1⟩:=fF (a:=(n*48271).fmod 1000000007*69621) (b:=2*f+1) (by lia)
  refine⟨bn.mulOk (BL.const (n:=20)),lV,(BL.of_lt (m:=40) (by lia) (by lia)).mulOk (BL.const (n:=20)),(BL.const (n:=20)).mulOk f1,⟨fp⟩,(BL.const (n:=9000) (by decide)).divOk (by decide),lV,?_⟩
  have bq:BL 3 (1+(n.fdiv 4).fmod 4):=BL.of_lt (m:=3) (by lia) (by lia)
  refine⟨_,_,rfl,⟨by lia,bq.mono (by decide)⟩,λp q' l=>hK _ ⟨(p,q'),⟨l.pos,(Rg f0 f1 c0 c1).le l.lea,bq.le l.leb,l.cop⟩,rfl⟩⟩
 rintro ρ ⟨x,hx,rfl⟩
 refine cR (λρ=>∃y:Pt,(0<y.2/\BL 210 y.1/\BL 3 y.2/\cD y.1 y.2=1)/\ρ=[sdV (.int n),sdV (.int f),sdV (pt x),sdV (pt y)]) (λK hK=>?_) ?_
 ·walk_at "rd"
  obtain⟨b0,b1⟩:=fF (a:=n.fdiv 16) (b:=3) (by decide)
  obtain⟨c0,c1⟩:=fF (a:=n) (b:=2*f+1) (by lia)
  refine⟨(BL.const (n:=20)).mulOk f1,⟨fp⟩,(BL.const (n:=9000) (by decide)).divOk (by decide),lV,?_⟩
  have bq:BL 3 (1+(n.fdiv 16).fmod 3):=BL.of_lt (m:=3) (by lia) (by lia)
  refine⟨_,_,rfl,⟨by lia,bq.mono (by decide)⟩,λp q' l=>hK _ ⟨(p,q'),⟨l.pos,(Rg f0 f1 c0 c1).le l.lea,bq.le l.leb,l.cop⟩,rfl⟩⟩
 rintro ρ ⟨y,hy,rfl⟩
 walk_at "rd"
 obtain⟨b0,b1⟩:=fF (a:=n) (b:=2) (by decide)
 obtain⟨x1,x2,x3,x4⟩:=hx
 obtain⟨y1,y2,y3,y4⟩:=hy
 exact⟨lV,(BL.const (n:=20)).mulOk (BL.of_lt (m:=20) (by lia) (by lia)),q (_,x,y) ⟨by dsimp only;lia,x1,y1,x4,y4,x2.mono (by decide),x3.mono (by decide),y2.mono (by decide),y3.mono (by decide)⟩ ⟨x2,x3.mono (by decide),y2,y3.mono (by decide)⟩⟩
end K36
namespace K36
open K34 K33
theorem mX {t u:RS} {E:DEnds} {ρ:En} (I:En->Prop) (h1:∀K:En->Prop,(∀ρ',I ρ'->K ρ')->t { nx:=K,rt:=E.rt } ρ) (h2:∀ρ',I ρ'->u E ρ'):rF t u E ρ:=h1 (u E) h2
theorem Nd {p q p' q':Int} (h:p*q'=p'*q) (c:cD p q=1) (c':cD p' q'=1) (hq:0<q) (hq':0<q'):p=p'/\q=q':=by
 have d1:q.natAbs∣q'.natAbs:=by
  refine lX (k:=q.natAbs) (m:=p.natAbs) (n:=q'.natAbs) ?_ ?_
  ·show SQ q.natAbs p.natAbs=1
   rw[qO];exact c
  ·rw[<-iY,h,iY];exact HV ..
 have d2:q'.natAbs∣q.natAbs:=by
  refine lX (k:=q'.natAbs) (m:=p'.natAbs) (n:=q.natAbs) ?_ ?_
  ·show SQ q'.natAbs p'.natAbs=1
   rw[qO];exact c'
  ·rw[<-iY,<-h,iY];exact HV ..
 have e:q=q':=by
  have:=Nat.dvd_antisymm d1 d2
  lia
 subst e
 exact⟨gY (by lia) h,rfl⟩
theorem TK {α:Type} {f:α->D} {n:Nat} {xs:List α} (h:∀x∈xs,eqF n (f x) (f x)=some true):eqL (eqF n) (xs.map f) (xs.map f)=some true :=
 sJ _ λx hx=>by
  obtain⟨y,hy,rfl⟩:=cB.mp hx
  exact h y hy
theorem Vj (b:Bt):eqF 7 (btG b) (btG b)=some true:=by
 show eqL (eqF 6) _ _=_
 refine sJ _ λx hx=>?_
 simp only[aK,fS,or_false] at hx
 rcases hx with rfl | rfl
 ·show eqL (eqF 5) _ _=_
  refine sJ _ λx hx=>?_
  simp only[aK,fS,or_false] at hx
  rcases hx with rfl | rfl
  ·exact LK 4 _
  ·show eqL (eqF 4) _ _=_
   exact TK λz _=>LL 2 z
 ·show eqL (eqF 5) _ _=_
  refine sJ _ λx hx=>?_
  simp only[aK,fS,or_false] at hx
  rcases hx with rfl | rfl | rfl
  ·exact LK 4 _
  ·exact LL 3 _
  ·exact LL 3 _
theorem Nu (bs:List Bt) (fs:List Pt):eqL (eqF 8) [.lst (bs.map btG),pts fs] [.lst (bs.map btG),pts fs]=some true:=by
 refine sJ _ λx hx=>?_
 simp only[aK,fS,or_false] at hx
 rcases hx with rfl | rfl
 ·show eqL (eqF 7) _ _=_
  exact TK λb _=>Vj b
 ·show eqL (eqF 7) _ _=_
  exact TK λz _=>LL 5 z
theorem Tb {s h:Pt} {a b:Int} (ls:Lean34 s) (l:Low a b h.1 h.2) (ha:0<a) (hb:0<b) (ba:BL 10 a) (bb:BL 10 b):Fm s h:=by
 refine⟨ls,?_,ba.le l.lea,l.pos,bb.le l.leb⟩
 have w:=l.worth
 have:=aY ha l.pos
 rw[<-w,kK] at this
 exact EQ hb this
structure Law36 (fs:List Pt) (s h lh hh:Pt) (place t:Int) (bs:List Bt):Prop where
 p0:0<=place
 at':fs[place.toNat]? = some s
 fm:Fm s h
 lb:bs.length<=4
 ok:∀b∈bs,BtOk s h b
 way:bs.map (·.1)∈QG
 ht:t∈pA
 low:Hgt36 h t lh
 upp:Hgt36 h (24-t) hh
theorem Law36.row {fs:List Pt} {s h lh hh:Pt} {place t:Int} {bs:List Bt} (L:Law36 fs s h lh hh place t bs):Row h lh t:=⟨L.low.pos,L.low.worth,L.low.b1,L.low.b2⟩
theorem Law36.up {fs:List Pt} {s h lh hh up:Pt} {place t:Int} {bs:List Bt} (L:Law36 fs s h lh hh place t bs) (l:Low (h.1*lh.2-lh.1*h.2) (h.2*lh.2) up.1 up.2):up=hh:=by
 have w1:=L.low.worth
 have w2:=L.upp.worth
 have w:=l.worth
 have p1:=L.low.pos
 have p2:=L.fm.h2
 have pp:(0:Int)<24*h.2*lh.2:=aY (by lia) p1
 obtain⟨e1,e2⟩:=Nd (p:=up.1) (q:=up.2) (p':=hh.1) (q':=hh.2) (by
  refine cH (a:=24*h.2*lh.2) (by lia) ?_
  have l1:24*h.2*lh.2*(up.1*hh.2)=24*(up.1*(h.2*lh.2))*hh.2:=by grind
  have l2:24*h.2*lh.2*(hh.1*up.2)=24*(hh.1*h.2)*lh.2*up.2:=by grind
  rw[l1,l2,w,w2]
  have l3:24*((h.1*lh.2-lh.1*h.2)*up.2)*hh.2=(24*(h.1*lh.2)-24*(lh.1*h.2))*up.2*hh.2:=by grind
  rw[l3,w1];grind) l.cop L.upp.cop l.pos L.upp.pos
 exact lJ e1 e2
abbrev IF (place:Int) (lh up:Pt) (l1 l2:List Bt):D:=.tup [.tup [.int place,pt lh,.lst (l1.map btG)],.tup [.int place,pt up,.lst (l2.map btG)]]
theorem Jw {h lh:Pt} {n:Int} (l:Low (n*h.1) (8*h.2) lh.1 lh.2) (h1:0<h.1) (h2:0<h.2) (b1:BL 10 h.1) (b2:BL 10 h.2) (n0:0<=n) (n8:n<=8):Hgt36 h (3*n) lh:=by
 have bn:BL 4 n:=BL.of_lt (m:=4) (by lia) (by lia)
 refine⟨l.pos,l.cop,?_,((bn.mul b1).mono (by decide):BL 20 _).le l.lea,(((BL.const (n:=4) (i:=8) (by decide)).mul b2).mono (by decide):BL 20 _).le l.leb⟩
 have w:=l.worth
 have e:24*(lh.1*h.2)=3*(lh.1*(8*h.2)):=by grind
 rw[e,w];grind
theorem Qd {n:Int} (h0:1<=n) (h1:n<=7):3*n∈pA:=by
 unfold pA
 simp only[aK,fS,or_false]
 lia
end K36
namespace K36
open K34 K33
abbrev om (G:Hp) (x:D):Option L2.R2.S:=some (.mem true x (Kz G x))
abbrev XF (G:Hp) (a b:D) (n p:Int) (s h:Pt) (c:List D) (u:Option L2.R2.S) (k:Int) (l m:Pt) (d x:D) (w:Option L2.R2.S):En :=
 [om G a,om G b,om G (.int n),om G (.int p),om G (pt s),om G (pt h),om G (.lst c),u,om G (.int k),om G (pt l),om G (pt m),om G d,some (.mem true x (QE G x)),w]
abbrev Ro (G:Hp) (b c d x:D):En:=[none,om G b,none,none,none,none,om G c,none,none,none,none,om G d,some (.mem false x (QE G x)),none]
theorem Rb {G:Hp} {b c d x:D} {k:Int} {E:DEnds} {t:RS} {a0 a2 a3 a4 a5 a7 a8 a9 a10 a13:Option L2.R2.S} {y:Bool} (h:Hx k 2 x) (q:t E (Ro G b c d x)):Lp 12 (Hx k 2) t E [a0,om G b,a2,a3,a4,a5,om G c,a7,a8,a9,a10,om G d,some (.mem y x (QE G x)),a13]:=by
 refine⟨x,y,G,Ro G b c d x,rfl,h,rfl,λi z e=>?_,q⟩
 match i,e with
 | 1,e=>cases e;exact .inr ⟨_,rfl,rfl⟩
 | 6,e=>cases e;exact .inr ⟨_,rfl,rfl⟩
 | 11,e=>cases e;exact .inr ⟨_,rfl,rfl⟩
 | 12,e=>cases e;exact .inl ⟨rfl,rfl⟩
 | 0,e=>cases e
 | 2,e=>cases e
 | 3,e=>cases e
 | 4,e=>cases e
 | 5,e=>cases e
 | 7,e=>cases e
 | 8,e=>cases e
 | 9,e=>cases e
 | 10,e=>cases e
 | 13,e=>cases e
 | i+14,e=>cases e
theorem Ax:∀ds Q,Ho 63 ds Q->NZ KW F_cell34 EY QK F_leans34 FC FG FA BB { nx:=λ_=>False,rt:=Q } (dW ["_law_script","_law_leans_here","_law_number","_law_place","_law_lean","_law_height","_law_bits_here","_law_piece","_law_part","_law_lower","_law_upper","_law_handed","_law_found","_law_cell_here"] ds):=by
 rintro ds Q ⟨ns,rfl,hn,Qt⟩
 rw[cN 13 rfl]
 unfold NZ
 have rep13:(eM 13 none:List (Option L2.R2.S))=[none,none,none,none,none,none,none,none,none,none,none,none,none]:=rfl
 simp only[iQ,rep13,aT,bU,bG,cC]
 refine mX (λρ=>∃fs:List Pt,((1<=fs.length/\fs.length<=4)/\Leans fs)/\ρ=[sdV (il ns),sdV (pts fs),none,none,none,none,none,none,none,none,none,none,none,none]) (λK hK=>?_) ?_
 ·walk_at "rd"
  refine⟨ns,0,rfl,by decide,λc c0 c1 _=>?_⟩
  walk_at "rd"
  refine⟨(BL.const (n:=9000) (by decide)).divOk (by decide),?_⟩
  refine⟨ns,0,rfl,by decide,λd d0 d1 _=>?_⟩
  walk_at "rd"
  obtain⟨a0,a1⟩:=fF (a:=d) (b:=4) (by decide)
  refine⟨lV,?_⟩
  exact⟨_,_,rfl,⟨by lia,by lia⟩,λfs h1 h2=>hK _ ⟨fs,⟨⟨by lia,by lia⟩,h2⟩,rfl⟩⟩
 rintro ρ ⟨fs,⟨fl,hf⟩,rfl⟩
 refine mX (λρ=>∃n:Int,(0<=n/\n<big)/\ρ=[sdV (il ns),sdV (pts fs),sdV (.int n),none,none,none,none,none,none,none,none,none,none,none]) (λK hK=>?_) ?_
 ·walk_at "rd"
  exact⟨ns,1,rfl,by decide,λc c0 c1 _=>hK _ ⟨c,⟨c0,c1⟩,rfl⟩⟩
 rintro ρ ⟨n,⟨n0,n1⟩,rfl⟩
 refine mX (λρ=>∃(place:Int) (s:Pt),(0<=place/\fs[place.toNat]? = some s)/\ρ=[sdV (il ns),sdV (pts fs),sdV (.int n),sdV (.int place),none,none,none,none,none,none,none,none,none,none]) (λK hK=>?_) ?_
 ·walk_at "rd"
  simp only[cI]
  obtain⟨a0,a1⟩:=fF (a:=n) (b:=((fs.length:Nat):Int)) (by lia)
  refine⟨⟨by lia⟩,hK _ ⟨_,fs[(n.fmod ((fs.length:Nat):Int)).toNat]'(by lia),⟨a0,?_⟩,rfl⟩⟩
  exact aF _
 rintro ρ ⟨place,s,⟨p0,hs⟩,rfl⟩
 have ls:Lean34 s:=hf.each s (eY hs)
 refine mX (λρ=>ρ=[sdV (il ns),sdV (pts fs),sdV (.int n),sdV (.int place),sdV (pt s),none,none,none,none,none,none,none,none,none]) (λK hK=>?_) ?_
 ·walk_at "rd"
  refine Ll (by lia) (by have:=(aX.mp hs).1;lia) λg hg=>?_
  rw[hs] at hg;cases hg
  exact hK _ rfl
 rintro ρ rfl
 refine mX (λρ=>∃h:Pt,Fm s h/\ρ=[sdV (il ns),sdV (pts fs),sdV (.int n),sdV (.int place),sdV (pt s),sdV (pt h),none,none,none,none,none,none,none,none]) (λK hK=>?_) ?_
 ·walk_at "rd"
  obtain⟨a0,a1⟩:=fF (a:=n.fdiv 4) (b:=6) (by decide)
  obtain⟨b0,b1⟩:=fF (a:=n.fdiv 24) (b:=2) (by decide)
  refine⟨(BL.const (n:=9000) (by decide)).divOk (by decide),lV,(BL.const (n:=9000) (by decide)).divOk (by decide),lV,?_⟩
  have bb:BL 10 (1+(n.fdiv 24).fmod 2):=BL.of_lt (m:=10) (by lia) (by lia)
  have ba:BL 10 (1+(n.fdiv 4).fmod 6):=BL.of_lt (m:=10) (by lia) (by lia)
  exact⟨_,_,rfl,⟨by lia,bb.mono (by decide)⟩,λp q l=>hK _ ⟨(p,q),Tb ls l (by lia) (by lia) ba bb,rfl⟩⟩
 rintro ρ ⟨h,f,rfl⟩
 refine mX (λρ=>ρ=[sdV (il ns),sdV (pts fs),sdV (.int n),sdV (.int place),sdV (pt s),sdV (pt h),some (.own []),none,none,none,none,none,none,none]) (λK hK=>?_) ?_
 ·walk_at "rd";exact hK _ rfl
 rintro ρ rfl
 refine mX (λρ=>∃(bs:List Bt) (u:Option L2.R2.S),(bs.length<=4/\(∀b∈bs,BtOk s h b)/\bs.map (·.1)∈QG)/\ρ=[sdV (il ns),sdV (pts fs),sdV (.int n),sdV (.int place),sdV (pt s),sdV (pt h),some (.own (bs.map btG)),u,none,none,none,none,none,none]) (λK hK=>?_) ?_
 ·simp only[oW,riL,cV,aC,aV,cG,aL,r2,rC,pF,jW,aJ,aR]
  obtain⟨a0,a1⟩:=fF (a:=n.fdiv 72) (b:=4) (by decide)
  refine⟨(BL.const (n:=9000) (by decide)).divOk (by decide),lV,?_⟩
  refine⟨s,h,_,rfl,⟨f,a0,a1⟩,λL hL hg=>?_⟩
  have wi:=Uu a0 a1
  obtain⟨wl,wp⟩:=Hl _ wi
  rw[<-hL] at wi wl wp
  rw[cI] at wl
  refine lD (λys ρ=>∃(dn td:List (List Pt × Int × List Pt)) (bs:List Bt) (u:Option L2.R2.S),L=dn++td/\ys=td.map (λp=>pc p.2.1 p.2.2)/\(bs.map (λb=>(b.1,b.2.1,b.2.2.1))=dn/\∀b∈bs,BtOk s h b)/\ρ=[sdV (il ns),sdV (pts fs),sdV (.int n),sdV (.int place),sdV (pt s),sdV (pt h),some (.own (bs.map btG)),u,none,none,none,none,none,none]) ?_ ?_ _ _ ⟨[],L,[],none,rfl,rfl,⟨rfl,by simp⟩,rfl⟩
  ·rintro y ys ρ ⟨dn,td,bs,u,ec,ey,⟨eb,ho⟩,rfl⟩ F hr hbk hnx _
   cases td with
   | nil=>cases ey
   | cons b td =>
    cases ey
    have mb:b∈L:=by rw[ec];simp
    have gb:=hg b mb
    have pb:=wp b.1 (eI mb)
    have lb:bs.length<=2:=by
     have l1:=congrArg fJ eb
     have l2:=congrArg fJ ec
     simp at l1 l2;lia
    generalize hPC:pc b.2.1 b.2.2=PD
    unfold DC
    walk_at "rd"
    simp only[cI]
    have bd:BL 201 (n.fdiv 288):=by
     have e:big<((2 ^ 200:Nat):Int):=by decide
     rw[cS _ (by decide)]
     exact BL.of_lt (m:=201) (by lia) (by lia)
    refine⟨(BL.const (n:=9000) (by decide)).divOk (by decide),(BL.const (n:=9000) (by decide)).mulOk (BL.of_lt (m:=20) (by lia) (by lia)),?_⟩
    refine⟨_,rfl,(bd.add (BL.of_lt (m:=20) (by lia) (by lia))).mono (by decide),λm mf bm=>?_⟩
    walk_at "rd"
    refine⟨sM (by simp;lia),hnx _ ⟨dn++[b],td,bs++[(b.1,b.2.1,b.2.2,m)],sdV PD,by rw[ec];simp,rfl,⟨by rw[cU,eb];rfl,λx hx=>?_⟩,?_⟩⟩
    ·rcases cY.mp hx with k | k
     ·exact ho x k
     ·rw[dU.mp k]
      exact⟨pb,gb,mf,bm.1,bm.2.1,bm.2.2.1,bm.2.2.2⟩
    ·rw[cU,<-hPC];rfl
  ·rintro ρ ⟨dn,td,bs,u,ec,ey,⟨eb,ho⟩,rfl⟩
   have:td=[]:=by simpa using ey.symm
   subst this
   rw[eV] at ec
   subst ec
   refine hK _ ⟨bs,u,⟨?_,ho,?_⟩,rfl⟩
   ·have l1:=congrArg fJ eb
    simp at l1;lia
   ·rw[<-eb,dD] at wi
    exact wi
 rintro ρ ⟨bs,u,⟨lb,ho,hw⟩,rfl⟩
 generalize hBD:bs.map btG=BD
 refine mX (λρ=>∃k:Int,(1<=k/\k<=7)/\ρ=[sdV (il ns),sdV (pts fs),sdV (.int n),sdV (.int place),sdV (pt s),sdV (pt h),some (.own BD),u,sdV (.int k),none,none,none,none,none]) (λK hK=>?_) ?_
 ·walk_at "rd"
  refine⟨ns,2,rfl,by decide,λc c0 c1 _=>?_⟩
  obtain⟨a0,a1⟩:=fF (a:=c) (b:=7) (by decide)
  walk_at "rd"
  exact⟨lV,hK _ ⟨_,⟨by lia,by lia⟩,rfl⟩⟩
 rintro ρ ⟨k,⟨k1,k7⟩,rfl⟩
 have bk:BL 4 k:=BL.of_lt (m:=4) (by lia) (by lia)
 have b8:BL 4 8:=BL.const (by decide)
 have p8:0<8*h.2:=by have:=f.h2;lia
 refine mX (λρ=>∃lh:Pt,Hgt36 h (3*k) lh/\ρ=[sdV (il ns),sdV (pts fs),sdV (.int n),sdV (.int place),sdV (pt s),sdV (pt h),some (.own BD),u,sdV (.int k),sdV (pt lh),none,none,none,none]) (λK hK=>?_) ?_
 ·walk_at "rd"
  refine⟨bk.mulOk f.b1,b8.mulOk f.b2,?_⟩
  exact⟨_,_,rfl,⟨p8,(b8.mul f.b2).mono (by decide)⟩,λp q l=>hK _ ⟨(p,q),Jw l f.h1 f.h2 f.b1 f.b2 (by lia) (by lia),rfl⟩⟩
 rintro ρ ⟨lh,hlow,rfl⟩
 refine mX (λρ=>∃hh:Pt,Hgt36 h (24-3*k) hh/\ρ=[sdV (il ns),sdV (pts fs),sdV (.int n),sdV (.int place),sdV (pt s),sdV (pt h),some (.own BD),u,sdV (.int k),sdV (pt lh),sdV (pt hh),none,none,none]) (λK hK=>?_) ?_
 ·walk_at "rd"
  have b8k:BL 5 (8-k):=BL.of_lt (m:=5) (by lia) (by lia)
  refine⟨b8k.mulOk f.b1,b8.mulOk f.b2,?_⟩
  refine⟨_,_,rfl,⟨p8,(b8.mul f.b2).mono (by decide)⟩,λp q l=>hK _ ⟨(p,q),?_,rfl⟩⟩
  have:=Jw (lh:=(p,q)) l f.h1 f.h2 f.b1 f.b2 (by lia) (by lia)
  rw[show 3*(8-k)=24-3*k by lia] at this
  exact this
 rintro ρ ⟨hh,hupp,rfl⟩
 have L:Law36 fs s h lh hh place (3*k) bs:=⟨p0,hs,f,lb,ho,hw,Qd k1 k7,hlow,hupp⟩
 refine mX (λρ=>ρ=[sdV (il ns),sdV (pts fs),sdV (.int n),sdV (.int place),sdV (pt s),sdV (pt h),some (.own BD),u,sdV (.int k),sdV (pt lh),sdV (pt hh),sdV (.lst [.lst BD,pts fs]),none,none]) (λK hK=>?_) ?_
 ·walk_at "rd"
  exact hK _ rfl
 rintro ρ rfl
 have eh:eqL (eqF 8) [.lst BD,pts fs] [.lst BD,pts fs]=some true:=by rw[<-hBD];exact Nu bs fs
 generalize hHD:D.lst [.lst BD,pts fs]=HD
 generalize hFS:pts fs=FS at *
 refine mX (λρ=>∃(G:Hp) (dn:Pt) (l1 l2:List Bt),(Dn h (3*k) dn/\Spl s h dn (3*k) bs l1 l2)/\ρ=XF G (il ns) FS n place s h BD (Ky G u) k lh hh HD (IF place lh hh l1 l2) none) (λK hK=>?_) ?_
 ·subst hHD
  simp only[Lr,xU,L2.R2.S.fz,jP,aC,aV,cG,aL,r2,rC,VP,VQ,aJ,aR,bQ,bP,bZ,eW,sz3,true_and]
  refine⟨s,h,lh,3*k,place,fs,bs,by rw[<-hBD,<-hFS],⟨f,L.row,L.ht⟩,⟨p0,hs⟩,⟨lb,ho⟩,λdn l1 l2 up hd Sp lw G=>?_⟩
  rw[L.up lw]
  exact hK _ ⟨G,dn,l1,l2,⟨hd,Sp⟩,rfl⟩
 rintro ρ ⟨G,dn,l1,l2,⟨hd,Sp⟩,rfl⟩
 have kp:Kp s h lh dn (3*k) bs l1 l2:=⟨f,L.row,L.ht,hd,Sp,lb,ho,hw⟩
 obtain⟨B1,B2⟩:=Sp.box f L.ht lb ho hw
 generalize hu:Ky G u=u'
 have il':WK "tuple" (IF place lh hh l1 l2)=some true:=rfl
 refine mX (λρ=>ρ=XF G (il ns) FS n place s h BD u' k lh hh HD (IF place lh hh l1 l2) none) (λK hK=>?_) ?_
 ·subst hHD
  simp only[xU,L2.R2.S.fz,kG,rOr,qE,dX,r1,r2,cG,aL,rC,BV,il',rT,pV,Nk,qD,aC,aV,eh,aJ,aR,bQ,bP,bZ,eW,fR,aM,if_false,sz2,true_and,iB]
  exact hK _ rfl
 rintro ρ rfl
 refine mX (λρ=>ρ=XF G (il ns) FS n place s h BD u' k lh hh HD (IF place lh hh l1 l2) none) (λK hK=>?_) ?_
 ·simp only[kG,rOr,qE,dX,cV,r2,cG,aL,rC,pI,oD,aC,aV,aJ,aR]
  refine⟨s,h,lh,3*k,place,l1,rfl,B1,hlow,?_⟩
  simp only[fR,aM,if_false]
  refine⟨s,h,hh,24-3*k,place,l2,rfl,B2,hupp,?_⟩
  simp only[fR,aM,if_false,iB]
  exact hK _ rfl
 rintro ρ rfl
 refine mX (λρ=>∃w,ρ=XF G (il ns) FS n place s h BD u' k lh hh HD (IF place lh hh l1 l2) w) (λK hK=>?_) ?_
 ·simp only[oW,riL,r2,cG,aL,rC,CC,Dw,qX,AM,qD,aC,aV,aJ,aR,bZ,eW,sz1,true_and]
  have lc:(cutD (ns.map D.int) none (some 8)).length<=63:=by
   unfold cutD
   have h1:=List.length_take_le (HT.sIx (ns.map D.int).length (ns.map D.int).length (some 8)-HT.sIx (ns.map D.int).length 0 none) ((ns.map D.int).drop (HT.sIx (ns.map D.int).length 0 none))
   rw[gE,mC,cI]
   lia
  have hi:∀d∈cutD (ns.map D.int) none (some 8)++[D.int n],∃i,d = .int i:=λd hd=>by
   rcases cY.mp hd with z | z
   ·obtain⟨i,_,e⟩:=cB.mp (zM (jS z))
    exact⟨i,e.symm⟩
   ·exact⟨n,dU.mp z⟩
  refine⟨sM (by lia),?_⟩
  generalize hys:cutD (ns.map D.int) none (some 8)++[D.int n]=ys0 at *
  refine lD (λys ρ=>∃w:Option L2.R2.S,(∀d∈ys,∃i,d=D.int i)/\ρ=XF G (il ns) FS n place s h BD u' k lh hh HD (IF place lh hh l1 l2) w) ?_ ?_ _ _ ⟨none,hi,rfl⟩
  ·rintro y ys ρ ⟨w,hy,rfl⟩ F hr hbk hnx _
   obtain⟨i,rfl⟩:=hy y (cF ..)
   unfold CZ
   simp only[fB,xU,L2.R2.S.fz,kG,qE,dX,cV,cG,aC,aV,aJ,aR,bQ,bP]
   refine⟨i,s,h,rfl,f,λX Y W I J N sp rg bb=>?_⟩
   refine⟨s,h,lh,dn,hh,3*k,place,bs,l1,l2,X,Y,W,I,J,N,by rw[<-hBD],kp,sp,rg,bb,?_⟩
   simp only[fR,aM,if_false,iB]
   exact hnx _ ⟨sdV (.int i),λd hd=>hy d (aW _ hd),rfl⟩
  ·rintro ρ ⟨w,_,rfl⟩
   exact hK _ ⟨w,rfl⟩
 rintro ρ ⟨w,rfl⟩
 refine Rb (k:=0) ⟨_,_,_,rfl,rfl,rfl⟩ (Rb (k:=1) ⟨_,_,_,rfl,rfl,rfl⟩ ?_)
 subst hHD
 have e9:eqF 9 (.lst [.lst BD,FS]) (.lst [.lst BD,FS])=some true:=eh
 simp only[xU,L2.R2.S.fz,fV,r2,cG,aL,Nh,qD,aC,aV,e9,aJ,aR,bQ,bP,bZ,eW,sz2,true_and]
 exact Qt
end K36
namespace K36
def top (i:Nat):Stmt:=PySem.Challenge.pw_recut_k36_a_box_split.main.body.getD i (.Pass ⟨0,0,0,0⟩)
structure TopF (K:aH) (mg:Str->Option aD):Prop where
 d0:DefAt K mg "_law_added" (top 46) ["_law_one","_law_other"]
 d1:DefAt K mg "_law_area" (top 45) ["_law_piece"]
 d2:DefAt K mg "_law_areas" (top 47) ["_law_bits_here"]
 d3:DefAt K mg "_law_divisor" (top 35) ["_law_one","_law_other"]
 d4:DefAt K mg "_law_whole" (top 34) ["_law_found"]
 d5:DefAt K mg "_law_is_fraction" (top 41) ["_law_found"]
 d6:DefAt K mg "_law_numbers_whole" (top 39) ["_law_piece"]
 d7:DefAt K mg "_law_turn" (top 38) ["_law_one","_law_two","_law_three"]
 d8:DefAt K mg "_law_is_piece" (top 40) ["_law_piece"]
 d9:DefAt K mg "_law_is_bit" (top 42) ["_law_bit"]
 d10:DefAt K mg "_law_bits" (top 43) ["_law_bits_here"]
 d11:DefAt K mg "_law_in_box" (top 50) ["_law_piece","_law_s","_law_h"]
 d12:DefAt K mg "_law_box" (top 57) ["_law_box_here","_law_place","_law_height","_law_lean"]
 d13:DefAt K mg "_law_cell" (top 56) ["_law_script","_law_k"]
 d14:DefAt K mg "_law_due" (top 37) ["_law_share","_law_ring"]
 d15:DefAt K mg "_law_cut_box" (top 51) ["_law_s","_law_h","_law_way"]
 d16:DefAt K mg "_law_fraction" (top 36) ["_law_top","_law_bottom"]
 d17:DefAt K mg "_law_digit" (top 33) ["_law_number","_law_base","_law_place"]
 d18:DefAt K mg "_law_leans" (top 48) ["_law_number","_law_many"]
 d19:DefAt K mg "_law_move" (top 49) ["_law_number"]
 d20:DefAt K mg "_law_spot_in" (top 52) ["_law_cell_here","_law_s","_law_h"]
 d21:DefAt K mg "_law_alike" (top 54) ["_law_one","_law_other"]
 d22:DefAt K mg "_law_led" (top 53) ["_law_move_here","_law_spot"]
 d23:DefAt K mg "_law_lies" (top 44) ["_law_piece","_law_spot"]
 d24:DefAt K mg "_law_homes_of" (top 55) ["_law_bits_here","_law_spot"]
 d25:DefAt K mg "_law_spot_kept" (top 58) ["_law_found","_law_bits_here","_law_height","_law_lean","_law_spot"]
 d26:DefAt K mg "excess" (top 20) ["line","point","share"]
 d27:DefAt K mg "crossing" (top 21) ["one","one_excess","other","other_excess"]
 d28:DefAt K mg "neighbours" (top 15) ["ones"]
 d29:DefAt K mg "points_within" (top 22) ["corners","excesses"]
 d30:DefAt K mg "turn" (top 16) ["one","middle","other"]
 d31:DefAt K mg "half_round" (top 17) ["points"]
 d32:DefAt K mg "outline" (top 18) ["points"]
 d33:DefAt K mg "shared_divisor" (top 4) ["one","other"]
 d34:DefAt K mg "settled" (top 19) ["share","points"]
 d35:DefAt K mg "part_within" (top 23) ["piece","line"]
 d36:DefAt K mg "cut" (top 24) ["piece","line"]
 d37:DefAt K mg "ratio" (top 6) ["top","bottom"]
 d38:DefAt K mg "plus" (top 7) ["one","other"]
 d39:DefAt K mg "signed" (top 10) ["sign","one"]
 d40:DefAt K mg "led" (top 11) ["move","spot"]
 d41:DefAt K mg "behind" (top 12) ["first","second"]
 d42:DefAt K mg "shared_multiple" (top 5) ["one","other"]
 d43:DefAt K mg "pushed" (top 25) ["piece","move"]
 d44:DefAt K mg "way_back" (top 13) ["move"]
 d45:DefAt K mg "carried" (top 27) ["bit","move"]
 d46:DefAt K mg "lifted" (top 28) ["bit","height"]
 d47:DefAt K mg "minus" (top 8) ["one","other"]
 d48:DefAt K mg "slanted_line" (top 30) ["lean","height"]
 d49:DefAt K mg "split" (top 31) ["box","height","leans"]
 d50:DefAt K mg "law" (top 59) ["_law_script"]
 b0:mg "len" = none
 b1:mg "range" = none
 b2:mg "abs" = none
 b3:mg "isinstance" = none
 b4:mg "bool" = none
 b5:mg "int" = none
 b6:mg "tuple" = none
 b7:mg "min" = none
 b8:mg "list" = none
 b9:mg "zip" = none
 b10:mg "reversed" = none
 b11:mg "sorted" = none
 b12:mg "set" = none
 b13:mg "max" = none
section
variable {P:bV} {w:dE} {K:aH} {mg:Str->Option aD} {base:Heap} (T:TopF K mg)
theorem AG:uC (["_law_x","_law_y","_law_most"]:List Str):=by decide +kernel
theorem CK:uC (["x","y","divisor"]:List Str):=by decide +kernel
theorem qV:uC (["x","y","own","factor"]:List Str):=by decide +kernel
theorem GQ:uC (["corner","line","share"]:List Str):=by decide +kernel
theorem GR:uC (["x","y","scale","right","up"]:List Str):=by decide +kernel
include T
theorem PR:FnAt P w K mg base "_law_added" ["_law_one","_law_other"] 1 KQ :=
 T.d0.mkD Fc Aq λnd hr =>
 bF (dG (fX (aB (aQ hE (eb (aQ bO (eb (aO (dvb 0) aE)) (eb (aO (dvb 1) aE)))) (eb (aQ bO (eb (aO (dvb 1) aE)) (eb (aO (dvb 0) aE))))) (aB (aQ bO (eb (aO (dvb 0) aE)) (eb (aO (dvb 1) aE))) aS))))
theorem UC:FnAt P w K mg base "_law_area" ["_law_piece"] 1 KR :=
 T.d1.mkD Fd Ar λnd hr =>
 aP (cL nd jA)
 (aP (mW dP rfl (wH T.b1 (aB (nN T.b0 (eb (aO (dvb 0) aE))) aS)) (fA nd) (aP (cL nd (aO (eb (aO (dvb 0) aE)) (eb (aQ gT (dvb 2) aE))))
 (aP (cL nd (aO (eb (aO (dvb 0) aE)) (dvb 2)))
 (bF (cL nd (aQ gT (eb (aQ hE (dvb 1) (eb (aQ bO (eb (aO (dvb 3) aE)) (eb (aO (dvb 4) aE)))))) (eb (aQ bO (eb (aO (dvb 3) aE)) (eb (aO (dvb 4) aE))))))))))
 (bF (dG (fX (aB (dv 1) (aB (aQ bO (eb (aO (dvb 0) aE)) (eb (aO (dvb 0) aE))) aS))))))
theorem PV:FnAt P w K mg base "_law_areas" ["_law_bits_here"] 2 KS :=
 T.d2.mkD Fe As λnd hr =>
 aP (cL nd (fX (aB jA (aB jA aS))))
 (aP (mW dP rfl (mV (dv 0)) (fA nd) (bF (cL nd (bC (PR T) hr (aB (dv 1) (aB (bC (UC T) hr (aB (aO (dvb 2) aE) aS)) aS))))))
 (bF (dG (dv 1))))
theorem lG:FnAt P w K mg base "_law_divisor" ["_law_one","_law_other"] 1 yG :=
 T.d3.mkD Dg IS λnd hr =>
 aP (cL nd (uM EJ T.b2 rS (aB (dv 0) aS)))
 (aP (cL nd (uM EJ T.b2 rS (aB (dv 1) aS)))
 (aP (MN dP (fU NJ (dvb 1) aE) (bF (Se rfl nd (aB (dv 1) (aB (aQ jU (dvb 0) (dvb 1)) aS)))))
 (bF (dG (dv 0)))))
theorem lW:FnAt P w K mg base "_law_whole" ["_law_found"] 1 xA :=
 T.d4.mkD Ft NV λnd hr =>
 bF (dG (zW (uN (Qj _) T.b3 T.b5 IC (dv 0)) (EK (Sd (uN (Mj _) T.b3 T.b4 YZ (dv 0))))))
theorem pG:FnAt P w K mg base "_law_is_fraction" ["_law_found"] 2 LW :=
 T.d5.mkD Kg Gu λnd hr =>
 aP (jC (DW.tst (mJ (kA (kB (uN (qC _) T.b3 T.b6 mI (dv 0)))) (mJ (fU xY (eb (nN T.b0 (dvb 0))) aE) (mJ (kA (kB (bC (lW T) hr (aB (aO (dvb 0) aE) aS)))) (pW (kA (kB (bC (lW T) hr (aB (aO (dvb 0) aE) aS))))))))) (bF (dG oE)) fN)
 (bF (dG (zW (qR NJ (eb (aO (dvb 0) aE)) aE) (EK (qR qW (eb (bC (lG T) hr (aB (aO (dvb 0) aE) (aB (aO (dvb 0) aE) aS)))) aE)))))
theorem yY:FnAt P w K mg base "_law_numbers_whole" ["_law_piece"] 2 FE :=
 T.d6.mkD ZX yB λnd hr =>
 aP (jC (DW.tst (mJ (kA (kB (uN (qC _) T.b3 T.b6 mI (dv 0)))) (mJ (fU xY (eb (nN T.b0 (dvb 0))) aE) (mJ (kA (kB (bC (lW T) hr (aB (aO (dvb 0) aE) aS)))) (pW (fU AJ (eb (aO (dvb 0) aE)) aE)))))) (bF (dG oE)) fN)
 (aP (jC (DW.tst (mJ (kA (kB (uN (qC _) T.b3 T.b6 mI (aO (dvb 0) aE)))) (pW (fU AJ (eb (nN T.b0 (eb (aO (dvb 0) aE)))) aE)))) (bF (dG oE)) fN)
 (aP (mW dP rfl (SZ (aO (dvb 0) aE)) (fA nd) (aP (jC (DW.tst (mJ (kA (kB (uN (qC _) T.b3 T.b6 mI (dv 1)))) (pW (fU xY (eb (nN T.b0 (dvb 1))) aE)))) (bF (dG oE)) fN)
 (bF (jC (DW.tst (mJ (kA (kB (bC (lW T) hr (aB (aO (dvb 1) aE) aS)))) (pW (kA (kB (bC (lW T) hr (aB (aO (dvb 1) aE) aS))))))) (bF (dG oE)) fN))))
 (bF (dG oE))))
theorem UG:FnAt P w K mg base "_law_turn" ["_law_one","_law_two","_law_three"] 1 LE :=
 T.d7.mkD Fo QA λnd hr =>
 aP (cL nd (aQ bO (eb (aQ gT (eb (aO (dvb 1) aE)) (eb (aO (dvb 0) aE)))) (eb (aQ gT (eb (aO (dvb 2) aE)) (eb (aO (dvb 1) aE))))))
 (bF (dG (aQ gT (dvb 3) (eb (aQ bO (eb (aQ gT (eb (aO (dvb 1) aE)) (eb (aO (dvb 0) aE)))) (eb (aQ gT (eb (aO (dvb 2) aE)) (eb (aO (dvb 1) aE)))))))))
theorem IP:FnAt P w K mg base "_law_is_piece" ["_law_piece"] 3 Bw :=
 T.d8.mkD (N:=["_law_piece","_law_share","_law_corners","_law_most","_law_falls","_law_k"]) Og GX λnd hr =>
 aP (jC (kA (kB (bC (yY T) hr (aB (dv 0) aS)))) (bF (dG oE)) fN)
 (aP (ZI (dv 0) (rV rfl (gA (fA nd) (gA (fA nd) oU))))
 (aP (cL nd (dv 1))
 (aP (cL nd jA)
 (aP (mW dP rfl (wH T.b1 (aB (nN T.b0 (dvb 2)) aS)) (fA nd) (aP (cL nd (bC (lG T) hr (aB (bC (lG T) hr (aB (dv 3) (aB (aO (eb (aO (dvb 2) (dvb 5))) aE) aS))) (aB (aO (eb (aO (dvb 2) (dvb 5))) aE) aS))))
 (aP (jC (fU Di (eb (bC (UG T) hr (aB (aO (dvb 2) (eb (aQ gT (dvb 5) aE))) (aB (aO (dvb 2) (eb (aQ gT (dvb 5) aE))) (aB (aO (dvb 2) (dvb 5)) aS))))) aE) (bF (dG oE)) fN)
 (bF (jC (DW.tst (Jq (fU (Kv hr) (eb (aO (dvb 2) (eb (aQ gT (dvb 5) aE)))) (eb (aO (dvb 2) (eb (aQ gT (dvb 5) aE))))) (Cy (fU (Kv hr) (eb (aO (dvb 2) (eb (aQ gT (dvb 5) aE)))) (eb (aO (dvb 2) (dvb 5))))))) (bF (cL nd (aQ hE (dvb 4) aE))) fN)))))
 (bF (dG (zW (qR qW (dvb 3) aE) (zW (qR qW (dvb 4) aE) (EK (qR (Wa hr) (eb (aO (dvb 2) aE)) (eb (Cp hr T.b7 rfl (dvb 2)))))))))))))
theorem NM:FnAt P w K mg base "_law_is_bit" ["_law_bit"] 4 LB :=
 T.d9.mkD (N:=["_law_bit","_law_move_here"]) Fk Aw λnd hr =>
 aP (jC (DW.tst (mJ (kA (kB (uN (qC _) T.b3 T.b6 mI (dv 0)))) (mJ (fU xY (eb (nN T.b0 (dvb 0))) aE) (pW (kA (kB (bC (IP T) hr (aB (aO (dvb 0) aE) aS)))))))) (bF (dG oE)) fN)
 (aP (cL nd (aO (dvb 0) aE))
 (aP (jC (DW.tst (mJ (kA (kB (uN (qC _) T.b3 T.b6 mI (dv 1)))) (mJ (fU xY (eb (nN T.b0 (dvb 1))) aE) (mJ (kA (kB (bC (lW T) hr (aB (aO (dvb 1) aE) aS)))) (pW (fU xY (eb (uM EJ T.b2 rS (aB (aO (dvb 1) aE) aS))) aE)))))) (bF (dG oE)) fN)
 (bF (dG (zW (bC (pG T) hr (aB (aO (dvb 1) aE) aS)) (EK (bC (pG T) hr (aB (aO (dvb 1) aE) aS))))))))
theorem UD:FnAt P w K mg base "_law_bits" ["_law_bits_here"] 5 KU :=
 T.d10.mkD Ff At λnd hr =>
 aP (jC (kA (kB (uN (Mk _) T.b3 T.b8 ZA (dv 0)))) (bF (dG oE)) fN)
 (aP (mW dP rfl (mV (dv 0)) (fA nd) (bF (jC (kA (kB (bC (NM T) hr (aB (dv 1) aS)))) (bF (dG oE)) fN)))
 (bF (dG oE)))
theorem NL:FnAt P w K mg base "_law_in_box" ["_law_piece","_law_s","_law_h"] 1 LA :=
 T.d11.mkD Fj Av λnd hr =>
 aP (mW dP rfl (SZ (aO (dvb 0) aE)) (rV rfl (gA (fA nd) (gA (fA nd) oU))) (aP (jC (DW.tst (mJ (fU AJ (dvb 3) aE) (pW (fU NJ (dvb 3) (eb (aO (dvb 0) aE)))))) (bF (dG oE)) fN)
 (aP (cL nd (aQ gT (eb (aQ bO (dvb 4) (eb (aO (dvb 1) aE)))) (eb (aQ bO (dvb 3) (eb (aO (dvb 1) aE))))))
 (bF (jC (DW.tst (mJ (fU AJ (dvb 5) aE) (pW (fU NJ (eb (aQ bO (dvb 5) (eb (aO (dvb 2) aE)))) (eb (aQ bO (eb (aQ bO (eb (aO (dvb 2) aE)) (eb (aO (dvb 1) aE)))) (eb (aO (dvb 0) aE)))))))) (bF (dG oE)) fN)))))
 (bF (dG oE))
theorem JJ:FnAt P w K mg base "_law_box" ["_law_box_here","_law_place","_law_height","_law_lean"] 6 KW :=
 T.d12.mkD Fg Au λnd hr =>
 aP (jC (DW.tst (mJ (kA (kB (uN (qC _) T.b3 T.b6 mI (dv 0)))) (mJ (fU xY (eb (nN T.b0 (dvb 0))) aE) (mJ (kA (kB (bC (lW T) hr (aB (aO (dvb 0) aE) aS)))) (pW (fU (Rp hr) (eb (aO (dvb 0) aE)) (dvb 1))))))) (bF (dG oE)) fN)
 (aP (jC (DW.tst (mJ (fU (Rp hr) (eb (aO (dvb 0) aE)) (dvb 2)) (mJ (kA (kB (bC (pG T) hr (aB (aO (dvb 0) aE) aS)))) (pW (kA (kB (bC (UD T) hr (aB (aO (dvb 0) aE) aS)))))))) (bF (dG oE)) fN)
 (aP (mW dP rfl (mV (aO (dvb 0) aE)) (fA nd) (bF (jC (kA (kB (bC (NL T) hr (aB (aO (dvb 4) aE) (aB (dv 3) (aB (dv 2) aS)))))) (bF (dG oE)) fN)))
 (aP (cL nd (bC (PV T) hr (aB (aO (dvb 0) aE) aS)))
 (bF (dG (qR qW (eb (aQ bO (eb (aO (dvb 5) aE)) (eb (aO (dvb 2) aE)))) (eb (aQ bO (eb (aQ bO aE (eb (aO (dvb 2) aE)))) (eb (aO (dvb 5) aE))))))))))
theorem tR:FnAt P w K mg base "_law_cell" ["_law_script","_law_k"] 1 K34.F_cell34 :=
 T.d13.mkD K34.len_cell34 K34.pure_law_cell34 λnd hr =>
 aP (jC (fU AJ (dvb 1) (eb (nN T.b0 (dvb 0)))) (bF (dG (aQ jU (eb (aO (dvb 0) (dvb 1))) (eb (aQ hE (eb (aQ UB aE aE)) aE))))) fN)
 (bF (dG jA))
theorem oH:FnAt P w K mg base "_law_due" ["_law_share","_law_ring"] 2 LV :=
 T.d14.mkD (N:=["_law_share","_law_ring","_law_most","_law_x","_law_y","_law_corners","_law_at"]) Of UJ λnd hr =>
 aP (cL nd (dv 0))
 (aP (mW dP rfl (mV (dv 1)) (rV rfl (gA (fA nd) (gA (fA nd) oU))) (bF (cL nd (bC (lG T) hr (aB (bC (lG T) hr (aB (dv 2) (aB (dv 3) aS))) (aB (dv 4) aS))))))
 (aP (TF ["_law_x","_law_y","_law_most"] 2 [2] nd (mV (dv 1)) (λcl C s H fp=>rV rfl (gA (fA AG) (gA (fA AG) oU))) (λcl C s H fp=>fX (aB (aQ gW (dvb 0) (dvb 2)) (aB (aQ gW (dvb 1) (dvb 2)) aS))))
 (aP (cL nd (Jh hr (dvb 5) (Cp hr T.b7 rfl (dvb 5))))
 (bF (dG (fX (aB (aQ gW (dvb 0) (dvb 2)) (aB (VS T.b6 (eb (aQ LQ (eb (zX (dvb 5) (BG (dv 6)) BF)) (eb (zX (dvb 5) BF (BG (dv 6))))))) aS))))))))
theorem KG:FnAt P w K mg base "_law_cut_box" ["_law_s","_law_h","_law_way"] 3 EY :=
 T.d15.mkD ZR XR λnd hr =>
 aP (cL nd (aQ bO (eb (aO (dvb 0) aE)) (eb (aO (dvb 1) aE))))
 (aP (cL nd (aQ bO (eb (aO (dvb 0) aE)) (eb (aO (dvb 1) aE))))
 (aP (cL nd (aQ bO (eb (aO (dvb 1) aE)) (eb (aO (dvb 0) aE))))
 (aP (jC (fU AJ (dvb 2) aE) (aP (cL nd (fX (aB jA (aB jA aS))))
 (aP (cL nd (fX (aB (dv 3) (aB (dv 4) aS))))
 (aP (cL nd (fX (aB (dv 3) (aB (aQ hE (dvb 4) (dvb 5)) aS))))
 (aP (cL nd (fX (aB jA (aB (dv 5) aS))))
 (aP (jC (fU qW (dvb 2) aE) (bF (dG (DO.val (kN (aB (bC (oH T) hr (aB (dv 3) (aB (DO.val (kN (aB (dv 6) (aB (dv 7) (aB (dv 8) (aB (dv 9) aS)))))) aS))) aS))))) fN)
 (aP (jC (fU qW (dvb 2) aE) (bF (dG (DO.val (kN (aB (bC (oH T) hr (aB (dv 3) (aB (DO.val (kN (aB (dv 6) (aB (dv 7) (aB (dv 8) aS))))) aS))) (aB (bC (oH T) hr (aB (dv 3) (aB (DO.val (kN (aB (dv 6) (aB (dv 8) (aB (dv 9) aS))))) aS))) aS)))))) fN)
 (bF (dG (DO.val (kN (aB (bC (oH T) hr (aB (dv 3) (aB (DO.val (kN (aB (dv 6) (aB (dv 7) (aB (dv 9) aS))))) aS))) (aB (bC (oH T) hr (aB (dv 3) (aB (DO.val (kN (aB (dv 7) (aB (dv 8) (aB (dv 9) aS))))) aS))) aS)))))))))))) fN)
 (aP (cL nd (DO.val (kN (aB (fX (aB (dv 3) (aB (dv 4) aS))) (aB (fX (aB (dv 3) (aB (aQ hE (dvb 4) (eb (aQ bO aE (dvb 5)))) aS))) aS)))))
 (aP (cL nd (bC (oH T) hr (aB (aQ bO aE (dvb 3)) (aB (DO.val (kN (aB (fX (aB jA (aB jA aS))) (aB (aO (dvb 10) aE) (aB (aO (dvb 10) aE) (aB (fX (aB jA (aB (aQ bO aE (dvb 5)) aS))) aS)))))) aS))))
 (bF (dG (DO.val (kN (aB (dv 11) (aB (bC (oH T) hr (aB (aQ bO aE (dvb 3)) (aB (DO.val (kN (aB (aO (dvb 10) aE) (aB (fX (aB (aQ bO aE (dvb 3)) (aB (aQ bO aE (dvb 4)) aS))) (aB (fX (aB (aQ bO aE (dvb 3)) (aB (aQ hE (eb (aQ bO aE (dvb 4))) (eb (aQ bO aE (dvb 5)))) aS))) (aB (aO (dvb 10) aE) aS)))))) aS))) aS)))))))))))
theorem jK:FnAt P w K mg base "_law_fraction" ["_law_top","_law_bottom"] 2 QK :=
 T.d16.mkD Ol GW λnd hr =>
 aP (cL nd (bC (lG T) hr (aB (dv 0) (aB (dv 1) aS))))
 (bF (dG (fX (aB (aQ gW (dvb 0) (dvb 2)) (aB (aQ gW (dvb 1) (dvb 2)) aS)))))
theorem CL:FnAt P w K mg base "_law_digit" ["_law_number","_law_base","_law_place"] 1 KZ :=
 T.d17.mkD Fi NU λnd hr =>
 aP (mW dP rfl (wH T.b1 (aB (dv 2) aS)) (fA nd) (bF (cL nd (aQ gW (dvb 0) (dvb 1)))))
 (bF (dG (aQ jU (dvb 0) (dvb 1))))
theorem PX:FnAt P w K mg base "_law_leans" ["_law_number","_law_many"] 3 K34.F_leans34 :=
 T.d18.mkD K34.len_leans34 K34.pure_law_leans34 λnd hr =>
 aP (xR nd (kN (aB (bC (jK T) hr (aB (aQ gT (eb (aQ jU (dvb 0) aE)) aE) (aB (aQ hE aE (eb (aQ jU (eb (aQ gW (dvb 0) aE)) aE))) aS))) aS)))
 (aP (mW dP rfl (wH T.b1 (aB (aQ gT (dvb 1) aE) aS)) (fA nd) (aP (cL nd (aQ hE aE (eb (bC (CL T) hr (aB (aQ gW (dvb 0) aE) (aB jA (aB (dv 3) aS)))))))
 (aP (cL nd (aQ hE aE (eb (aQ jU (eb (bC (CL T) hr (aB (aQ gW (dvb 0) aE) (aB jA (aB (dv 3) aS))))) aE))))
 (bF (qA 2 (bC (jK T) hr (aB (aQ hE (eb (aQ bO (eb (aO (eb (aO (dvb 2) (eb (wG sD aE)))) aE)) (dvb 5))) (eb (aQ bO (dvb 4) (eb (aO (eb (aO (dvb 2) (eb (wG sD aE)))) aE))))) (aB (aQ bO (eb (aO (eb (aO (dvb 2) (eb (wG sD aE)))) aE)) (dvb 5)) aS))))))))
 (bF (GH 2 (dG (dv 2)))))
theorem UF:FnAt P w K mg base "_law_move" ["_law_number"] 3 FC :=
 T.d19.mkD ZW XV λnd hr =>
 aP (cL nd (aO (eb (DO.val (kN (aB jA (aB (aQ UB aE aE) aS))))) (eb (aQ jU (eb (aQ gW (dvb 0) aE)) aE))))
 (aP (cL nd (bC (jK T) hr (aB (aQ gT (eb (aQ jU (eb (aQ bO (eb (aQ jU (eb (aQ bO (dvb 0) aE)) aE)) aE)) (eb (aQ hE (eb (aQ bO aE (dvb 1))) aE)))) (dvb 1)) (aB (aQ hE aE (eb (aQ jU (eb (aQ gW (dvb 0) aE)) aE))) aS))))
 (aP (cL nd (bC (jK T) hr (aB (aQ gT (eb (aQ jU (dvb 0) (eb (aQ hE (eb (aQ bO aE (dvb 1))) aE)))) (dvb 1)) (aB (aQ hE aE (eb (aQ jU (eb (aQ gW (dvb 0) aE)) aE))) aS))))
 (bF (dG (fX (aB (aQ gT aE (eb (aQ bO aE (eb (aQ jU (dvb 0) aE))))) (aB (dv 2) (aB (dv 3) aS))))))))
theorem KH:FnAt P w K mg base "_law_spot_in" ["_law_cell_here","_law_s","_law_h"] 1 FG :=
 T.d20.mkD Ab XY λnd hr =>
 aP (cL nd (aQ jU (eb (aQ bO (eb (aQ bO (eb (aQ hE (eb (aQ jU (dvb 0) (eb (aQ UB aE aE)))) aE)) (eb (aQ hE (eb (aQ jU (dvb 0) (eb (aQ UB aE aE)))) aE)))) aE)) aE))
 (aP (cL nd (aQ hE aE (eb (aQ jU (dvb 3) aE))))
 (aP (cL nd (aQ hE aE (eb (aQ jU (eb (aQ jU (eb (aQ bO (dvb 3) aE)) aE)) aE))))
 (aP (cL nd (aQ bO (eb (aQ bO (eb (aQ bO aE aE)) (eb (aO (dvb 1) aE)))) (eb (aO (dvb 2) aE))))
 (bF (dG (fX (aB (aQ bO (eb (aQ bO (eb (aQ bO (dvb 4) aE)) (eb (aO (dvb 1) aE)))) (eb (aO (dvb 2) aE))) (aB (aQ hE (eb (aQ bO (eb (aQ bO (eb (aQ bO (dvb 4) (eb (aO (dvb 1) aE)))) aE)) (eb (aO (dvb 2) aE)))) (eb (aQ bO (eb (aQ bO (eb (aQ bO (dvb 5) (eb (aO (dvb 2) aE)))) aE)) (eb (aO (dvb 1) aE))))) (aB (dv 6) aS)))))))))
theorem PU:FnAt P w K mg base "_law_alike" ["_law_one","_law_other"] 1 zE :=
 T.d21.mkD ZP XO λnd hr =>
 bF (dG (zW (qR qW (eb (aQ bO (eb (aO (dvb 0) aE)) (eb (aO (dvb 1) aE)))) (eb (aQ bO (eb (aO (dvb 1) aE)) (eb (aO (dvb 0) aE))))) (EK (qR qW (eb (aQ bO (eb (aO (dvb 0) aE)) (eb (aO (dvb 1) aE)))) (eb (aQ bO (eb (aO (dvb 1) aE)) (eb (aO (dvb 0) aE))))))))
theorem XA:FnAt P w K mg base "_law_led" ["_law_move_here","_law_spot"] 1 SM :=
 T.d22.mkD Kh Gw λnd hr =>
 aP (ZI (dv 0) (rV rfl (gA (fA nd) (gA (fA nd) (gA (fA nd) oU)))))
 (aP (cL nd (aQ bO (eb (aQ hE (eb (aQ bO (eb (aQ bO (dvb 2) (eb (aO (dvb 1) aE)))) (eb (aO (dvb 3) aE)))) (eb (aQ bO (eb (aO (dvb 3) aE)) (eb (aO (dvb 1) aE)))))) (eb (aO (dvb 4) aE))))
 (aP (cL nd (aQ bO (eb (aQ hE (eb (aQ bO (eb (aQ bO (dvb 2) (eb (aO (dvb 1) aE)))) (eb (aO (dvb 4) aE)))) (eb (aQ bO (eb (aO (dvb 4) aE)) (eb (aO (dvb 1) aE)))))) (eb (aO (dvb 3) aE))))
 (bF (dG (fX (aB (dv 5) (aB (dv 6) (aB (aQ bO (eb (aQ bO (eb (aO (dvb 1) aE)) (eb (aO (dvb 3) aE)))) (eb (aO (dvb 4) aE))) aS))))))))
theorem UE:FnAt P w K mg base "_law_lies" ["_law_piece","_law_spot"] 1 FB :=
 T.d23.mkD (N:=["_law_piece","_law_spot","_law_share","_law_corners","_law_least","_law_k","_law_one","_law_x","_law_y","_law_side"]) ZV KM λnd hr =>
 aP (ZI (dv 0) (rV rfl (gA (fA nd) (gA (fA nd) oU))))
 (aP (cL nd xQ)
 (aP (mW dP rfl (wH T.b1 (aB (nN T.b0 (dvb 3)) aS)) (fA nd) (aP (cL nd (aO (dvb 3) (eb (aQ gT (dvb 5) aE))))
 (aP (cL nd (aQ gT (eb (aQ bO (eb (aO (dvb 1) aE)) (dvb 2))) (eb (aQ bO (eb (aO (dvb 6) aE)) (eb (aO (dvb 1) aE))))))
 (aP (cL nd (aQ gT (eb (aQ bO (eb (aO (dvb 1) aE)) (dvb 2))) (eb (aQ bO (eb (aO (dvb 6) aE)) (eb (aO (dvb 1) aE))))))
 (aP (cL nd (aQ gT (eb (aQ bO (eb (aQ gT (eb (aO (eb (aO (dvb 3) (dvb 5))) aE)) (eb (aO (dvb 6) aE)))) (dvb 8))) (eb (aQ bO (eb (aQ gT (eb (aO (eb (aO (dvb 3) (dvb 5))) aE)) (eb (aO (dvb 6) aE)))) (dvb 7)))))
 (bF (jC (DW.tst (mJ (fU Ak (dvb 4) (eb xQ)) (pW (fU AJ (dvb 9) (dvb 4))))) (bF (cL nd (dv 9))) fN)))))))
 (bF (dG (aQ gT (eb (QY Ii T.b5 IC (aB (qR NJ (dvb 4) aE) aS))) (eb (QY Ii T.b5 IC (aB (qR AJ (dvb 4) aE) aS))))))))
theorem sB:FnAt P w K mg base "_law_homes_of" ["_law_bits_here","_law_spot"] 2 EZ :=
 T.d24.mkD ZT XT λnd hr =>
 aP (xR nd (kN aS))
 (aP (mW dP rfl (mV (dv 0)) (rV rfl (gA (fA nd) (gA (fA nd) oU))) (aP (cL nd (bC (UE T) hr (aB (dv 3) (aB (dv 1) aS))))
 (aP (jC (fU qW (dvb 5) aE) (bF (dG xQ)) fN)
 (bF (jC (fU qW (dvb 5) aE) (bF (qA 2 (bC (XA T) hr (aB (dv 4) (aB (dv 1) aS))))) fN)))))
 (bF (GH 2 (dG (dv 2)))))
theorem GS:FnAt P w K mg base "_law_spot_kept" ["_law_found","_law_bits_here","_law_height","_law_lean","_law_spot"] 3 FA :=
 T.d25.mkD ZU XU λnd hr =>
 aP (cL nd (bC (sB T) hr (aB (dv 1) (aB (dv 4) aS))))
 (aP (cL nd (aQ bO (eb (aQ gT (eb (aQ bO (eb (aO (dvb 4) aE)) (eb (aO (dvb 3) aE)))) (eb (aQ bO (eb (aO (dvb 3) aE)) (eb (aO (dvb 4) aE)))))) (eb (aO (dvb 2) aE))))
 (aP (cL nd (aQ gT (dvb 6) (eb (aQ bO (eb (aQ bO (eb (aO (dvb 2) aE)) (eb (aO (dvb 3) aE)))) (eb (aO (dvb 4) aE))))))
 (aP (jC (DW.tst (mJ (fU Ak (dvb 5) (eb xQ)) (pW (fU qW (dvb 6) aE)))) (bF (dG oE)) fN)
 (aP (cL nd (bC (sB T) hr (aB (aO (eb (aO (dvb 0) aE)) aE) (aB (dv 4) aS))))
 (aP (jC (fU NJ (dvb 6) aE) (aP (cL nd (aQ gT (eb (aQ bO (eb (aO (dvb 4) aE)) (eb (aO (dvb 2) aE)))) (eb (aQ bO (eb (aO (dvb 2) aE)) (eb (aO (dvb 4) aE))))))
 (bF (cL nd (bC (sB T) hr (aB (aO (eb (aO (dvb 0) aE)) aE) (aB (fX (aB (aQ bO (eb (aO (dvb 4) aE)) (eb (aO (dvb 2) aE))) (aB (dv 8) (aB (aQ bO (eb (aO (dvb 4) aE)) (eb (aO (dvb 2) aE))) aS)))) aS)))))) fN)
 (bF (dG (Vg (qR Ak (dvb 7) (eb xQ)) (EK (zW (qR qW (eb (nN T.b0 (dvb 7))) aE) (zW (qR qW (eb (nN T.b0 (dvb 5))) aE) (EK (bC (PU T) hr (aB (aO (dvb 7) aE) (aB (aO (dvb 5) aE) aS)))))))))))))))
theorem Gg:FnAt P w K mg base "excess" ["line","point","share"] 1 vY :=
 T.d26.mkD ZS XS λnd hr =>
 bF (dG (aQ gT (eb (aQ hE (eb (aQ bO (eb (aO (dvb 0) aE)) (eb (aO (dvb 1) aE)))) (eb (aQ bO (eb (aO (dvb 0) aE)) (eb (aO (dvb 1) aE)))))) (eb (aQ bO (eb (aO (dvb 0) aE)) (dvb 2)))))
theorem XB:FnAt P w K mg base "crossing" ["one","one_excess","other","other_excess"] 1 KY :=
 T.d27.mkD Fh PZ λnd hr =>
 aP (cL nd (uM EJ T.b2 rS (aB (dv 1) aS)))
 (aP (cL nd (uM EJ T.b2 rS (aB (dv 3) aS)))
 (bF (dG (fX (aB (aQ hE (eb (aQ bO (eb (aO (dvb 0) aE)) (dvb 5))) (eb (aQ bO (eb (aO (dvb 2) aE)) (dvb 4)))) (aB (aQ hE (eb (aQ bO (eb (aO (dvb 0) aE)) (dvb 5))) (eb (aQ bO (eb (aO (dvb 2) aE)) (dvb 4)))) (aB (aQ hE (dvb 4) (dvb 5)) aS)))))))
theorem PY:FnAt P w K mg base "neighbours" ["ones"] 1 LF :=
 T.d28.mkD Fp KN λnd hr =>
 bF (dG (DO.val (MM T.b8 T.b9 rfl (dvb 0) (eb (aQ LQ (eb (zX (dvb 0) (BG jA) BF)) (eb (zX (dvb 0) BF (BG jA))))))))
theorem IQ:FnAt P w K mg base "points_within" ["corners","excesses"] 2 FF :=
 T.d29.mkD ZY ER λnd hr =>
 aP (xR nd (kN aS))
 (aP (mW dP rfl (mV (bC (PY T) hr (aB (DO.val (MM T.b8 T.b9 rfl (dvb 0) (dvb 1))) aS))) (rV rfl (gA (fA nd) (gA (fA nd) oU))) (aP (jC (fU Di (eb (aO (dvb 3) aE)) aE) (bF (qA 2 (fX (aB (aO (eb (aO (dvb 3) aE)) aE) (aB (aO (eb (aO (dvb 3) aE)) aE) (aB jA aS)))))) fN)
 (bF (jC (fU AJ (eb (aQ bO (eb (aO (dvb 3) aE)) (eb (aO (dvb 4) aE)))) aE) (bF (qA 2 (bC (XB T) hr (aB (aO (dvb 3) aE) (aB (aO (dvb 3) aE) (aB (aO (dvb 4) aE) (aB (aO (dvb 4) aE) aS))))))) fN))))
 (bF (GH 2 (dG (dv 2)))))
theorem Oz:FnAt P w K mg base "turn" ["one","middle","other"] 1 vK :=
 T.d30.mkD Kj Gy λnd hr =>
 aP (cL nd (aQ bO (eb (aQ gT (eb (aO (dvb 1) aE)) (eb (aO (dvb 0) aE)))) (eb (aQ gT (eb (aO (dvb 2) aE)) (eb (aO (dvb 0) aE))))))
 (aP (cL nd (aQ bO (eb (aQ gT (eb (aO (dvb 1) aE)) (eb (aO (dvb 0) aE)))) (eb (aQ gT (eb (aO (dvb 2) aE)) (eb (aO (dvb 0) aE))))))
 (bF (dG (aQ gT (dvb 3) (dvb 4)))))
theorem CM:FnAt P w K mg base "half_round" ["points"] 2 SL :=
 T.d31.mkD Kf KK λnd hr =>
 aP (xR nd (kN aS))
 (aP (mW dP rfl (mV (dv 0)) (fA nd) (aP (MN dP (DW.tst (Jq (fU NJ (eb (nN T.b0 (dvb 1))) aE) (Cy (fU Di (eb (bC (Oz T) hr (aB (aO (dvb 1) (eb (wG sD aE))) (aB (aO (dvb 1) (eb (wG sD aE))) (aB (dv 2) aS))))) aE)))) (bF (Sf 1)))
 (bF (qA 1 (dv 2)))))
 (bF (dG (zX (dvb 1) BF (BG (wG sD aE))))))
theorem Am:FnAt P w K mg base "outline" ["points"] 3 tT :=
 T.d32.mkD WQ UK λnd hr =>
 aP (cL nd (DO.val (ZH hr T.b11 T.b12 rfl (dvb 0))))
 (bF (dG (aQ LQ (eb (bC (CM T) hr (aB (dv 1) aS))) (eb (bC (CM T) hr (aB (DO.val (ZG T.b8 T.b10 rfl (dvb 1))) aS))))))
theorem nV:FnAt P w K mg base "shared_divisor" ["one","other"] 1 yG :=
 T.d33.mkD Dg BX λnd hr =>
 aP (cL nd (uM EJ T.b2 rS (aB (dv 0) aS)))
 (aP (cL nd (uM EJ T.b2 rS (aB (dv 1) aS)))
 (aP (MN dP (fU xY (dvb 3) aE) (aP (cL nd (aQ jU (dvb 2) (dvb 3)))
 (aP (cL nd (dv 3))
 (bF (cL nd (dv 4))))))
 (bF (dG (dv 2)))))
theorem NN:FnAt P w K mg base "settled" ["share","points"] 4 oM :=
 T.d34.mkD WR UL λnd hr =>
 aP (cL nd (bC (Am T) hr (aB (dv 1) aS)))
 (aP (jC (fU AJ (eb (nN T.b0 (dvb 2))) aE) (bF (dG xQ)) fN)
 (aP (cL nd (dv 0))
 (aP (mW dP rfl (mV (dv 2)) (rV rfl (gA (fA nd) (gA (fA nd) oU))) (bF (cL nd (bC (nV T) hr (aB (bC (nV T) hr (aB (dv 3) (aB (dv 4) aS))) (aB (dv 5) aS))))))
 (bF (dG (fX (aB (aQ gW (dvb 0) (dvb 3)) (aB (VS T.b6 (eb (DO.val (Cv ["x","y","divisor"] 2 [3] (mV (dv 2)) (λcl C s H fp=>rV rfl (gA (fA CK) (gA (fA CK) oU))) (λcl C s H fp=>fX (aB (aQ gW (dvb 0) (dvb 2)) (aB (aQ gW (dvb 1) (dvb 2)) aS))))))) aS))))))))
theorem AK:FnAt P w K mg base "part_within" ["piece","line"] 5 SN :=
 T.d35.mkD Ki IT λnd hr =>
 aP (cL nd (aO (dvb 0) aE))
 (aP (TF ["corner","line","share"] 1 [1,2] nd (SZ (aO (dvb 0) aE)) (λcl C s H fp=>fA GQ) (λcl C s H fp=>bC (Gg T) hr (aB (dv 1) (aB (dv 0) (aB (dv 2) aS)))))
 (aP (jC (fU Di (eb (Nm T.b13 rfl (dvb 3))) aE) (bF (dG (dv 0))) fN)
 (aP (jC (fU Wb (eb (Nn T.b7 rfl (dvb 3))) aE) (bF (dG xQ)) fN)
 (aP (GH 3 (cL nd (bC (IQ T) hr (aB (aO (dvb 0) aE) (aB (dv 3) aS)))))
 (aP (cL nd jA)
 (aP (mW dP rfl (mV (dv 4)) (fA nd) (bF (cL nd (aQ bO (dvb 5) (eb (aO (dvb 6) aE))))))
 (aP (TF ["x","y","own","factor"] 3 [5] nd (mV (dv 4)) (λcl C s H fp=>rV rfl (gA (fA qV) (gA (fA qV) (gA (fA qV) oU)))) (λcl C s H fp=>fX (aB (aQ bO (dvb 0) (eb (aQ gW (dvb 3) (dvb 2)))) (aB (aQ bO (dvb 1) (eb (aQ gW (dvb 3) (dvb 2)))) aS))))
 (bF (GH 7 (dG (bC (NN T) hr (aB (aQ bO (dvb 2) (dvb 5)) (aB (dv 7) aS)))))))))))))
theorem Tg:FnAt P w K mg base "cut" ["piece","line"] 6 SK :=
 T.d36.mkD Ke Gs λnd hr =>
 aP (cL nd (fX (aB (wG sD (eb (aO (dvb 1) aE))) (aB (wG sD (eb (aO (dvb 1) aE))) (aB (wG sD (eb (aO (dvb 1) aE))) aS)))))
 (bF (dG (fX (aB (bC (AK T) hr (aB (dv 0) (aB (dv 1) aS))) (aB (bC (AK T) hr (aB (dv 0) (aB (dv 2) aS))) aS)))))
theorem XD:FnAt P w K mg base "ratio" ["top","bottom"] 2 tI :=
 T.d37.mkD Fq Ba λnd hr =>
 aP (jC (fU qW (dvb 1) aE) (bF Jl) fN)
 (aP (cL nd (bC (nV T) hr (aB (dv 0) (aB (dv 1) aS))))
 (aP (jC (fU AJ (dvb 1) aE) (bF (cL nd (wG sD (dvb 2)))) fN)
 (bF (dG (fX (aB (aQ gW (dvb 0) (dvb 2)) (aB (aQ gW (dvb 1) (dvb 2)) aS)))))))
theorem Dk:FnAt P w K mg base "plus" ["one","other"] 3 HL :=
 T.d38.mkD WS Gx λnd hr =>
 bF (dG (bC (XD T) hr (aB (aQ hE (eb (aQ bO (eb (aO (dvb 0) aE)) (eb (aO (dvb 1) aE)))) (eb (aQ bO (eb (aO (dvb 1) aE)) (eb (aO (dvb 0) aE))))) (aB (aQ bO (eb (aO (dvb 0) aE)) (eb (aO (dvb 1) aE))) aS))))
theorem BK:FnAt P w K mg base "signed" ["sign","one"] 1 nY :=
 T.d39.mkD Aa XX λnd hr =>
 bF (dG (fX (aB (aQ bO (dvb 0) (eb (aO (dvb 1) aE))) (aB (aO (dvb 1) aE) aS))))
theorem Th:FnAt P w K mg base "led" ["move","spot"] 4 QJ :=
 T.d40.mkD Oj Lm λnd hr =>
 aP (cL nd (aO (dvb 0) aE))
 (bF (dG (fX (aB (bC (Dk T) hr (aB (bC (BK T) hr (aB (dv 2) (aB (aO (dvb 1) aE) aS))) (aB (aO (dvb 0) aE) aS))) (aB (bC (Dk T) hr (aB (bC (BK T) hr (aB (dv 2) (aB (aO (dvb 1) aE) aS))) (aB (aO (dvb 0) aE) aS))) aS)))))
theorem Gf:FnAt P w K mg base "behind" ["first","second"] 5 vX :=
 T.d41.mkD ZQ XQ λnd hr =>
 aP (cL nd (bC (Th T) hr (aB (dv 1) (aB (fX (aB (aO (dvb 0) aE) (aB (aO (dvb 0) aE) aS))) aS))))
 (bF (dG (fX (aB (aQ bO (eb (aO (dvb 0) aE)) (eb (aO (dvb 1) aE))) (aB (aO (dvb 2) aE) (aB (aO (dvb 2) aE) aS))))))
theorem uP:FnAt P w K mg base "shared_multiple" ["one","other"] 2 By :=
 T.d42.mkD Oi AL λnd hr =>
 bF (dG (aQ bO (dvb 0) (eb (aQ gW (dvb 1) (eb (bC (nV T) hr (aB (dv 0) (aB (dv 1) aS))))))))
theorem Gi:FnAt P w K mg base "pushed" ["piece","move"] 5 vZ :=
 T.d43.mkD ZZ XW λnd hr =>
 aP (cL nd (aO (dvb 1) aE))
 (aP (cL nd (aO (dvb 1) aE))
 (aP (cL nd (bC (uP T) hr (aB (bC (uP T) hr (aB (aO (dvb 0) aE) (aB (aO (dvb 2) aE) aS))) (aB (aO (dvb 3) aE) aS))))
 (aP (cL nd (aQ bO (eb (aO (dvb 1) aE)) (eb (aQ gW (dvb 4) (eb (aO (dvb 0) aE))))))
 (aP (cL nd (aQ bO (eb (aO (dvb 2) aE)) (eb (aQ gW (dvb 4) (eb (aO (dvb 2) aE))))))
 (aP (cL nd (aQ bO (eb (aO (dvb 3) aE)) (eb (aQ gW (dvb 4) (eb (aO (dvb 3) aE))))))
 (bF (dG (bC (NN T) hr (aB (dv 4) (aB (DO.val (Cv ["x","y","scale","right","up"] 2 [5,6,7] (SZ (aO (dvb 0) aE)) (λcl C s H fp=>rV rfl (gA (fA GR) (gA (fA GR) oU))) (λcl C s H fp=>fX (aB (aQ hE (eb (aQ bO (dvb 2) (dvb 0))) (dvb 3)) (aB (aQ hE (eb (aQ bO (dvb 2) (dvb 1))) (dvb 4)) aS))))) aS))))))))))
theorem XE:FnAt P w K mg base "way_back" ["move"] 2 rK :=
 T.d44.mkD TX QB λnd hr =>
 aP (cL nd (aO (dvb 0) aE))
 (bF (dG (fX (aB (dv 1) (aB (bC (BK T) hr (aB (wG sD (dvb 1)) (aB (aO (dvb 0) aE) aS))) (aB (bC (BK T) hr (aB (wG sD (dvb 1)) (aB (aO (dvb 0) aE) aS))) aS))))))
theorem Al:FnAt P w K mg base "carried" ["bit","move"] 6 SJ :=
 T.d45.mkD Kd Gr λnd hr =>
 bF (dG (fX (aB (bC (Gi T) hr (aB (aO (dvb 0) aE) (aB (dv 1) aS))) (aB (bC (Gf T) hr (aB (bC (XE T) hr (aB (dv 1) aS)) (aB (aO (dvb 0) aE) aS))) aS))))
theorem Gh:FnAt P w K mg base "lifted" ["bit","height"] 7 LC :=
 T.d46.mkD Fl Ay λnd hr =>
 bF (dG (bC (Al T) hr (aB (dv 0) (aB (fX (aB jA (aB (fX (aB jA (aB jA aS))) (aB (dv 1) aS)))) aS))))
theorem XC:FnAt P w K mg base "minus" ["one","other"] 3 BA :=
 T.d47.mkD WS Az λnd hr =>
 bF (dG (bC (XD T) hr (aB (aQ gT (eb (aQ bO (eb (aO (dvb 0) aE)) (eb (aO (dvb 1) aE)))) (eb (aQ bO (eb (aO (dvb 1) aE)) (eb (aO (dvb 0) aE))))) (aB (aQ bO (eb (aO (dvb 0) aE)) (eb (aO (dvb 1) aE))) aS))))
theorem KI:FnAt P w K mg base "slanted_line" ["lean","height"] 1 LG :=
 T.d48.mkD Fr Bb λnd hr =>
 bF (dG (fX (aB (aQ bO (eb (wG sD (eb (aO (dvb 0) aE)))) (eb (aO (dvb 1) aE))) (aB (aQ bO (eb (aO (dvb 0) aE)) (eb (aO (dvb 1) aE))) (aB (aQ bO (eb (aO (dvb 0) aE)) (eb (aO (dvb 1) aE))) aS)))))
theorem Kx:FnAtN P w K mg base "split" ["box","height","leans"] 8 BB :=
 T.d49.mkN Fs Bc λnd hr =>
 wI (cL nd (bC (KI T) hr (aB (aO (dvb 2) (eb (aO (dvb 0) aE))) (aB (dv 1) aS))))
 (wI (cL nd (bC (XC T) hr (aB (fX (aB jA (aB jA aS))) (aB (dv 1) aS))))
 (wI (xR nd (kN aS))
 (wI (xR nd (kN aS))
 (wI (mW dP rfl (mV (aO (dvb 0) aE)) (rV rfl (gA (fA nd) (gA (fA nd) oU))) (aP (cL nd (bC (Tg T) hr (aB (dv 7) (aB (dv 3) aS))))
 (aP (jC (fU Dj (eb (aO (dvb 9) aE)) (eb xQ)) (bF (qA 5 (fX (aB (aO (dvb 9) aE) (aB (dv 8) aS))))) fN)
 (bF (jC (fU Dj (eb (aO (dvb 9) aE)) (eb xQ)) (bF (qA 6 (bC (Gh T) hr (aB (fX (aB (aO (dvb 9) aE) (aB (dv 8) aS))) (aB (dv 4) aS))))) fN)))))
 (Cw 5 (Cw 6 (Jn (ZF (sI (ZF (sI (Cu (aO (dvb 0) aE)) (sI (Cu (dv 1)) (sI (Rc 5) TC)))) (sI (ZF (sI (Cu (aO (dvb 0) aE)) (sI (Cu (bC (XC T) hr (aB (aO (dvb 0) aE) (aB (dv 1) aS)))) (sI (Rc 6) TC)))) TC))))))))))
theorem fo_law {f:Addr} {fd:lY} (Fu:Fun K "law" "law" (top 59) f fd):FnOk P w K mg base CX0 9 f fd ["_law_script"] (spD K (Ho 63)) :=
 Os Fu Oh Ax λnd hr =>
 jJ (cL nd (bC (PX T) hr (aB (aQ gW (eb (bC (tR T) hr (aB (dv 0) (aB jA aS)))) aE) (aB (aQ hE aE (eb (aQ jU (eb (bC (tR T) hr (aB (dv 0) (aB jA aS)))) aE))) aS))))
 (jJ (cL nd (bC (tR T) hr (aB (dv 0) (aB jA aS))))
 (jJ (cL nd (aQ jU (dvb 2) (eb (nN T.b0 (dvb 1)))))
 (jJ (cL nd (aO (dvb 1) (dvb 3)))
 (jJ (cL nd (bC (jK T) hr (aB (aQ hE aE (eb (aQ jU (eb (aQ gW (dvb 2) aE)) aE))) (aB (aQ hE aE (eb (aQ jU (eb (aQ gW (dvb 2) aE)) aE))) aS))))
 (jJ (xR nd (kN aS))
 (jJ (mW dP rfl (mV (bC (KG T) hr (aB (dv 4) (aB (dv 5) (aB (aQ jU (eb (aQ gW (dvb 2) aE)) aE) aS))))) (fA nd) (bF (qA 6 (fX (aB (dv 7) (aB (bC (UF T) hr (aB (aQ hE (eb (aQ gW (dvb 2) aE)) (eb (aQ bO aE (eb (nN T.b0 (dvb 6)))))) aS)) aS))))))
 (jJ (cL nd (aQ hE aE (eb (aQ jU (eb (bC (tR T) hr (aB (dv 0) (aB jA aS)))) aE))))
 (jJ (cL nd (bC (jK T) hr (aB (aQ bO (dvb 8) (eb (aO (dvb 5) aE))) (aB (aQ bO aE (eb (aO (dvb 5) aE))) aS))))
 (jJ (cL nd (bC (jK T) hr (aB (aQ bO (eb (aQ gT aE (dvb 8))) (eb (aO (dvb 5) aE))) (aB (aQ bO aE (eb (aO (dvb 5) aE))) aS))))
 (jJ (cL nd (DO.val (kN (aB (QZ T.b8 (dvb 6)) (aB (QZ T.b8 (dvb 1)) aS)))))
 (jJ (GH 6 (Nr nd (Kx T) hr (aB (fX (aB (dv 3) (aB (dv 5) (aB (aO (dvb 11) aE) aS)))) (aB (dv 9) (aB (aO (dvb 11) aE) aS)))))
 (jJ (GH 6 (jC (DW.tst (mJ (kA (kB (uN (qC _) T.b3 T.b6 mI (dv 12)))) (mJ (fU xY (eb (nN T.b0 (dvb 12))) aE) (pW (fU (Tf hr) (dvb 11) (eb (DO.val (kN (aB (dv 6) (aB (dv 1) aS)))))))))) (bF (dG oE)) fN))
 (jJ (jC (DW.tst (mJ (kA (kB (bC (JJ T) hr (aB (aO (dvb 12) aE) (aB (dv 3) (aB (dv 9) (aB (dv 4) aS))))))) (pW (kA (kB (bC (JJ T) hr (aB (aO (dvb 12) aE) (aB (dv 3) (aB (dv 10) (aB (dv 4) aS)))))))))) (bF (dG oE)) fN)
 (jJ (mW dP rfl (mV (aQ LQ (eb (DO.val (Jk (dvb 0) BF (BG jA)))) (eb (DO.val (kN (aB (dv 2) aS)))))) (fA nd) (bF (GH 6 (jC (kA (kB (bC (GS T) hr (aB (dv 12) (aB (dv 6) (aB (dv 9) (aB (dv 4) (aB (bC (KH T) hr (aB (dv 13) (aB (dv 4) (aB (dv 5) aS)))) aS)))))))) (bF (dG oE)) fN))))
 (RC 12
 (RC 12
 (Nt (bF (GH 6 (dG (qR (Te hr) (dvb 11) (eb (DO.val (kN (aB (dv 6) (aB (dv 1) aS))))))))))))))))))))))))))
end
end K36
end
end L2.R2
namespace PySem.W.Fast
theorem tw13239503451520037513:True:=⟨⟩
theorem tw13396946806996786570:True:=⟨⟩
theorem tw2099608471207116037:True:=⟨⟩
theorem tw7308427987191125774:True:=⟨⟩
theorem tw6120361379031048399:True:=⟨⟩
theorem tw14477298076452890942:True:=⟨⟩
theorem tw9540603303804852164:True:=⟨⟩
theorem tw16234835270604403038:True:=⟨⟩
theorem tw17853227020160149986:True:=⟨⟩
theorem tw16164374719673353495:True:=⟨⟩
theorem tw11067226991198120214:True:=⟨⟩
theorem tw13950234867708976441:True:=⟨⟩
theorem tw8228380919274960082:True:=⟨⟩
theorem tw974880719187841301:True:=⟨⟩
theorem tw12914572249226389401:True:=⟨⟩
theorem tw15565878799593344181:True:=⟨⟩
theorem tw16749728874155895496:True:=⟨⟩
theorem tw10580465286416735297:True:=⟨⟩
theorem tw957392467389106333:True:=⟨⟩
theorem tw13484469015340119418:True:=⟨⟩
theorem tw1664844969691209046:True:=⟨⟩
theorem tw14898827357992145038:True:=⟨⟩
theorem tw2013709937759368333:True:=⟨⟩
theorem tw2158138807235737875:True:=⟨⟩
theorem tw7582175280096409618:True:=⟨⟩
theorem tw8184485441481146063:True:=⟨⟩
theorem tw11460393243123678910:True:=⟨⟩
theorem tw899515411430428205:True:=⟨⟩
theorem tw13041554696968728736:True:=⟨⟩
theorem tw2610705728995600976:True:=⟨⟩
theorem tw14041373085013579907:True:=⟨⟩
theorem tw10108592839755321449:True:=⟨⟩
theorem tw11491910140630867046:True:=⟨⟩
theorem tw13106967783109086879:True:=⟨⟩
theorem tw6883724091837122679:True:=⟨⟩
theorem tw1624245546977588812:True:=⟨⟩
theorem tw14451619844035455871:True:=⟨⟩
theorem tw6719497553200087118:True:=⟨⟩
theorem tw16335773573375638118:True:=⟨⟩
theorem tw17800593993247042336:True:=⟨⟩
theorem tw12023245156663773090:True:=⟨⟩
theorem tw11737685276065603205:True:=⟨⟩
theorem tw8889257776703971799:True:=⟨⟩
theorem tw1773067032805212377:True:=⟨⟩
theorem tw6291572452437622274:True:=⟨⟩
theorem tw6256035668831815302:True:=⟨⟩
theorem tw17564676733805650333:True:=⟨⟩
theorem tw1820875129887114533:True:=⟨⟩
theorem tw10954406699629064511:True:=⟨⟩
theorem tw12913226401064396297:True:=⟨⟩
theorem tw14399506861285119233:True:=⟨⟩
theorem tw8588750159255377987:True:=⟨⟩
theorem tw6769934840331315626:True:=⟨⟩
theorem tw18052312337292068963:True:=⟨⟩
theorem tw901560320955722064:True:=⟨⟩
theorem tw10124678690647951275:True:=⟨⟩
theorem tw15102593983292691298:True:=⟨⟩
theorem tw12433592627040769825:True:=⟨⟩
theorem tw9485900678272176560:True:=⟨⟩
theorem tw3918957829631462707:True:=⟨⟩
theorem tw10709896417770659510:True:=⟨⟩
theorem tw5424661505993598902:True:=⟨⟩
theorem tw7456859273560784987:True:=⟨⟩
theorem tw9232382089097557787:True:=⟨⟩
theorem tw1389881204953621221:True:=⟨⟩
theorem tw642160240766363586:True:=⟨⟩
theorem tw7750153233434817662:True:=⟨⟩
theorem tw12792964699400645626:True:=⟨⟩
theorem tw140224016898053094:True:=⟨⟩
theorem tw5482989716755862185:True:=⟨⟩
theorem tw15463676041481468873:True:=⟨⟩
theorem tw4225240156595637166:True:=⟨⟩
theorem tw8904895746087978037:True:=⟨⟩
theorem tw6099249088048641662:True:=⟨⟩
theorem tw11613141625764328814:True:=⟨⟩
theorem tw1274596069731428596:True:=⟨⟩
theorem tw5314010727126592877:True:=⟨⟩
theorem tw13198302510605196483:True:=⟨⟩
theorem tw9284529795303262020:True:=⟨⟩
theorem tw1751765845046447278:True:=⟨⟩
theorem tw1702036222844451829:True:=⟨⟩
theorem tw9148568536143503280:True:=⟨⟩
theorem tw8565081470576582535:True:=⟨⟩
theorem tw3032401607930197668:True:=⟨⟩
end PySem.W.Fast
open PySem PySem.W PyProof.Rows
set_option maxRecDepth 100000 in
set_option maxHeartbeats 0 in
theorem PySem.Challenge.cw_recut_k36_a_box_split_holds : PySem.Challenge.rw_recut_k36_a_box_split.Holds := by
 w_on;o_law;k_head;(case hw=>w_witness2)
 k_fill
 refine L2.R2.walk_law (l:=PySem.Challenge.rw_recut_k36_a_box_split) (k:=9) (x:="_law_script") rfl rfl ⟨rfl,by decide,by decide⟩ (λw h Y=>PySem.W.kIn_of Y) rfl ?L ?F
 case L =>
  intro w
  refine' L2.R2.noLam ?q1 ?q2 ?q3
  (case q1=>k_is)
  (case q2=>k_is)
  (case q3=>k_is)
 case F =>
  intro w mg h KX G
  have T:L2.R2.K36.TopF (L2.KOf KX) mg:=by
   dsimp only[L2.KOf]
   constructor
   all_goals first | (refine PySem.W.mg_none_of KX G ?z;(case z=>k_is)) | (refine' L2.R2.def_mk KX G ?a ?l ?c ?k ?b;(case a=>k_is);(case l=>k_is);(case c=>k_is);(case k=>k_is);(case b=>first | exact L2.R2.bind1 (λ_=>rfl) | exact L2.R2.bind2 (λ_ _=>rfl) | exact L2.R2.bind3 (λ_ _ _=>rfl) | exact L2.R2.bind4 (λ_ _ _ _=>rfl) | exact L2.R2.bind5 (λ_ _ _ _ _=>rfl)))
  exact T.d50.okL λbase f fd Fu=>L2.R2.K36.fo_law T Fu
