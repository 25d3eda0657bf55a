import PyProof.Rows.All
import Wide.All
import OpenK.AllK
import Wide.FinOn
import Lean
import PyProof.EqAt
import PyProof.EqKinds
import PyProof.TupleCall
import PyProof.NeKinds
import PyProof.Rows.SeqMore
import PyProof.FactsAll.tuple_2
import KE.KDictOf
import PyProof.ExcInit
import PyProof.ExcClass3
import PyProof.NsDelKeeps
import PyProof.RulesAs
import PyProof.Rows.CountFlat
import PyProof.AutoListH
import KE.KIntText
import PyProof.Rows.CatFin
import PyProof.Rows.Range3
import PyProof.Rows.CallKwBuiltin
import PyProof.NoPylong
import PyProof.EnumMake
import PyProof.Draws
import PyProof.DictWalks
import PyProof.DictUpdate
import PySem.Challenge.RW_nolitter_k71_whole_back_through_all
set_option Elab.async false
set_option linter.all false
set_option maxRecDepth 100000
set_option genSizeOf false
set_option maxHeartbeats 4000000
local macro_rules | `(tactic| decide) => `(tactic| decide +kernel)
open Array renaming length_toList->K7,getElem?_toList->V7,forIn_toList->Z0,getElem?_eq_getElem->B01,size_append->B05,append_assoc->B80,toList->ZR
open Bool renaming false_ne_true->C9,false_eq_true->L7,and_eq_true->O9,eq_iff_iff->U7,not_true->V1,false_or->Fi,not_false->A86,or_false->Qr,true_or->Qj,or_true->Qg,xor_false->ZZ,or_eq_true->C29,and_true->C74
open False renaming elim->Q2
open ForInStep renaming yield->U8
open Int renaming emod_lt_of_pos->T6,toNat_natCast->U2,emod_nonneg->W4,le_of_lt->W8,mul_le_mul_of_nonneg_left->Y9,natCast_add->Z7,fdiv_eq_ediv_of_nonneg->A01,natCast_nonneg->QJ,mul_add->Fd,fmod_eq_emod_of_nonneg->A88,one_mul->MA,ediv_nonneg->B55,mul_one->Qe,natCast_succ->C17,natCast_pow->C33,lt_irrefl->C75,mul_comm->C85,ne_of_gt->C86,mul_sub->C99,neg_mul->D00,le_refl->D04
open List renaming length_map->B0,length_append->B4,getElem?_eq_getElem->B6,map_append->B7,map_cons->C0,length_cons->C1,mem_cons_of_mem->C2,mem_cons_self->C6,replicate->D2,append_assoc->D4,mem_map->D6,mem_cons->D7,append_nil->D9,size_toArray->E2,range->E6,getElem?_append_right->E7,eq_nil_of_length_eq_zero->E8,mem_append->E9,getD_eq_getElem?_getD->F4,mem_singleton->F5,getElem?_map->F7,getElem?_append_left->F9,lookup_cons->I0,length_range->J2,length->J5,nil_append->J6,length_set->J9,lookup->K0,cons_append->K2,mem_of_getElem?->K3,replicate_succ->K4,sum_cons->K9,mem_range->L0,flatten_cons->L4,getElem?_eq_some_iff->L8,getElem_mem->M5,find?_cons->M6,mem_append_right->M7,getElem?_eq_none->M8,map_congr_left->M9,drop_eq_getElem_cons->N7,nodup_cons->O1,length_singleton->O4,any_cons->O7,lookup_nil->O8,map_map->P9,zip_cons_cons->Q1,length_take->Q6,flatten_replicate_singleton->Q9,length_reverse->R8,length_replicate->S8,reverse_cons->U4,getElem?_cons_succ->U5,all_cons->V3,all_eq_true->V4,eq_nil_or_concat->V5,concat_eq_append->V6,length_nil->W0,range_succ->W5,set_append_left->W9,length_drop->Y4,mapM_cons->Y5,not_mem_nil->Y7,take_of_length_le->Z2,filter_append->Z3,mem_filter->Z5,foldl_cons->Z6,length_filter_le->Z8,nodup_append->Z9,mem_append_left->QP,getElem?_zip_eq_some->A19,mem_or_eq_of_mem_set->A20,filterMap_cons->QL,forIn_cons->MO,getElem?_replicate->A35,getElem?_set_self->A40,any_eq_false->QG,map_nil->Ff,pairwise_map->QF,length_pos_of_mem->A48,getElem?_reverse->A54,filter_cons->QE,mem_reverse->QD,map_reverse->QC,getElem?_set_ne->A68,sum_append->Qy,reverse_append->A79,set_set->MK,perm_ext_iff_of_nodup->A92,forIn_nil->Qu,nodup_nil->Qt,find?_eq_none->A96,getElem?_eq_none_iff->A99,set_comm->Qq,eq_of_mem_replicate->B17,map->Dr,filter_cons_of_neg->B28,filter_cons_of_pos->B29,length_eq_zero_iff->B30,drop_eq_nil_of_le->B40,map_set->Qh,range_succ_eq_map->B43,drop_of_length_le->B45,of_mem_zip->B50,length_zip->B53,drop_zero->Z_,mem_iff_getElem->B62,forall_mem_cons->B64,getElem?_range->B69,mem_filterMap->B81,filterMap_map->B82,set_cons_succ->B87,map_replicate->B88,getElem?_set->B98,filter_congr->C01,find?_append->C02,mapM_append->C11,zipIdx_cons->C14,drop_length->C15,zipIdx_nil->C32,filter_nil->C34,filter_map->C35,zip->PX,foldl->ZD,map_drop->C76,map_take->C77,sum_nil->C88
open List.Pairwise renaming filter->D02,nil->D25
open List.cons renaming injEq->V9,inj->Y0
open Nat renaming le_refl->B9,lt_of_lt_of_le->C5,lt_of_le_of_lt->C8,le_trans->D5,zero_le->J4,ne_of_lt->J7,add_sub_cancel->K6,add_assoc->K8,zero_add->L5,mul_le_mul_right->M4,eq_of_testBit_eq->O6,add_comm->P0,le_of_ble_eq_true->P5,le_of_lt->P8,two_pow_pos->Q0,le_add_right->Q7,pow_succ->Q8,testBit_two_pow->R9,lt_succ_self->S9,pow_le_pow_right->T9,le_succ->V2,succ_mul->W7,ne_of_gt->Z1,pow_lt_pow_right->QN,mul_le_mul->Fm,sub_zero->Dx,testBit_zero->MR,zero_testBit->MQ,lt_or_ge->Dw,sub_self->Fl,lt_irrefl->Fj,xor_lt_two_pow->QI,add_sub_cancel_left->A38,lt_of_succ_lt_succ->A47,le_mul_of_pos_left->A49,testBit_and->QA,testBit_xor->Qz,add_zero->MJ,add_right_comm->A95,testBit_two_pow_self->B13,mul_comm->Qi,min_eq_left->B54,add_sub_add_right->B59,mul_le_mul_left->B70,lt_of_succ_lt->B93,le_of_lt_succ->C03,le_of_not_lt->C08,testBit_succ->C12,min_eq_right->C13,mod_eq_of_lt->C16,xor_div_two->C31,testBit_or->C40,le_of_eq->C82,lt_trans->C83,min_self->C84,le_total->C87,mul_add->D01,pow_pos->D05
open Nat.succ renaming inj->P1
open Ne renaming symm->D3
open Option renaming map_eq_some_iff->F6,bind_eq_some_iff->A37,bind_some->A59,isSome_map->B03,isNone_none->B86,getD_none->C09,map_some->C30
open Option.some renaming inj->E1,injEq->D26
open Or renaming inr->xF,inl->AW
open Prod renaming ext->AZ
open Prod.mk renaming injEq->C61
open PyProof.Rows renaming callWith_type1->K1,slot_tuple_getitem->Y1,IntsAre->wQ,AllBare->zp,subscriptTail->Qo,boot_range->Qb,Subscript_->Qa,callWith_builtin1->C07,assign_Tuple->C59,tail_any->Zt,envOfC->D18
open PySem renaming wpAny_bind->B5,wpAny_pure->C4,starEach->D1,Spec->E5,NameKind->J1,mainGlobals->J8,compareOp->L6,wpAny_field->L9,binaryOp->N0,wpAny_seqItems->N3,wpAny_holding->N5,wpAny_Call_Name_kw->N8,attributeBase->O2,wpAny_callSpecial?_slot->O5,wpAny_call_entry->P3,keywordEach->P4,wpAny_setField_rec->Q5,wpAny_truthy_bool->R0,sysModules->R4,bootBuiltins->R5,wpAny_mono->R6,mem_of_lookup->R7,assignEach->T7,wpAny_newObj_type->U6,wpAny_passesOwn->W6,foldedSetIterable->X4,backToKw->X5,wpAny_pyIter_list->X6,swapsWith->Y8,wpAny_pyIter_tuple->Z4,sliceBounds->Bb,wpAny_isInstance->MP,behindInMarks->Fh,wpAny_specialOf->MN,codeAny->tD,getattributeRaised->QH,inplaceOp->zr,FuncData->xI,wpAny_typeOf->Fe,ZipApart->xH,isSubtype_tuple_tuple->A55,builtinLookup_eq_fast->A56,wpAny_forIn_list->QB,wpAny_rule->Du,getMethod->A_,call_meets->Dt,wpAny_updateSeq_pair->A71,wpAny_execs_nil->Qx,letOwnedTupleGo->Qw,codeAny_builtin->Qv,standAt->xG,call_meetsIn->MI,wpAny_tupleItemsOf->A97,tupleKind_room_in1->A98,wpAny_Call_method->B07,slot_list_getitem->B08,wpAny_standAt->Qp,wpAny_onRaise->Qn,wpAny_attempt->Qm,plainId_quiet->Ql,tupleKind->EZ,PassesOwn->Qk,noFill_tuple_add->B33,codeAny_mono->Qf,valueAt->AY,getItem->AX,typeLookup->My,typeLookup_type->Z',callWith->EY,wpAny_tryCatch->ZY,BindsTo->Dq,callerA->Dp,rangeSize_one->ZW,seq_tuple_add->ZV,evalPart_none->ZU,nums_intItems->ZT,builtinsNs->Qc,Within->ZS,unaryOp->EX,concat_meets->ZM,seqIndex_neg->ZL,eqIsQuiet->PZ,slicePick->PY,sizeLine_eq->ZG,seqIndex_of->ZF,wpAny_letGo->ZE,call->ZC,isInstance->ZA,wpAny_Name->Zz,bindArgs->PV,typeIs_str->Zy,typeIs_int->Zx,numAt_eq->PU,getAttr?->PR,storeName->Zw,small_one->Zv,DictEntry->C80,cellsFrom->Zu,setItem->PQ,storedH->PN,compEnvC->Zs,intItems->Zr,Fin->D29
open PySem.Around renaming under_plainId->QM,under->ZQ
open PySem.AutoListH renaming list___mul___list_int_3->B92
open PySem.Builtin renaming bitNot->O0,bitAnd->P6,bitXor->MM,bitOr->ML
open PySem.Builtin.Dict renaming updateFrom->Y6,pairItems->A46,selfAndRest->B14
open PySem.Builtin.List renaming listTooLong->X9
open PySem.Builtin.Range renaming rangeSize->A34
open PySem.Builtin.Slice renaming slicePlaces->V8,sliceAdjust->A18,sliceApplied->A89,slicePartIndex->C27,sliceFields->C58
open PySem.Builtin.SmallTypes renaming nextOf->K5,ownedTupleIsFree->M0,ownedTupleHandOut->A23
open PySem.Builtin.Str renaming tooLong->QK,glued->D27
open PySem.Builtin.Tuple renaming tupleExact->X8,tupleHashOf->A17,tupleItemsOf->A85
open PySem.Calls renaming spliced_cons->Q4,spliced_nil->U1,callWith_builtin->V0,evalArgs_plain->QO,Name_function_global->A87
open PySem.Challenge renaming pw_nolitter_k71_whole_back_through_all->A74
open PySem.Code renaming isFrame->ZP,frames->C95
open PySem.Data renaming fields->C94,cell->D30
open PySem.DictEntry renaming refKey->D31
open PySem.EqMixed renaming eq_bool_str->C51,eq_str_bool->C52,ne_bool_str->C56,ne_str_bool->C57,eq_int_str->C65,eq_str_int->C67,ne_int_str->C71,ne_str_int->C73
open PySem.EqNone renaming eq_none_none->C48,eq_none_bool->C49,eq_bool_none->C50,ne_none_none->C53,ne_none_bool->C54,ne_bool_none->C55,eq_none_int->C62,eq_none_str->C63,eq_int_none->C64,eq_str_none->C66,ne_none_int->C68,ne_none_str->C69,ne_int_none->C70,ne_str_none->C72
open PySem.F renaming plainAttrs_dict->Y3,args_tuple_add_2->A26,entry_tuple_add->A36,slot_tuple_add->A44,slot_dict_get->A53,slot_dict_getitem->B00,slot_dict_update->B15,slot_dict_values->B16,args_dict_get_3->B25,plainAttrs_list->B26,entry_dict_get->B35,slot_dict_pop->B57
open PySem.Heap renaming get?_push_of_some->B8,lt_size->D8,get?_push_size->E4,size_push->T8,SameBut->U9,get?_update_other->B37,get?_update_self->B58,IsTuple->ZN,IsList->ZH,ExtBut->D03
open PySem.Heap.DictOf renaming new->B51
open PySem.Heap.IsSliceOf renaming new->B83
open PySem.Heap.SameBut renaming update->B71,refl->D28
open PySem.IsL renaming update->D32
open PySem.IsRange renaming new->ZJ
open PySem.NameKind renaming free->F8,cell->P7
open PySem.Obj renaming mapSeq->Mz,data_mapFields->B85
open PySem.Paired renaming length->Qs,snoc->ZI
open PySem.PassesOwn renaming never->C28
open PySem.SeqAt renaming EqAt->Dv
open PySem.SeqAt.EqAt renaming of_refs->A91,same->B52,int_str->B77,str_int->B78,none_bool->C96,bool_none->C97,bool_bool->C98,none_int->D09,none_str->D10,bool_int->D11,bool_str->D12,int_none->D13,int_bool->D14,str_none->D15,str_bool->D16,int_int->D20,str_str->D21
open PySem.SeqAt.RcAt renaming lists_lengths->B11,tuples->B99,lists->C10
open PySem.SeqAt.RcNeAt renaming lists_lengths->C39,tuples->D17,lists->D23
open PySem.Shared renaming heap->Fc
open PySem.Str renaming ofString->J0,empty->U0,length->Fb,ofString_eq_toList->B41
open PySem.Value renaming ref->F0,none->X7,int->E',str->E_,builtin->ZX,bool->Qd,float->ZK,isStrOf->C60,isInt->C92,bytes->C93,type->D19
open PySem.W renaming OpenLaw->PL
open PySem.W.WData renaming int->D33
open PySem.W.WShape renaming has->D22
open PySem.Within renaming cons->D24
open String renaming reduceEq->C7
open Sum renaming inl->N6,inr->Y2
open Sum.inl renaming inj->MB
open True renaming intro->Q3
local macro_rules | `(tactic| omega) => `(tactic| lia)
local macro_rules | `(()) => `(by omega)
local macro_rules | `(∅) => `(by decide)
set_option hygiene false in
local macro_rules | `(tactic| simp? [$xs,*]) => `(tactic| (simp! [$xs,*]; repeat (simp only [Go]; simp! [$xs,*])))
set_option hygiene false in
local macro_rules | `(tactic| simp?) => `(tactic| simp? [id]) | `(tactic| simp!) => `(tactic| simp! [id]) | `(tactic| dsimp!) => `(tactic| dsimp! [id])
set_option hygiene false in
local macro_rules | `($n <* $f <* $s) => `(Ok P w mg base $n $f $s)
set_option hygiene false in
local macro_rules | `(¬$n:num) => `(aj ai (ev $n) aB)
local macro_rules | `(#[]) => `(⟨⟩) | `(#[$xs,*]) => `(⟨$xs,*⟩)
local macro_rules | `(tactic| apply $e) => `(tactic| refine $e)
local macro_rules | `(tactic| let $p:term := $e) => do
  let rec go : Nat → Lean.Term → Lean.MacroM (Lean.TSyntax `rcasesPat)
    | 0, _ => Lean.Macro.throwUnsupported
    | n+1, t => match t with
      | `(#[$xs,*]) => do let ys ← xs.getElems.mapM (go n); `(rcasesPat| ⟨$[$ys:rcasesPat],*⟩)
      | `(_) => `(rcasesPat| _)
      | `($i:ident) => `(rcasesPat| $i:ident)
      | _ => Lean.Macro.throwUnsupported
  `(tactic| obtain $(← go 9 p):rcasesPat := $e)
noncomputable section
local macro_rules(kind:=Lean.Parser.Command.declaration)|s=>do
 if (s[1].isOfKind ``Lean.Parser.Command.definition||s[1].isOfKind ``Lean.Parser.Command.abbrev)&&s[0][1].isNone then
  let q<-`(noncomputable def x:=0)
  let m:=s[0]
  for i in [0:m.getNumArgs] do if !q.raw[0][i].isNone && m[i].isNone then return s.setArg 0 (m.setArg i q.raw[0][i])
 Lean.Macro.throwUnsupported
namespace L2
open PySem PySem.Spec PyProof.Rows
abbrev Key:=Sum Int Str
def DA:Key->Value->Bool
 | .inl k,v=>C92 k v| .inr x,v=>C60 x v
def Xh(w:World):Key->Int
 | .inl k=>hashInt k| .inr x=>hashStr w x
def xb:∀{k:Key} {v:Value},DA k v=true->(∃i t,k=N6 i/\v=E' i t)\/(∃x t,k=Y2 x/\v=E_ x t)
 | .inl i,v,h=>by let#[t,e]:=Value.isInt_shape (k:=i) (v:=v) h;exact .inl #[i,t,rfl,e]| .inr x,v,h=>by let#[t,e]:=Value.isStrOf_shape (x:=x) (v:=v) h;exact .inr #[x,t,rfl,e]
def vh4(i:Int)(t:Tok):DA (.inl i) (.int i t)=true:=by simp[DA,C92]
def vh3(x:Str)(t:Tok):DA (.inr x) (.str x t)=true:=by simp[DA,C60]
def x93(a b:Int):decide ((N6 a:Key)=N6 b)=(a==b):=by
 by_cases e:a=b
 .subst e;simp
 .have h:¬ (N6 a:Key)=N6 b:=λq=>e (MB q);rw[decide_eq_false h];exact(beq_eq_false_iff_ne.mpr e).symm
def x90(a b:Str):decide ((Y2 a:Key)=Y2 b)=decide (a=b):=by
 by_cases e:a=b
 .subst e;simp
 .have h:¬ (Y2 a:Key)=Y2 b:=λq=>e (Y2.inj q);rw[decide_eq_false h,decide_eq_false e]
def x92(a:Int)(b:Str):decide ((N6 a:Key)=Y2 b)=false:=decide_eq_false (λq=>nomatch q)
def x91(a:Str)(b:Int):decide ((Y2 a:Key)=N6 b)=false:=decide_eq_false (λq=>nomatch q)
def eD(prog:Program)(w:World):PySem.KeyKind prog w Key where
 is:=DA
 hash:=Xh w
 inj:=λv a b o m=>by
  rcases xb o with⟨i,t,rfl,rfl⟩|⟨x,t,rfl,rfl⟩
  .rcases xb m with⟨j,u,rfl,e⟩|⟨y,u,rfl,e⟩
   .injection e with f _;rw[f]
   .exact nomatch e
  .rcases xb m with⟨j,u,rfl,e⟩|⟨y,u,rfl,e⟩
   .exact nomatch e
   .injection e with f _;rw[f]
 byValue:=λk v h=>by rcases xb h with⟨i,t,rfl,rfl⟩|⟨x,t,rfl,rfl⟩ <;> rfl
 pyHash:=λl h=>by
  rcases xb l with⟨i,t,rfl,rfl⟩|⟨x,t,rfl,rfl⟩
  .exact wpAny_pyHash_int h
  .exact wpAny_pyHash_str h
 eqBool:=λn l h=>by
  rcases xb n with⟨i,t,rfl,rfl⟩|⟨x,t,rfl,rfl⟩
  .rcases xb l with⟨j,u,rfl,rfl⟩|⟨y,u,rfl,rfl⟩
   .rw[x93] at h;exact wpAny_eqBool_int h
   .rw[x92] at h;exact B77 i t y u _ _ _ _ h
  .rcases xb l with⟨j,u,rfl,rfl⟩|⟨y,u,rfl,rfl⟩
   .rw[x91] at h;exact B78 x t j u _ _ _ _ h
   .rw[x90] at h;exact wpAny_eqBool_str h
 «strs»:=λk x t v h=>by
  rcases xb h with⟨i,u,rfl,e⟩|⟨y,u,rfl,e⟩
  .exact nomatch e
  .injection e with f _;subst f;cases v <;> rfl
def ux6(prog:Program)(w:World)(i:Int)(t:Tok):(eD prog w).is (.inl i) (.int i t)=true:=vh4 i t
def ux5(prog:Program)(w:World)(x:Str)(t:Tok):(eD prog w).is (.inr x) (.str x t)=true:=vh3 x t
inductive V where
 | non|bl (b:Bool)|int (i:Int)|str (x:Str)|tW (b:Array UInt8)|xx (b:UInt64)|ref (a:Addr)|ty (n:String)
 deriving DecidableEq
def RelV:V->Value->Prop
 | .non,u=>u=X7| .bl b,u=>u=Qd b| .int i,u=>∃t,u=E' i t| .str x,u=>∃t,u=E_ x t| .tW b,u=>∃t,u=C93 b t| .xx b,u=>∃t,u=ZK b t| .ref a,u=>u=F0 a| .ty n,u=>u=D19 n
abbrev Vals:List V->List Value->Prop:=Paired RelV
theorem Vals.length{xs:List V}{us:List Value}(r:Vals xs us):xs.length=us.length:=Qs r
theorem Vals.get:∀{xs:List V} {us:List Value} {i:Nat} {x:V},Vals xs us->xs[i]?=some x->∃u,us[i]?=some u/\RelV x u
 | _,_,_,_,.nil,e=>by simp at e| _,_,0,_,.cons r _,e=>by simp at e;subst e;exact#[_,rfl,r]| _,_,i+1,x,.cons _ t,e=>by let#[u,g,f]:=Vals.get (i:=i) (x:=x) t (by simpa using e);exact#[u,by simpa using g,f]
theorem Vals.set(r:RelV x u):∀{xs:List V} {us:List Value} (i:Nat),Vals xs us->Vals (xs.set i x) (us.set i u)
 | _,_,_,.nil=>.nil| _,_,0,.cons _ t=>.cons r t| _,_,i+1,.cons q t=>.cons q (Vals.set r i t)
theorem Vals.append:∀{xs ys:List V} {us f:List Value},Vals xs us->Vals ys f->Vals (xs++ys) (us++f)
 | _,_,_,_,.nil,s=>s| _,_,_,_,.cons r t,s=>.cons r (Vals.append t s)
theorem Vals.take:∀{xs:List V} {us:List Value} (n:Nat),Vals xs us->Vals (xs.take n) (us.take n)
 | _,_,0,_=>.nil| _,_,_+1,.nil=>.nil| _,_,n+1,.cons r t=>.cons r (Vals.take n t)
theorem Vals.drop:∀{xs:List V} {us:List Value} (n:Nat),Vals xs us->Vals (xs.drop n) (us.drop n)
 | _,_,0,r=>r| _,_,_+1,.nil=>.nil| _,_,n+1,.cons _ t=>Vals.drop n t
def Vals.none_of:∀{xs:List V} {us:List Value} {i:Nat},Vals xs us->xs[i]?=none->us[i]?=none:=λ{xs us i} r e=>by have g:=r.length;have f:xs.length<=i:=A99.mp e;exact A99.mpr ()
def dQ:Option V->Option Value->Prop
 | some v,some u=>RelV v u| none,none=>True| _,_=>False
def KV{κ:Type}:List (κ×V)->List (κ×Value)->Prop:=Paired λ(p:κ×V) (q:κ×Value)=>p.1=q.1/\RelV p.2 q.2
def kV:Key->V
 | .inl i=>.int i| .inr x=>.str x
section
variable{prog:Program}{w:World}{K:Type}[DecidableEq K](knd:KeyKind prog w K)
def cj(h:Heap)(q:List K×List K)(a:Addr):Prop:=∃o items n b f,h.get? a=some o/\o.cls=.type "tuple" /\ o.data=.seq items n/\items.toList=F0 b::f/\IsTupleKey knd h q.1 b/\ItemsAre knd q.2 f
def Vn(q:List K×List K):Int:=reduceHash (A17 (tupleKeyHash knd q.1::q.2.map knd.hash))
variable{knd}
def cj.typeIs{s:Shared}{q:List K×List K}{a:Addr}(x:cj knd s.heap q a):s.TypeIs (.ref a) "tuple" := let ⟨o,_,_,_,_,f,g,_⟩:=x;#[o,f,g]
theorem cj.inj{h:Heap}{a:Addr}{x y:List K×List K}(q:cj knd h x a)(p:cj knd h y a):x=y:=by let#[o,items,n,b,C,r,_,u,t,B,A]:=q;let#[l,G,E,b',j,m,_,g,f,k,i]:=p;obtain rfl:o=l:=E1 (r.symm.trans m);rw[u] at g;injection g with e _;subst e;rw[t] at f;cases f;exact AZ (B.inj k) (A.inj i)
theorem cj.keeps{A ep}(x:cj knd h q a)(k:h.get? d=some o)(l:o.data=.dict A ep)(j:U9 d h h'):cj knd h' q a:=by
 let#[g,items,n,b,m,i,r,f,p,u,t]:=x;have y:a≠d:=by rintro rfl;obtain rfl:g=o:=E1 (i.symm.trans k);rw[l] at f;exact nomatch f
 exact#[g,items,n,b,m,(j.2 a y).trans i,r,f,p,u.keeps k l j,t]
variable{A:Around}{E:Value->Shared->Prop}{s:Shared}
def ue4(y:A.units+1<cLine)(B:cj knd s.heap q a)(h:Q (Vn knd q) { s with toks:=s.toks+(q.1.length+1+q.2.length+1)}): wpAny (model prog w) A (pyHash (.ref a)) Q E s:=by
 have l:=B.typeIs;let#[m,p]:=q;let#[o,items,n,b,C,G,_,I,g,H,hi]:=B;unfold pyHash;first|unfold pyHashByItsType|skip
 first|apply B5 (wpAny_cRoomFor_or (.inr (B93 y)) ?_)|skip
 apply B5 (MN l F.slot_tuple_hash.lookup ?_);show wpAny _ _ (if(some (ZX "tuple.__hash__")==some X7)=true then _ else _) Q E s;rw[if_neg (by rw[beq_builtin_none];exact C9)];apply B5 (MN l F.slot_tuple_hash.lookup ?_);show wpAny _ _ (callSpecialIfBoundUnlessNone? (.ref a) "__hash__" _ >>= _) Q E s;apply B5 (wpAny_callSpecialIfBoundUnlessNone?_slot l F.slot_tuple_hash (P3 F.slot_tuple_hash l F.entry_tuple_hash ?_ (F.args_tuple_hash_1 _)));show wpAny _ _ (A85 (.ref a) >>= _) _ _ s;apply B5 (A97 G I ?_);apply B5 ?_;rw[<- Z0];apply QB _
  (λrest (r:Array Int) i=>(rest=F0 b::C/\r.toList=[]/\i=s)\/∃done left,p=done++left/\ItemsAre knd left rest/\r.toList=tupleKeyHash knd m::done.map knd.hash/\i={ s with toks:=s.toks+(m.length+1)+done.length})
  _ ?_ ?_ _ _ (.inl ⟨g,rfl,rfl⟩)
 .rintro x rest r i (⟨e,f,rfl⟩|⟨done,left,rfl,g,j,rfl⟩)
  .cases e;apply B5 (wpAny_pyHash_tuple (knd:=knd) y H ?_);first
    | exact C4 (.inr ⟨[],p,rfl,hi,by simp[f],rfl⟩)
    | exact B5 (C4 (C4 (.inr ⟨[],p,rfl,hi,by simp[f],rfl⟩)))
  .cases g with
   | @cons k _ t _ L u =>
    apply B5 (knd.pyHash L ?_);first
     | exact C4 (.inr ⟨done++[k],t,by simp,u,by simp[j],by simp[K8]⟩)
     | exact B5 (C4 (C4 (.inr ⟨done++[k],t,by simp,u,by simp[j],by simp[K8]⟩)))
 .rintro r i (⟨e,_,_⟩|⟨done,left,rfl,g,j,rfl⟩)
  .cases e
  .cases g;rw[D9] at h;show wpAny _ _ (retInt (A17 r.toList)) _ _ _;rw[j];apply wpAny_ret_mkInt ?_;generalize J:A17 (tupleKeyHash knd m::done.map knd.hash)=N;show wpAny _ _ (if(decide (-(2:Int)^63<=N)&&decide (N<2^63))=true then _ else _) Q E _;unfold Vn reduceHash at h;rw[J] at h;by_cases f:(decide (-(2:Int)^63<=N)&&decide (N<2^63))=true
   .rw[if_pos f];rw[if_pos f] at h;exact C4 (by simpa[K8] using h)
   .rw[if_neg f];rw[if_neg f] at h;exact B5 (Du (C4 (by simpa[K8] using h)))
def uu1{P:D29->Shared->Prop}(hu:A.units<cLine)(hx:cj knd s.heap x a)(hy:cj knd s.heap y b)(h:P (.done (.ret (.bool (decide (x=y))))) s): wpAny (model prog w) A (Builtin.«tuple.__eq__» #[[.ref a,.ref b],[]]) P E s:=by
 have hTb:=hy.typeIs;let#[m,k]:=x;let#[C,j]:=y;let#[oa,xs,na,ba,t,X,_,hda,H,Z,hia]:=hx;let#[ob,i,nb,bb,q,U,_,iK,G,Y,hib]:=hy;show wpAny _ _ (ZA (.ref b) (.type "tuple") >>= _) _ _ s;apply B5 (MP hTb A55 ?_);simp only[V1,L7,if_false];apply B5 (A97 X hda ?_);apply B5 (A97 U iK ?_);apply B5 ?_;have Xw:PX xs.toList i.toList=(F0 ba,F0 bb)::PX t q:=by rw[H,G];rfl
 have R:(xs.size==i.size)=(t.length==q.length):=by
  have e1:xs.size=t.length+1:=by rw[<- K7,H];rfl
  have e2:i.size=q.length+1:=by rw[<- K7,G];rfl
  rw[e1,e2];simp
 apply QB _
  (λrest r N=>r.1=none/\N=s/\(rest=(F0 ba,F0 bb)::PX t q\/∃M L B n,rest=PX B n/\ItemsAre knd M B/\ItemsAre knd L n/\decide (M=L)=decide ((m,k)=(C,j))/\(B.length==n.length)=(xs.size==i.size)))
  _ ?_ ?_ _ _ #[rfl,rfl,.inl Xw]
 .rintro⟨u,v⟩ rest r N ⟨S,rfl,e|⟨M,L,B,n,l,Q,O,J,f⟩⟩
  .cases e;apply B5 (wpAny_eqBool_tuple (knd:=knd) hu Z Y ?_);by_cases g:m=C
   .subst g;rw[decide_eq_true rfl];simp only[V1,L7,if_false];apply C4 #[rfl,rfl,.inr #[k,j,t,q,rfl,hia,hib,?_,R.symm]];by_cases I:k=j
    .simp[I]
    .simp[I]
   .rw[decide_eq_false g];simp only[A86,if_true];have hf:decide ((m,k)=(C,j))=false:=by simp[g]
    rw[hf] at h;exact B5 (C4 (C4 (C4 h)))
  .cases Q with
   | nil=>simp at l| @cons k1 u' p Rm h1 Xy =>
    cases O with
    | nil=>simp at l| @cons k2 v' o Q_ h2 Xx =>
     simp only[Q1,V9,C61] at l;let#[#[rfl,rfl],rfl]:=l;apply B5 (knd.eqBool (a:=k1) (b:=k2) h1 h2 ?_);by_cases g:k1=k2
     .subst g;rw[decide_eq_true rfl];simp only[V1,L7,if_false];apply C4 #[rfl,rfl,.inr #[p,o,Rm,Q_,rfl,Xy,Xx,?_,by simpa using f]];rw[<- J];by_cases I:p=o
      .simp[I]
      .simp[I]
     .rw[decide_eq_false g];simp only[A86,if_true];have hf:decide ((m,k)=(C,j))=false:=by rw[<- J];simp[g]
      rw[hf] at h;exact B5 (C4 (C4 (C4 h)))
 .rintro⟨r1,r2⟩ N ⟨S,rfl,e|⟨M,L,B,n,l,Q,O,J,f⟩⟩
  .cases e
  .simp only at S;subst S;apply C4 ?_;have sR:(xs.size==i.size)=decide ((m,k)=(C,j)):=by
    rw[<- J,<- f];cases Q with
    | nil =>
     cases O with
     | nil=>simp| cons _ _=>simp
    | cons _ _ =>
     cases O with
     | nil=>simp| cons _ _=>simp at l
   show P (.done (.ret (.bool (xs.size==i.size)))) N;rw[sR];exact h
def ue5(j:A.units+1<cLine)(f:cj knd s.heap x a)(i:cj knd s.heap y b)(h:Q (decide (x=y)) s): wpAny (model prog w) A (eqBool (.ref a) (.ref b)) Q E s:=by
 unfold eqBool;try with_reducible apply N5 ?_
 show wpAny _ _ (if(F0 a==F0 b)=true then _ else _) Q E s;by_cases g:(F0 a==F0 b)=true
 .rw[if_pos g];have e:a=b:=by have:=eq_of_beq g;injection this
  subst e;obtain rfl:=f.inj i;exact B5 (Du (C4 (by simpa using h)))
 .rw[if_neg g];exact B5 (wpAny_richCompare_same_room (op:=.Eq) f.typeIs i.typeIs F.slot_tuple_eq
   (P3 F.slot_tuple_eq f.typeIs F.entry_tuple_eq (uu1 j f i #[_,rfl,(λe=>nomatch e),R0 h]) (F.args_tuple_eq_2 _ _)) (B93 j))
def ue3(j:IsTupleKey knd s.heap ks a)(h:Q true s):wpAny (model prog w) A (PZ (n+1) (.ref a)) Q E s:=by
 have k:=j.typeIs;let#[o,items,n,l,_,m,hi]:=j;unfold PZ;apply B5 (MN k F.slot_tuple_eq.lookup ?_);show wpAny _ _ (ZA (.ref a) (.type "tuple") >>= _) _ _ s;apply B5 (MP k A55 ?_);simp only[V1,L7,if_false];apply B5 (N3 l m ?_);apply B5 ?_;show wpAny _ _ (forIn items _ _) _ _ s;rw[<- Z0];apply QB _ (λrest r f=>r.1=none/\f=s/\∀v∈rest,carriedByValue v=true) _ ?_ ?_ _ _ #[rfl,rfl,hi.byValue]
 .rintro v rest r f ⟨g,rfl,i⟩;rw[eqIsQuiet_byValue _ (i v C6)];apply B5 (C4 ?_);simp only[V1,L7,if_false];exact C4 #[rfl,rfl,λu p=>i u (C2 _ p)]
 .rintro⟨t,q⟩ f ⟨g,rfl,_⟩;simp only at g;subst g;exact C4 h
def ug4(i:cj knd s.heap q a)(h:Q true s):wpAny (model prog w) A (PZ 8 (.ref a)) Q E s:=by
 have j:=i.typeIs;let#[o,items,n,b,k,l,_,t,p,m,hi]:=i;unfold PZ;apply B5 (MN j F.slot_tuple_eq.lookup ?_);show wpAny _ _ (ZA (.ref a) (.type "tuple") >>= _) _ _ s;apply B5 (MP j A55 ?_);simp only[V1,L7,if_false];apply B5 (N3 l t ?_);apply B5 ?_;show wpAny _ _ (forIn items _ _) _ _ s;rw[<- Z0];apply QB _ (λrest r f=>r.1=none/\f=s/\(rest=F0 b::k\/∀v∈rest,carriedByValue v=true)) _ ?_ ?_ _ _ #[rfl,rfl,.inl p]
 .rintro v rest r f ⟨g,rfl,e|qB⟩
  .cases e;apply B5 (ue3 (knd:=knd) m ?_);simp only[V1,L7,if_false];exact C4 #[rfl,rfl,.inr hi.byValue]
  .rw[eqIsQuiet_byValue _ (qB v C6)];apply B5 (C4 ?_);simp only[V1,L7,if_false];exact C4 #[rfl,rfl,.inr λu x=>qB u (C2 _ x)]
 .rintro⟨B,y⟩ f ⟨g,rfl,_⟩;simp only at g;subst g;exact C4 h
end
def Bx{prog:Program}{w:World}{K:Type}[DecidableEq K](knd:KeyKind prog w K):HeapKind prog w (List K×List K) where
 is:=cj knd
 hash:=Vn knd
 draws:=λq=>q.1.length+1+q.2.length+1
 room:=λA=>A.units+1<cLine
 inj:=λi g=>i.inj g
 keeps:=λx n o m=>x.keeps n o m
 pyHash:=λj k h=>ue4 j k h
 eqBool:=λj i g h=>ue5 j i g h
 quiet:=λk h=>ug4 k h
inductive HO where
 | lst (xs:List V)
 | tup (xs:List V)
 | dK (kvs:List (Key×V))|dT (kvs:List (List Key×V))
 | dN (K:W.Frag) (kvs:List ((List Key×List Key)×V))
 | set (S:Int->Bool) (n:Nat)
 | ins (C i:Addr) (g:List (Str×V))
 | own (x:Addr)
 | xd (g:List (Str×V))
 | met (f x:Addr)
 | Em (lo hi:Int)
 | dG (o:Obj) (u:HO)
 | zJ (ps:Array Value)
 | ext (h:Heap->Prop)
abbrev Hp:=Addr->Option HO
def upd(H:Hp)(a:Addr)(o:HO):Hp:=λb=>if b=a then some o else H b
def iq:upd H a o a=some o:=by unfold upd;rw[if_pos rfl]
def c_(h:b≠a):upd H a o b=H b:=by unfold upd;rw[if_neg h]
def RH{H:Hp}{a b:Addr}{o u:HO}(h:H a=some o)(h':H b=some u)(d:o≠u):a≠b:=by intro e;subst e;rw[h] at h';exact d (E1 h')
def yh{H:Hp}{a b:Addr}{o:HO}(h:H a=some o)(h':H b=none):a≠b:=by intro e;subst e;rw[h] at h';cases h'
def xC(K:W.Frag)(H:Hp)(a:Addr)(xs:List V):Prop:=H a=some (.tup xs)\/(∃o,H a=some (.dG o (.tup xs))) \/
 ∃(o:Obj) (its:Array Value) (n:Nat),K.lookup a=some o/\o.cls=.type "tuple" /\ o.data=.seq its n/\its.size<=sizeLine/\Vals xs its.toList/\o.dict=none
def Ai(K:W.Frag)(H:Hp)(a:Addr)(q:List Key×List Key):Prop:=∃b,xC K H a (.ref b::q.2.map kV)/\xC K H b (q.1.map kV)
def xC.gq{K:W.Frag}{H f:Hp}{a:Addr}{xs:List V}(x:xC K H a xs)(g:∀b xs,H b=some (.tup xs)->f b=some (.tup xs))(h:∀b o xs,H b=some (.dG o (.tup xs))->f b=some (.dG o (.tup xs))):xC K f a xs:=by
 rcases x with x|⟨o,x⟩|x
 .exact .inl (g _ _ x)
 .exact .inr (.inl ⟨o,h _ _ _ x⟩)
 .exact .inr (.inr x)
section
variable(P:Program)(w:World)
def oP(h:Heap)(a:Addr)(its:Array Value):Prop:=∃o,h.get? a=some o/\o.cls=.type "tuple" /\ (∃n,o.data=.seq its n)/\o.dict=none
def oP.tup{h:Heap}{a:Addr}{its:Array Value}(x:oP h a its):IsTup h a its:=let ⟨o,e,c,d,_⟩:=x;#[o,e,c,d]
def oP.new(h:Heap)(its:Array Value):oP (h.push { cls:=.type "tuple",data:=.seq its}) h.objs.size its:=#[_,E4 _ rfl,rfl,#[_,rfl],rfl]
def bu(H:Hp)(h:Heap)(a:Addr):HO->Prop
 | .lst xs=>xs.length<=sizeLine/\∃(its:List Value) (n:Nat),Vals xs its/\h.get? a=some { cls:=.type "list",data:=.seq its.toArray n}| .tup xs=>xs.length<=sizeLine/\∃its:List Value,Vals xs its/\oP h a its.toArray| .dK kvs=>kvs.length<=sizeLine/\(a==R4)=false/\∃y,KV kvs y/\h.DictOf (eD P w) a y| .dT kvs=>kvs.length<=sizeLine/\(a==R4)=false/\∃xs:List (List Key×Addr×Value),
   Paired (λ(p:List Key×V) (q:List Key×Addr×Value)=>p.1=q.1/\H q.2.1=some (.tup (p.1.map kV))/\RelV p.2 q.2.2) kvs xs /\
   ∃o j r,h.get? a=some o/\o.ExactDict/\o.data=.dict j r/\j.toList=xs.map (entryOfKey (EZ (eD P w)))/\(xs.map (·.1)).Nodup
 | .dN K kvs=>kvs.length<=sizeLine/\(a==R4)=false/\∃xs:List ((List Key×List Key)×Addr×Value),
   Paired (λ(p:(List Key×List Key)×V) (q:(List Key×List Key)×Addr×Value)=>p.1=q.1/\Ai K H q.2.1 p.1/\RelV p.2 q.2.2) kvs xs /\
   ∃o j r,h.get? a=some o/\o.ExactDict/\o.data=.dict j r/\j.toList=xs.map (entryOfKey (Bx (eD P w)))/\(xs.map (·.1)).Nodup
 | .set S n=>h.SetOf (intKind P w) a S n| .ins C l i=>H l=some (.own a)/\i.length<=1000/\l≠a/\h.get? a=some (W.instObj C l) /\
   ∃g,h.Ns1 l g/\(∀f,dQ (i.lookup f) (g f))/\ZS g (i.map (·.1))
 | .own _=>∃o,h.get? a=some o| .xd i=>∃g,h.Ns1 a g/\∀f,dQ (i.lookup f) (g f)| .Em lo hi=>∃t u v,h.get? a=some { cls:=.type "range",data:=.fields [.int lo t,.int hi u,.int 1 v].toArray}| .dG o u=>h.get? a=some o/\bu H h a u| .zJ E=>h.get? a=some { cls:=.none,data:=.fields E}| .met f x=>h.get? a=some (W.methodObj (.ref f) (.ref x))| .ext m=>m h/\(∃o,h.get? a=some o)/\∀B A:Heap,m B->(∀o,B.get? a=some o->A.get? a=some o)->m A
def gB(H:Hp)(h:Heap):Prop:=∀a o,H a=some o->bu P w H h a o
end
section
variable{P:Program}{w:World}{H H':Hp}{h h':Heap}{a:Addr}{o:HO}
theorem bu.lt(x:bu P w H h a o):a<h.objs.size:=by
 cases o with
 | lst xs=>let#[_,_,_,_,e]:=x;exact D8 e| tup xs=>let#[_,_,_,p]:=x;exact p.tup.lt| dK kvs=>let#[_,_,_,_,o,_,_,e,_]:=x;exact D8 e| dT kvs=>let#[_,_,_,_,o,_,_,e,_]:=x;exact D8 e| dN K kvs=>let#[_,_,_,_,o,_,_,e,_]:=x;exact D8 e| set S n=>let#[o,_,_,_,e,_]:=x;exact D8 e| ins C k fs=>let#[_,_,_,e,_]:=x;exact D8 e| own y=>let#[_,e]:=x;exact D8 e| xd fs=>let#[_,#[_,_,_,e,_],_]:=x;exact D8 e| Em lo hi=>let#[_,_,_,e]:=x;exact D8 e| dG j u=>let#[e,_]:=x;exact D8 e| zJ i=>exact D8 (show h.get? a=some _ from x)| met f y=>exact D8 (show h.get? a=some _ from x)| ext g=>let#[_,#[_,e],_]:=x;exact D8 e
theorem Paired.uz{j i:Type}{F G:j->i->Prop}:∀{l₁:List j} {g:List i},Paired F l₁ g->(∀a b,F a b->G a b)->Paired G l₁ g
 | _,_,.nil,_=>.nil| _,_,.cons r t,f=>.cons (f _ _ r) (Paired.uz t f)
theorem bu.gq(x:bu P w H h a o)(k:∀b u,(b=a\/H b=some (.own a))->h.get? b=some u->h'.get? b=some u) (J:∀b,H b=some (.own a)->H' b=some (.own a)) (m:∀b xs,H b=some (.tup xs)->H' b=some (.tup xs)) (E:∀b o xs,H b=some (.dG o (.tup xs))->H' b=some (.dG o (.tup xs)):=by first|exact λ_ _ _ q=>q|exact λ_ _ _ q=>by rw[c_ (yh q (by assumption))];exact q):bu P w H' h' a o:=by
 induction o with
 | lst xs=>let#[z,its,n,r,e]:=x;exact#[z,its,n,r,k _ _ (.inl rfl) e]| tup xs=>let#[z,its,r,g,e,c]:=x;exact#[z,its,r,g,k _ _ (.inl rfl) e,c]| dK kvs=>let#[z,y,G,r,g,i,j,e,c]:=x;exact#[z,y,G,r,g,i,j,k _ _ (.inl rfl) e,c]| dT kvs =>let#[z,y,xs,r,g,i,j,e,c]:=x;exact#[z,y,xs,Paired.uz r λp q z=>#[z.1,m _ _ z.2.1,z.2.2],g,i,j,k _ _ (.inl rfl) e,c]| dN K kvs =>let#[z,y,xs,r,g,i,j,e,c]:=x;exact#[z,y,xs,Paired.uz r λp q z=>#[z.1,let ⟨b,M,L⟩:=z.2.1;#[b,M.gq m E,L.gq m E],z.2.2],g,i,j,k _ _ (.inl rfl) e,c]| set S n=>let#[g,i,j,t,e,c]:=x;exact#[g,i,j,t,k _ _ (.inl rfl) e,c]| ins C Q fs =>let#[d,z,ne,e,l,#[od,i,j,N,c],r]:=x;exact#[J _ d,z,ne,k _ _ (.inl rfl) e,l,#[od,i,j,k _ _ (.inr d) N,c],r]| own y=>let#[g,e]:=x;exact#[g,k _ _ (.inl rfl) e]| xd fs=>let#[l,#[od,i,j,e,c],r]:=x;exact#[l,#[od,i,j,k _ _ (.inl rfl) e,c],r]| Em lo hi=>let#[t,u,v,e]:=x;exact#[t,u,v,k _ _ (.inl rfl) e]| dG g u I=>let#[e,q]:=x;exact#[k _ _ (.inl rfl) e,I q]| zJ B =>have e:h.get? a=some { cls:=.none,data:=.fields B}:=x;show h'.get? a=some { cls:=.none,data:=.fields B};exact k a _ (.inl rfl) e| met f y =>have e:h.get? a=some (W.methodObj (.ref f) (.ref y)):=x;show h'.get? a=some (W.methodObj (.ref f) (.ref y));exact k a _ (.inl rfl) e| ext O=>let#[p,#[o,e],st]:=x;exact#[st _ _ p λo q=>k _ _ (.inl rfl) q,#[o,k _ _ (.inl rfl) e],st]
theorem gB.lt(x:gB P w H h)(e:H a=some o):a<h.objs.size:=(x a o e).lt
def gB.fresh(x:gB P w H h)(e:h.objs.size<=a):H a=none:=by
 cases q:H a with
 | none=>rfl| some u=>exact absurd (C5 (x.lt q) e) (Fj _)
def gB.kept(x:gB P w H h)(k:∀b u,h.get? b=some u->h'.get? b=some u):gB P w H h':=λa o e =>
 (x a o e).gq (λb u _ q=>k b u q) (λ_ q=>q) λ_ _ q=>q
def gB.laid(x:gB P w H h)(k:∀b u,h.get? b=some u->h'.get? b=some u)(i:h.objs.size<=a)(new:bu P w (upd H a o) h' a o):gB P w (upd H a o) h':=λb u e=>by
 have f:=x.fresh i;by_cases g:b=a
 .subst g;rw[iq] at e;cases e;exact new
 .rw[c_ g] at e;exact(x b u e).gq (λc v _ q=>k c v q) (λc q=>by rw[c_ (yh q f)];exact q) λc xs q=>by rw[c_ (yh q f)];exact q
end
def Rd(H:Hp)(a:Addr)(u:HO):Prop:=H a=some u\/∃o,H a=some (.dG o u)
def Rd.of{H:Hp}{a:Addr}{u:HO}(h:H a=some u):Rd H a u:=.inl h
def Rd.ok{P:Program}{w:World}(r:Rd H a u)(x:gB P w H h):bu P w H h a u:=by
 rcases r with r|⟨o,r⟩
 .exact x a u r
 .let#[_,q]:=x a _ r;exact q
def KC:Option HO->Prop
 | some (.lst _)=>True| some (.dK _)=>True| some (.dT _)=>True| some (.dN _ _)=>True| some (.set _ _)=>True| some (.ins _ _ _)=>True| some (.ext _)=>True| _=>False
section
variable{P:Program}{w:World}{H:Hp}{h h':Heap}{x e:Addr}{o':HO}
def gB.write(ok:gB P w H h)(f:KC (H x))(l:e=x\/H e=some (.own x))(k:∀b u,b≠e->h.get? b=some u->h'.get? b=some u)(t:∃u,h'.get? e=some u) (new:bu P w (upd H x o') h' x o'):gB P w (upd H x o') h':=λb u q=>by
 have m:∀c y,H c=some (.own y)->c≠x:=λc y r z=>by subst z;rw[r] at f;exact f
 have p:∀c xs,H c=some (.tup xs)->c≠x:=λc xs r z=>by subst z;rw[r] at f;exact f
 by_cases g:b=x
 .subst g;rw[iq] at q;cases q;exact new
 .rw[c_ g] at q;by_cases i:b=e
  .have j:H b=some (.own x):=by
    rcases l with z|z
    .exact absurd (i.trans z) g
    .rw[i];exact z
   rw[q] at j;cases j;let#[v,n]:=t;exact#[v,by rw[i];exact n]
  .apply(ok b u q).gq (λc v hc r=>k c v ?_ r) (λc r=>by rw[c_ (m c b r)];exact r) (λc xs r=>by rw[c_ (p c xs r)];exact r) λc o xs r=>by rw[c_ (λz=>by rw[z] at r;rw[r] at f;exact f)];exact r
   rcases hc with rfl|hc
   .exact i
   .rintro rfl;rcases l with z|z
    .exact m c b hc z
    .rw[hc] at z;cases z;exact g rfl
end
def NK:={ u:HO // ∀f,u≠.dK f}
structure Un(fs ex:List Addr)(H H':Hp)(h h':Heap):Prop where
 keep:∀b o,h.get? b=some o->H b=none->b∉fs->b∉ex->h'.get? b=some o
 slot:∀b o,h.get? b=some o->H b=none->b∈fs->b∉ex->∃sl,h'.get? b=some { o with slots:=sl}
 free:∀b o,h.get? b=some o->H b=none->b∉ex->H' b=none
 there:∀b o,h.get? b=some o->b∉ex->∃o',h'.get? b=some o'
 fO:∀b xs,H b=some (.tup xs)->H' b=some (.tup xs)
 dY:∀b o (u:NK),H b=some (.dG o u.1)->H' b=some (.dG o u.1)
 iW:∀b ps,H b=some (.zJ ps)->∃more,H' b=some (.zJ (ps++more))
section
variable{fs ft ex ex':List Addr}{H H1 H2:Hp}{h h1 h2 h':Heap}{a x e:Addr}{o:HO}
def Un.any(u:Un fs ex H H1 h h1){b:Addr}{ob:Obj}(q:h.get? b=some ob)(n:H b=none)(f:b∉ex):∃i,h1.get? b=some { ob with slots:=i}:=by
 by_cases g:b∈fs
 .exact u.slot b ob q n g f
 .exact⟨ob.slots,u.keep b ob q n g f⟩
def Un.trans(a:Un fs ex H H1 h h1)(b:Un fs ex H1 H2 h1 h2):Un fs ex H H2 h h2 where
 keep:=λc f q n j g=>b.keep c f (a.keep c f q n j g) (a.free c f q n g) j g
 slot:=λc f q n j g=>by let#[u,i]:=a.slot c f q n j g;let#[p,l]:=b.slot c _ i (a.free c f q n g) j g;exact#[p,l]
 free:=λc f q n g=>by let#[k,i]:=a.there c f q g;exact b.free c k i (a.free c f q n g) g
 there:=λc f q g=>by let#[k,i]:=a.there c f q g;exact b.there c k i g
 fO:=λc xs q=>b.fO c xs (a.fO c xs q)
 dY:=λc f xs q=>b.dY c f xs (a.dY c f xs q)
 iW:=λc m q=>by let#[t,i]:=a.iW c m q;let#[r,l]:=b.iW c _ i;exact#[t++r,by rw[l,B80]]
def Un.kept(k:∀b u,h.get? b=some u->h'.get? b=some u):Un fs ex H H h h':=#[λb f q _ _ _=>k b f q,λb f q _ _ _=>#[f.slots,k b f q],λ_ _ _ n _=>n,λb f q _=>#[f,k b f q],λ_ _ q=>q,λ_ _ _ q=>q,λ_ g q=>#[[].toArray,by rw[q];simp]]
def Un.refl:Un fs ex H H h h:=Un.kept λ_ _ q=>q
def Un.laid(k:∀b u,h.get? b=some u->h'.get? b=some u)(g:h.objs.size<=a)(f:H a=none):Un fs ex H (upd H a o) h h' where
 keep:=λb u q _ _ _=>k b u q
 slot:=λb u q _ _ _=>#[u.slots,k b u q]
 free:=λb u q n _=>by rw[c_ (J7 (C5 (D8 q) g))];exact n
 there:=λb u q _=>#[u,k b u q]
 fO:=λb xs q=>by rw[c_ (yh q f)];exact q
 dY:=λb u xs q=>by rw[c_ (yh q f)];exact q
 iW:=λb i q=>#[[].toArray,by rw[c_ (yh q f),q];simp]
def Un.write(f:KC (H x))(p:e=x\/H e=some (.own x))(k:∀b u,b≠e->h.get? b=some u->h'.get? b=some u)(t:∃u,h'.get? e=some u):Un fs ex H (upd H x o) h h':=by
 have i:∀b,H b=none->b≠x:=λb n z=>by subst z;rw[n] at f;exact f
 have j:∀b,H b=none->b≠e:=λb n z=>by
  subst z;rcases p with r|r
  .exact i b n r
  .rw[n] at r;cases r
 have g:∀b u,H b=some u->¬ KC (some u)->b≠x:=λb u q m z=>by subst z;rw[q] at f;exact m f
 apply#[λb u q n _ _=>k b u (j b n) q,λb u q n _ _=>#[u.slots,k b u (j b n) q],λb u q n _=>by rw[c_ (i b n)];exact n,λb u q _=>?_,
  λb xs q=>by rw[c_ (g b _ q λz=>z)];exact q,λb u xs q=>by rw[c_ (g b _ q λz=>z)];exact q,λb y q=>#[[].toArray,by rw[c_ (g b _ q λz=>z),q];simp]]
 by_cases l:b=e
 .subst l;exact t
 .exact#[u,k b u l q]
def Un.mono(u:Un fs ex H H1 h h1)(j:∀b∈fs,b∈ft)(i:∀b∈ex,b∈ex'):Un ft ex' H H1 h h1:=#[λb g q n k f=>u.keep b g q n (λz=>k (j b z)) λz=>f (i b z),λ_ _ q n _ f=>u.any q n λz=>f (i _ z),λb g q n f=>u.free b g q n λz=>f (i b z),λb g q f=>u.there b g q λz=>f (i b z),u.fO,u.dY,u.iW]
end
def Ow(h:Heap)(H:Hp):List Addr:=(E6 h.objs.size).filter λa=>(H a).isSome
def ma(h:Heap)(H:Hp):Heap:=W.hideAll h (Ow h H)
def vi6(h:Heap)(H:Hp):(ma h H).objs.size=h.objs.size:=W.hideAll_size _ _
def vu6{h:Heap}(e:h.get? b=some o)(n:H b=none):(ma h H).get? b=some o:=W.hideAll_get _ e λf=>by have q:(H b).isSome=true:=(Z5.mp f).2;rw[n] at q;simp at q
def wj4(e:(ma h H).get? b=some o):h.get? b=some o/\H b=none:=by
 have f:h.get? b=some o:=W.of_hideAll (Ow h H) e;apply#[f,?_];cases q:H b with
 | none=>rfl| some x =>have g:b∈Ow h H:=Z5.mpr #[L0.mpr (D8 f),by simp[q]];have z:(ma h H).get? b=none:=W.hideAll_none (Ow h H) g;rw[z] at e;cases e
def wq4(g h:Heap)(L:Addr):List (Addr×Obj):=(E6 h.objs.size).filterMap λa=>if a=L\/(g.get? a).isSome=true then none else(h.get? a).map λo=>(a,o)
def rest(g h:Heap)(L d:Addr):List (Addr×Obj):=(wq4 g h L).filter λp=>decide (p.1≠d)
structure Mod(K:W.Frag)(mg:Str->Option Value)(base:Heap):Prop where
 Ji:K.In base
 glob:base.Ns J8 mg
 blt:∃mb,base.Ns Qc mb/\∀x:Str,x ≠ "__name__" -> mb x=R5 x
 nolimit:base.NoLimit
structure Cx where
 prog:Program
 w:World
 K:W.Frag
 mg:Str->Option Value
 base:Heap
 A:Around
 N:List Str
 s₀:Shared
 H₀:Hp
 env:Env
 outer:List Env
 stack:List Env
 ex:List Addr
 fn:Str->Bool
 calm:Bool
 pn:List (Addr×Obj)
 xe:Value->Shared->Prop
def sU(l:List Env):List Addr:=l.filterMap (·.frame)
abbrev Cx.fs(X:Cx):List Addr:=sU X.outer
def Kw(f:Scope)(x:Str):Prop:=f.names.lookup x=some .local\/f.names.lookup x=some .cell\/f.names.lookup x=some .free
def Loc(f:Scope)(x:Str):Prop:=f.names.lookup x=some .local\/f.names.lookup x=some .cell
def Look(env:Env)(h:Heap)(m:Str->Option Value)(x:Str)(u:Value):Prop:=(env.kindOf x=some .local/\m x=some u)\/((env.kindOf x=some .cell\/env.kindOf x=some .free)/\∃c,env.cells.lookup x=some c/\h.IsCell c (some u))
structure Cx.Ok(X:Cx):Prop where
 mod:Mod X.K X.mg X.base
 kind:X.env.scope.kind=.function
 glob:X.env.globals=J8
 blt:X.env.builtins=Qc
 above:X.s₀.heap.objs.size<=X.env.locals
 inj:∀x y c,X.env.cells.lookup x=some c->X.env.cells.lookup y=some c->x=y
 has:∀x,(X.env.kindOf x=some .cell\/X.env.kindOf x=some .free)->∃c,X.env.cells.lookup x=some c
 Kr:∀x c,X.fn x=true->X.env.cells.lookup x=some c->X.s₀.heap.objs.size<=c
 hd:X.calm=true->X.A.handled=none
 frames:X.A.frames=some X.stack
 Ei:X.stack=X.outer\/(X.stack=X.env::X.outer/\X.env.frame=some X.env.locals)
 YM:∀b∈X.ex,b≠X.env.locals/\∀x c,X.env.cells.lookup x=some c->c≠b
 bs:∀b o,X.base.get? b=some o->X.s₀.heap.get? b=some o/\X.H₀ b=none
 uX:X.base.objs.size<=X.s₀.heap.objs.size
 uu:∀b o,X.base.get? b=some o->b∉X.ex
 uS:∀b∈X.ex,b∉X.fs
 iL:X.s₀.heap.FunFrames X.base X.outer
 Aa:∀b∈X.fs,X.H₀ b=none
structure Inv(X:Cx)(pins:List (Addr×Obj))(σ:List (Option V))(H:Hp)(s:Shared):Prop where
 ok:X.Ok
 os:s.os=X.s₀.os
 bare:zp s.gens
 base:Un X.fs X.ex X.H₀ H X.s₀.heap s.heap
 loc:∃m,s.heap.Ns X.env.locals m/\∀(i:Nat) (x:Str) (v:V),X.N[i]?=some x->σ[i]?=some (some v)->Kw X.env.scope x->∃u,RelV v u/\Look X.env s.heap m x u
 cell:∀x c,X.env.cells.lookup x=some c->∃v,s.heap.IsCell c v
 free:H X.env.locals=none
 fY:∀x c,X.env.cells.lookup x=some c->H c=none
 pin:∀p∈X.pn++pins,s.heap.get? p.1=some p.2/\H p.1=none/\p.1≠X.env.locals/\p.1∉X.fs/\∀v,p.2.data≠.cell v
 aE:gB X.prog X.w H s.heap
 len:σ.length=X.N.length
section
variable{X:Cx}{pins:List (Addr×Obj)}{σ:List (Option V)}{H H':Hp}{s:Shared}{h':Heap}
def Cx.Ok.WV(ok:X.Ok)(e:X.base.get? b=some o):b∉X.fs:=λf=>by have:=(ok.iL.mem f).1;rw[e] at this;cases this
theorem Inv.bs(I:Inv X pins σ H s):∀b o,X.base.get? b=some o->s.heap.get? b=some o/\H b=none:=λb o e =>
 #[I.base.keep b o (I.ok.bs b o e).1 (I.ok.bs b o e).2 (I.ok.WV e) (I.ok.uu b o e),I.base.free b o (I.ok.bs b o e).1 (I.ok.bs b o e).2 (I.ok.uu b o e)]
def Inv.bk(I:Inv X pins σ H s):∀b o,X.base.get? b=some o->s.heap.get? b=some o:=λb o e=>(I.bs b o e).1
theorem Inv.mod(I:Inv X pins σ H s):Mod X.K X.mg X.base:=I.ok.mod
def Inv.i5(I:Inv X pins σ H s):X.K.In s.heap:=I.ok.mod.Ji.keeps I.bk
theorem Inv.nolimit(I:Inv X pins σ H s):s.heap.NoLimit:=I.ok.mod.nolimit.keeps I.bk
def Inv.fr(I:Inv X pins σ H s):∃m,Fr X.base X.env.locals s.heap m:=
 let ⟨m,f,_⟩:=I.loc
 #[m,f,I.bk,D5 I.ok.uX I.ok.above]
theorem Inv.lt(I:Inv X pins σ H s):X.env.locals<s.heap.objs.size:=let ⟨_,f,_⟩:=I.loc;f.lt
def Inv.sz(I:Inv X pins σ H s):X.s₀.heap.objs.size<=s.heap.objs.size:=D5 I.ok.above (P8 I.lt)
def Inv.WU(I:Inv X pins σ H s)(h:s.heap.objs.size<=a):a∉X.fs:=λg=>by let#[_,o,f,_]:=I.ok.iL.mem g;exact absurd (C5 (D8 f) (D5 I.sz h)) (Fj _)
def Inv.CY(I:Inv X pins σ H s):∀x c,X.env.cells.lookup x=some c->c≠X.env.locals:=λx c e z=>by let#[v,o,f,g]:=I.cell x c e;let#[m,#[j,k,l,i,h,_],_]:=I.loc;rw[z,i] at f;cases f;rw[h] at g;cases g
theorem Inv.iL(I:Inv X pins σ H s):s.heap.FunFrames X.base X.outer:=by
 have all:∀(l:List Env),(∀b∈sU l,b∈X.fs)->X.s₀.heap.FunFrames X.base l->s.heap.FunFrames X.base l:=by
  intro l;induction l with
  | nil=>intro _ _;trivial| cons env r j =>intro i p;let#[q,#[L,o,f,n,m,t],k]:=p;have h:L∈X.fs:=i L (by unfold sU;rw[QL,f];exact C6);let#[u,e]:=I.base.slot L o m (I.ok.Aa L h) h λz=>I.ok.uS L z h;exact#[q,#[L,_,f,n,e,t],j (λb g=>i b (by unfold sU;rw[QL,f];exact C2 _ g)) k]
 exact all X.outer (λ_ g=>g) I.ok.iL
theorem Inv.stack(I:Inv X pins σ H s):s.heap.FunFrames X.base X.stack:=by
 rcases I.ok.Ei with e|⟨e,g⟩
 .rw[e];exact I.iL
 .rw[e];let#[m,f,_]:=I.loc;apply .cons (by rw[I.ok.kind];decide) g f ?_ I.iL;exact Heap.get?_none_of_le (D5 I.ok.uX I.ok.above)
def Inv.pS(I:Inv X pins σ H s):∀b∈sU X.stack,b∈X.env.locals::X.fs:=λb f=>by
 rcases I.ok.Ei with e|⟨e,g⟩
 .rw[e] at f;exact C2 _ f
 .rw[e] at f;unfold sU at f;rw[QL,g] at f;exact f
def Inv.qV(I:Inv X pins σ H s):∀b∈sU X.stack,H b=none:=λb hb=>by
 rcases D7.mp (I.pS b hb) with e|hb
 .rw[e];exact I.free
 .let#[_,o,f,_]:=I.ok.iL.mem hb;exact I.base.free b o f (I.ok.Aa b hb) λz=>I.ok.uS b z hb
def Inv.step{g':Array GenState}{t':Nat}{d':Drawn}{ch:List Addr}(I:Inv X pins σ H s) (A:∀b∈ch,(b∈X.ex\/X.s₀.heap.objs.size<=b)/\b≠X.env.locals/\(∀x c,X.env.cells.lookup x=some c->c≠b)/\∀p∈X.pn++pins,p.1≠b) (keep:∀b o,b≠X.env.locals->b∉X.fs->b∉ch->s.heap.get? b=some o->H b=none->h'.get? b=some o) (slot:∀b o,b≠X.env.locals->b∈X.fs->b∉ch->s.heap.get? b=some o->H b=none->∃J,h'.get? b=some { o with slots:=J}) (free:∀b o,b∉ch->s.heap.get? b=some o->H b=none->H' b=none) (there:∀b o,b∉ch->s.heap.get? b=some o->∃B,h'.get? b=some B) (fO:∀b xs,H b=some (.tup xs)->H' b=some (.tup xs)) (dY:∀b o (u:NK),H b=some (.dG o u.1)->H' b=some (.dG o u.1)) (iW:∀b ps,H b=some (.zJ ps)->∃more,H' b=some (.zJ (ps++more))) (ns:∀m,s.heap.Ns X.env.locals m->h'.Ns X.env.locals m) (aE:gB X.prog X.w H' h') (Z:zp g'): Inv X pins σ H' { s with heap:=h',gens:=g',drawn:=d',toks:=t'}:=by
 have C:∀b o,X.s₀.heap.get? b=some o->b≠X.env.locals:=λb o e=>J7 (C5 (D8 e) I.ok.above);have G:∀b o,X.s₀.heap.get? b=some o->b∉X.ex->b∉ch:=λb o e f j=>by
  rcases(A b j).1 with z|z
  .exact f z
  .exact absurd (C5 (D8 e) z) (Fj _)
 have g:∀x c,X.env.cells.lookup x=some c->∀v,s.heap.IsCell c v->h'.IsCell c v:=λx c e v ⟨o,t,L⟩=>by
  have y:c∉ch:=λz=>(A c z).2.2.1 x c e rfl;by_cases O:c∈X.fs
  .let#[J,q]:=slot c o (I.CY x c e) O y t (I.fY x c e);exact#[_,q,L]
  .exact#[o,keep c o (I.CY x c e) O y t (I.fY x c e),L]
 apply#[I.ok,I.os,Z,#[λb o e n j f=>?_,λb o e n j f=>?_,λb o e n f=>?_,λb o e f=>?_,λb xs e=>fO b xs (I.base.fO b xs e),λb o xs e=>dY b o xs (I.base.dY b o xs e),λb ps e=>?_],?_,λx c e=>?_,?_,λx c e=>?_,λp N=>?_,aE,I.len]
 .exact keep b o (C b o e) j (G b o e f) (I.base.keep b o e n j f) (I.base.free b o e n f)
 .let#[J,h]:=I.base.slot b o e n j f;let#[Q,E]:=slot b _ (C b o e) j (G b o e f) h (I.base.free b o e n f);exact#[Q,E]
 .let#[B,h]:=I.base.there b o e f;exact free b B (G b o e f) h (I.base.free b o e n f)
 .let#[B,h]:=I.base.there b o e f;exact there b B (G b o e f) h
 .let#[S,h]:=I.base.iW b ps e;let#[R,E]:=iW b _ h;exact#[S++R,by rw[E,B80]]
 .let#[m,U,Y]:=I.loc;apply#[m,ns m U,λi x v h E e3=>?_];let#[u,r,l]:=Y i x v h E e3;apply#[u,r,?_];rcases l with l|⟨k,c,e,z⟩
  .exact .inl l
  .exact .inr ⟨k,c,e,g x c e _ z⟩
 .let#[v,z]:=I.cell x c e;exact#[v,g x c e v z]
 .let#[m,#[o,_,_,t,_],_]:=I.loc;exact free _ o (λz=>(A _ z).2.1 rfl) t I.free
 .let#[v,o,t,L]:=I.cell x c e;exact free c o (λz=>(A c z).2.2.1 x c e rfl) t (I.fY x c e)
 .let#[e,n,ne,M,d]:=I.pin p N;have y:p.1∉ch:=λz=>(A p.1 z).2.2.2 p N rfl;exact#[keep p.1 p.2 ne M y e n,free p.1 p.2 y e n,ne,M,d]
def Inv.un{t':Nat}(I:Inv X pins σ H s)(u:Un X.fs [] H H' s.heap h')(l:gB X.prog X.w H' h'):Inv X pins σ H' { s with heap:=h',toks:=t'}:=by let#[m,#[o,B,C,h,r],_]:=id I.loc;let#[t,k]:=u.any h I.free (by simp);exact I.step (g':=s.gens) (d':=s.drawn) (ch:=[]) (λ_ z=>nomatch z) (λb o _ f _ e n=>u.keep b o e n f (by simp)) (λb o _ f _ e n=>u.slot b o e n f (by simp)) (λb o _ e n=>u.free b o e n (by simp)) (λb o _ e=>u.there b o e (by simp)) u.fO u.dY u.iW (λy j=>by let#[x,q,p,g,i]:=j;rw[h] at g;cases g;exact#[_,q,p,k,i]) l I.bare
def Inv.call{g':Array GenState}{t':Nat}{d':Drawn}{ch:List Addr}(I:Inv X pins σ H s)(u:Un (sU X.stack) ch H H' s.heap h')(y:gB X.prog X.w H' h')(q:zp g') (h:∀b∈ch,(b∈X.ex\/X.s₀.heap.objs.size<=b)/\b≠X.env.locals/\(∀x c,X.env.cells.lookup x=some c->c≠b)/\∀p∈X.pn++pins,p.1≠b): Inv X pins σ H' { s with heap:=h',gens:=g',drawn:=d',toks:=t'}:=by
 let#[m,#[o,J,L,j,r],_]:=id I.loc;let#[C,g]:=u.any j I.free λz=>(h _ z).2.1 rfl;exact I.step (ch:=ch) h (λb o g t f e n=>u.keep b o e n (λz=>(D7.mp (I.pS b z)).elim g t) f) (λb o _ _ f e n=>u.any e n f) (λb o f e n=>u.free b o e n f) (λb o f e=>u.there b o e f) u.fO u.dY u.iW (λG l=>by let#[E,B,A,i,k]:=l;rw[j] at i;cases i;exact#[_,B,A,g,k]) y q
def Inv.turned{t':Nat}{it:Addr}(I:Inv X pins σ H s)(k:∀b o,b≠it->s.heap.get? b=some o->h'.get? b=some o)(j:H it=none)(g:it≠X.env.locals) (h1:it∈X.ex\/X.s₀.heap.objs.size<=it) (A:∀x c,X.env.cells.lookup x=some c->c≠it) (y:∀p∈X.pn++pins,p.1≠it):Inv X pins σ H { s with heap:=h',toks:=t'}:=by
 have h:∀b u,H b=some u->b≠it:=λb u e z=>by rw[z,j] at e;cases e
 apply I.step (g':=s.gens) (d':=s.drawn) (ch:=[it]) (λb t=>?_) (λb o _ _ f e _=>k b o (λz=>f (by simp[z])) e) (λb o _ _ f e _=>#[o.slots,k b o (λz=>f (by simp[z])) e]) (λ_ _ _ _ n=>n)
  (λb o f e=>#[o,k b o (λz=>f (by simp[z])) e]) (λ_ _ e=>e) (λ_ _ _ e=>e) (λb E e=>#[[].toArray,by rw[e];simp]) (λm l=>?_) (λb u e=>?_) I.bare
 .have e:b=it:=by simpa using t
  subst e;exact#[h1,g,A,y]
 .let#[o,B,C,i,r]:=l;exact#[o,B,C,k _ o (D3 g) i,r]
 .apply(I.aE b u e).gq (λc v f q=>k c v ?_ q) (λ_ q=>q) λ_ _ q=>q;rcases f with z|z
  .rw[z];exact h b u e
  .exact h c _ z
def Inv.tok(I:Inv X pins σ H s)(t:Nat):Inv X pins σ H { s with toks:=t}:=I.un (h':=s.heap) (t':=t) Un.refl I.aE
theorem Inv.kept{t':Nat}(I:Inv X pins σ H s)(k:∀b u,s.heap.get? b=some u->h'.get? b=some u):Inv X pins σ H { s with heap:=h',toks:=t'}:=I.un (Un.kept k) (I.aE.kept k)
theorem Inv.laid{a:Addr}{o:HO}{t':Nat}(I:Inv X pins σ H s)(k:∀b u,s.heap.get? b=some u->h'.get? b=some u)(f:s.heap.objs.size<=a)(new:bu X.prog X.w (upd H a o) h' a o): Inv X pins σ (upd H a o) { s with heap:=h',toks:=t'}:=I.un (Un.laid k f (I.aE.fresh f)) (I.aE.laid k f new)
theorem Inv.write(I:Inv X pins σ H s)(f:KC (H x))(g:e=x\/H e=some (.own x))(k:∀b u,b≠e->s.heap.get? b=some u->h'.get? b=some u)(h:∃u,h'.get? e=some u) (new:bu X.prog X.w (upd H x o) h' x o):Inv X pins σ (upd H x o) { s with heap:=h',toks:=t'}:=I.un (Un.write f g k h) (I.aE.write f g k h new)
def Inv.qY(I:Inv X pins σ H s)(h:∀p∈g,s.heap.get? p.1=some p.2/\H p.1=none/\p.1≠X.env.locals/\p.1∉X.fs/\∀v,p.2.data≠.cell v):Inv X g σ H s:=⟨I.ok,I.os,I.bare,I.base,I.loc,I.cell,I.free,I.fY,λp f=>(E9.mp f).elim (λz=>I.pin p (QP _ z)) (h p),I.aE,I.len⟩
def v29{N:List Str}(f:N.Nodup){i j:Nat}{x:Str}(a:N[i]?=some x)(b:N[j]?=some x):i=j:=by let#[l,h]:=L8.mp a;let#[k,g]:=L8.mp b;exact(List.getElem_inj f).mp (h.trans g.symm)
def ut1{M:Model}{A:Around}{E:Value->Shared->Prop}{i:Nat}{x:Str}{v:V}{u:Value}{Q:Unit->Shared->Prop}(I:Inv X pins σ H s)(hN:X.N.Nodup)(hi:X.N[i]?=some x)(t:Loc X.env.scope x)(r:RelV v u) (h:∀Z,Inv X pins (σ.set i (some v)) H Z->(∃a,U9 a s.heap Z.heap/\(a=X.env.locals\/X.env.cells.lookup x=some a))->Q #[] Z) (hf:X.fn x=true\/X.env.scope.names.lookup x=some .local:=by first|exact .inl rfl|exact .inr rfl|assumption):wpAny M A (Zw X.env x u) Q E s:=by
 let#[m,hn,hl]:=id I.loc;have Yn:(X.env.scope.kind == .class||(X.env.scope.kind == .module&&X.env.locals != X.env.globals))=false:=by rw[I.ok.kind];rfl
 have C:i<σ.length:=by rw[I.len];exact(L8.mp hi).1
 have CY:=I.CY;have g:∀{a:Addr} {h':Heap},(∃o,s.heap.get? a=some o/\H a=none)->U9 a s.heap h'->gB X.prog X.w H h':=λ{a h'} ha f b ob e=>by
  let#[_,_,jy]:=ha;apply(I.aE b ob e).gq (λc O hc q=>(f.2 c ?_).trans q) (λ_ q=>q) λ_ _ q=>q;rintro rfl;rcases hc with rfl|hc
  .rw[jy] at e;cases e
  .rw[jy] at hc;cases hc
 rcases t with hk|hk
 .apply wpAny_storeName_local hk hn (λh' sO f=>?_) Yn;let#[oL,_,_,Cz,_]:=id hn;apply h _ #[I.ok,I.os,I.bare,#[λb o e n J t=>?_,λb o e n J t=>?_,I.base.free,λb o e t=>?_,I.base.fO,I.base.dY,I.base.iW],#[_,sO,λj y S l B e3=>?_],λy c e=>?_,I.free,I.fY,λp hp=>?_,g #[oL,Cz,I.free] f,by simpa using I.len] #[_,f,.inl rfl]
  .exact(f.2 b (J7 (C5 (D8 e) I.ok.above))).trans (I.base.keep b o e n J t)
  .let#[Y,l]:=I.base.slot b o e n J t;exact#[Y,(f.2 b (J7 (C5 (D8 e) I.ok.above))).trans l]
  .let#[o',l]:=I.base.there b o e t;exact#[o',(f.2 b (J7 (C5 (D8 e) I.ok.above))).trans l]
  .by_cases G:j=i
   .subst G;rw[hi] at l;cases l;rw[A40 C] at B;cases B;exact#[u,r,.inl #[hk,by simp]]
   .rw[A68 (D3 G)] at B;let#[U,r',q]:=hl j y S l B e3;apply#[U,r',?_];rcases q with⟨k,e⟩|⟨k,c,e,z⟩
    .apply .inl ⟨k,?_⟩;have:y≠x:=λe=>G (v29 hN l (e▸hi));simp[this,e]
    .exact .inr #[k,c,e,z.sameBut f (CY y c e)]
  .let#[O,z]:=I.cell y c e;exact#[O,z.sameBut f (CY y c e)]
  .let#[e,n,ne,nf,d]:=I.pin p hp;exact#[(f.2 p.1 ne).trans e,n,ne,nf,d]
 .have Yj:X.fn x=true:=by
   rcases hf with z|z
   .exact z
   .rw[z] at hk;cases hk
  let#[c,hc]:=I.ok.has x (.inl hk);let#[O,z]:=I.cell x c hc;apply wpAny_storeName_cell I.ok.kind hk hc z (λh' L f=>?_);let#[oc,ED,XW]:=id z;apply h { s with heap:=h'} #[I.ok,I.os,I.bare,#[λb o e n J t=>?_,λb o e n J t=>?_,I.base.free,λb o e t=>?_,I.base.fO,I.base.dY,I.base.iW],#[m,hn.sameBut f (D3 (CY x c hc)),λj y S l B e3=>?_],λy R e=>?_,I.free,I.fY,λp hp=>?_,g #[oc,ED,I.fY x c hc] f,by simpa using I.len] #[c,f,.inr hc]
  .exact(f.2 b (J7 (C5 (D8 e) (I.ok.Kr x c Yj hc)))).trans (I.base.keep b o e n J t)
  .let#[Y,l]:=I.base.slot b o e n J t;exact#[Y,(f.2 b (J7 (C5 (D8 e) (I.ok.Kr x c Yj hc)))).trans l]
  .let#[o',l]:=I.base.there b o e t;exact#[o',(f.2 b (J7 (C5 (D8 e) (I.ok.Kr x c Yj hc)))).trans l]
  .by_cases G:j=i
   .subst G;rw[hi] at l;cases l;rw[A40 C] at B;cases B;exact#[u,r,.inr #[.inl hk,c,hc,L]]
   .rw[A68 (D3 G)] at B;let#[U,r',q]:=hl j y S l B e3;apply#[U,r',?_];rcases q with q|⟨k,R,e,z'⟩
    .exact .inl q
    .apply .inr ⟨k,R,e,z'.sameBut f ?_⟩;rintro rfl;exact G (v29 hN l (I.ok.inj _ _ _ e hc▸hi))
  .by_cases Yr:R=c
   .subst Yr;exact#[_,L]
   .let#[w2,z2]:=I.cell y R e;exact#[w2,z2.sameBut f Yr]
  .let#[e,n,ne,nf,d]:=I.pin p hp;apply#[(f.2 p.1 ?_).trans e,n,ne,nf,d];intro q;rw[q,ED] at e;have q':oc=p.2:=E1 e;exact d O (by rw[<- q'];exact XW)
def Vv{M:Model}{A:Around}{E:Value->Shared->Prop}{i:Nat}{x:Str}{v:V}{u:Value}{Q:Unit->Shared->Prop}(I:Inv X pins σ H s)(k:X.N.Nodup)(hi:X.N[i]?=some x)(g:Loc X.env.scope x)(r:RelV v u) (h:∀f,Inv X pins (σ.set i (some v)) H f->Q #[] f) (j:X.fn x=true\/X.env.scope.names.lookup x=some .local:=by first|exact .inl rfl|exact .inr rfl|assumption):wpAny M A (Zw X.env x u) Q E s:=ut1 I k hi g r (λf l _=>h f l) j
def Inv.Kq{f:Shared}(I:Inv X pins σ H s)(l:f.os=s.os)(u:Un (sU X.stack) ch H H' s.heap f.heap)(n:gB X.prog X.w H' f.heap)(m:zp f.gens) (j:∀b∈ch,(b∈X.ex\/X.s₀.heap.objs.size<=b)/\b≠X.env.locals/\(∀x c,X.env.cells.lookup x=some c->c≠b)/\∀p∈X.pn++pins,p.1≠b):Inv X pins σ H' f:=by
 let#[h',h,i,g,k]:=f;have e:k=s.os:=l;subst e;exact I.call (g':=h) (t':=g) (d':=i) u n m j
end
abbrev XK:=Value->Option Addr->Hp->Prop
abbrev St:=List (Option V)
abbrev VK:=V->Hp->Prop
abbrev TE:=St->Hp->VK->Prop
abbrev TT:=St->Hp->(Bool->Hp->Prop)->Prop
abbrev TA:=St->Hp->(List V->Hp->Prop)->Prop
structure Ends where
 nx:St->Hp->Prop
 rt:VK
 bk:St->Hp->Prop:=λ_ _=>False
 ct:St->Hp->Prop:=λ_ _=>False
abbrev TS:=Ends->St->Hp->Prop
inductive EP(X:Cx)(pins:List (Addr×Obj))(f:St)(Q:VK)(u:Value)(g:Shared):Prop
 | mk (v:V) (h:Hp) (_:Inv X pins f h g) (_:RelV v u) (_:Q v h):EP X pins f Q u g
inductive TP(X:Cx)(pins:List (Addr×Obj))(f:St)(Q:Bool->Hp->Prop)(b:Bool)(g:Shared):Prop
 | mk (h:Hp) (_:Inv X pins f h g) (_:Q b h):TP X pins f Q b g
inductive AP(X:Cx)(pins:List (Addr×Obj))(f:St)(Q:List V->Hp->Prop)(us:List Value)(g:Shared):Prop
 | mk (vs:List V) (h:Hp) (_:Inv X pins f h g) (_:Vals vs us) (_:Q vs h):AP X pins f Q us g
inductive NP(X:Cx)(pins:List (Addr×Obj))(Q:St->Hp->Prop)(g:Shared):Prop
 | mk (f:St) (h:Hp) (_:Inv X pins f h g) (_:Q f h):NP X pins Q g
def SP(X:Cx)(pins:List (Addr×Obj))(D:Ends)(f:Flow)(g:Shared):Prop:=
 match f with
 | .next=>NP X pins D.nx g| .brk=>NP X pins D.bk g| .cont=>NP X pins D.ct g| .ret u=>∃v h i,Inv X pins h i g/\RelV v u/\D.rt v i
def PE(X:Cx)(e:Expr)(t:TE):Prop:=∀(pins:List (Addr×Obj)) (s:Shared) (f:St) (H:Hp) (Q:VK),Inv X pins f H s->t f H Q->wpAny (model X.prog X.w) X.A (eval e X.env) (EP X pins f Q) X.xe s
def PT(X:Cx)(e:Expr)(t:TT):Prop:=∀(pins:List (Addr×Obj)) (s:Shared) (f:St) (H:Hp) (Q:Bool->Hp->Prop),Inv X pins f H s->t f H Q->wpAny (model X.prog X.w) X.A (isTrue e X.env (eval e X.env)) (TP X pins f Q) X.xe s
def PW(X:Cx)(e:Expr)(t:TT):Prop:=∀(f:Sem Value) (pins:List (Addr×Obj)) (s:Shared) (g:St) (H:Hp) (Q:Bool->Hp->Prop),Inv X pins g H s->t g H Q->wpAny (model X.prog X.w) X.A (isTrue e X.env f) (TP X pins g Q) X.xe s
def PW.pt{X:Cx}{e:Expr}{t:TT}(h:PW X e t):PT X e t:=h _
def PA(X:Cx)(g:List Expr)(t:TA):Prop:=∀(pos:Pos) (pins:List (Addr×Obj)) (s:Shared) (f:St) (H:Hp) (Q:List V->Hp->Prop),Inv X pins f H s->t f H Q->wpAny (model X.prog X.w) X.A (spliced (backTo pos (D1 g X.env))) (AP X pins f Q) X.xe s
def PS(X:Cx)(st:Stmt)(t:TS):Prop:=∀(pins:List (Addr×Obj)) (s:Shared) (f:St) (H:Hp) (D:Ends),Inv X pins f H s->t D f H->wpAny (model X.prog X.w) X.A (exec st X.env) (SP X pins D) X.xe s
def pJ(X:Cx)(st:List Stmt)(t:TS):Prop:=∀(pins:List (Addr×Obj)) (s:Shared) (f:St) (H:Hp) (D:Ends),Inv X pins f H s->t D f H->wpAny (model X.prog X.w) X.A (execs st X.env) (SP X pins D) X.xe s
def bg{f:Type}{t:Sem f}{Q g:f->Shared->Prop}{M:Model}{A:Around}{E:Value->Shared->Prop}{s:Shared}(h:wpAny M A t Q E s)(i:∀a s,Q a s->g a s):wpAny M A t g E s:=R6 h i λ_ _ x=>x
section
variable{X:Cx}
def BB(i:Nat):TE:=λf H Q=>∃v,f[i]?=some (some v)/\Q v H
def tC(v:V):TE:=λ_ H Q=>Q v H
def w24(y:X.N[i]?=some x)(o:Kw X.env.scope x)(f:(x==("__debug__" :Str))=false:=by decide)(n:(x==("__classdict__" :Str))=false:=by decide):PE X (.Name x pos) (BB i):=by
 intro pins s k H Q I h;let#[v,e,h]:=h;let#[m,p,t]:=I.loc;let#[u,r,l]:=t i x v y e o;have fin:EP X pins k Q u s:=#[v,H,I,r,h];rcases l with⟨hk,q⟩|⟨hk,c,j,g⟩
 .exact Zz (wpAny_loadName_local I.ok.kind hk p q fin) f
 .rcases hk with hk|hk
  .exact Zz (wpAny_loadName_cell I.ok.kind hk j g fin) f
  .exact Zz (wpAny_loadName_free I.ok.kind hk j g fin n) f
def wx8{i j pos}:PE X (.Constant (.int i) j pos) (tC (.int i)):=λ_ _ _ H _ I h=>wpAny_Constant_int #[.int i,H,I.tok _,#[_,rfl],h]
def xj5{b j pos}:PE X (.Constant (.bool b) j pos) (tC (.bl b)):=λ_ _ _ H _ I h=>Constant_bool #[.bl b,H,I,rfl,h]
def wx4{x j pos}:PE X (.Constant (.str x) j pos) (tC (.str x)):=λ_ _ _ H _ I h=>Calls.Constant_str #[.str x,H,I.tok _,#[_,rfl],h]
def Gl(X:Cx)(x:Str):Prop:=X.env.kindOf x=some .globalImplicit
def UP{E:Value->Shared->Prop}{pins:List (Addr×Obj)}{s:Shared}{f:St}{H:Hp}{x:Str}{u:Value}{pos:Pos}{Q:Value->Shared->Prop}(I:Inv X pins f H s)(i:Gl X x)(g:X.mg x=some u)(h:Q u s) (j:(x==("__debug__" :Str))=false:=by decide):wpAny (model X.prog X.w) X.A (eval (.Name x pos) X.env) Q E s:=A87 I.ok.kind i (Calls.loadGlobal_global (by rw[I.ok.glob];exact I.mod.glob.keeps I.bk) g h) j
def sE{E:Value->Shared->Prop}{pins:List (Addr×Obj)}{s:Shared}{f:St}{H:Hp}{x:Str}{u:Value}{pos:Pos}{Q:Value->Shared->Prop}(I:Inv X pins f H s)(k:Gl X x)(j:X.mg x=none)(g:R5 x=some u)(h:Q u s) (i:x ≠ "__name__" := by decide) (l:(x==("__debug__" :Str))=false:=by decide):wpAny (model X.prog X.w) X.A (eval (.Name x pos) X.env) Q E s:=by
 let#[o,n,m]:=I.mod.blt;exact A87 I.ok.kind k (Calls.loadGlobal_builtin (by rw[I.ok.glob];exact I.mod.glob.keeps I.bk) j (by rw[I.ok.blt];exact n.keeps I.bk) ((m x i).trans g) h) l
def wi1(g:Gl X x)(f:X.mg x=some u)(r:RelV v u)(i:(x==("__debug__" :Str))=false:=by decide):PE X (.Name x pos) (tC v):=λ_ _ _ H _ I h=>UP I g f #[v,H,I,r,h] i
def wi7(j:Gl X x)(i:X.mg x=none)(f:R5 x=some u)(r:RelV v u)(g:x ≠ "__name__" := by decide)(k:(x==("__debug__" :Str))=false:=by decide):PE X (.Name x pos) (tC v):=λ_ _ _ H _ I h=>sE I j i f #[v,H,I,r,h] g k
variable{a b:Expr}{ta tb:TE}{pos:Pos}
def tB(t:TE):TT:=λf H Q=>t f H λx g=>∃c,x=.bl c/\Q c g
def ww0{e:Expr}{t:TE}(h:PE X e t)(k:∀f,isTrue e X.env f=(do let v <- f;xG e.pos;holding [v] (truthy v)):=by intro _;rfl):PT X e (tB t):=by
 intro pins s g H Q I hw
 (apply isTrue_plain (bg (h pins s g H _ I hw) ?_) (k _);rintro v n ⟨x,m,l,i,j⟩)
 let#[d,rfl,q]:=j;cases i;exact R0 #[m,l,q]
variable{tA Ox:TT}{rest:List Expr}
def GP(t u:TT):TT:=λf H Q=>t f H λc g=>if c=true then u f g Q else Q false g
def tOr(t u:TT):TT:=λf H Q=>t f H λc g=>if c=true then Q true g else u f g Q
def GI(t:TT):TT:=λf H Q=>t f H λc g=>Q (!c) g
def wg3(g:PT X a tA):PW X (.BoolOp .And [a] pos) tA:=by
 intro i pins s f H Q I h;apply isTrue_and (bg (g pins s f H Q I h) λc j e=>?_);cases c with
 | true=>exact isTrue_and_nil e| false=>exact e
def wv8(g:PT X a tA):PW X (.BoolOp .Or [a] pos) tA:=by
 intro i pins s f H Q I h;apply isTrue_or (bg (g pins s f H Q I h) λc j e=>?_);cases c with
 | false=>exact isTrue_or_nil e| true=>exact e
def wv9(n:PT X a tA)(m:PW X (.BoolOp .And (b::rest) pos) Ox):PW X (.BoolOp .And (a::b::rest) pos) (GP tA Ox):=by
 intro k pins s f H Q I h
 (apply isTrue_and (bg (n pins s f H _ I h) ?_);rintro c l ⟨j,i,g⟩)
 cases c with
 | true=>exact m k pins l f j Q i g| false=>exact#[j,i,g]
def xi7(n:PT X a tA)(m:PW X (.BoolOp .Or (b::rest) pos) Ox):PW X (.BoolOp .Or (a::b::rest) pos) (tOr tA Ox):=by
 intro k pins s f H Q I h
 (apply isTrue_or (bg (n pins s f H _ I h) ?_);rintro c l ⟨j,i,g⟩)
 cases c with
 | true=>exact#[j,i,g]| false=>exact m k pins l f j Q i g
def ww1(g:PT X a tA):PT X (.UnaryOp .Not a pos) (GI tA):=by intro pins s f H Q I h;apply isTrue_not (bg (g pins s f H (λc k=>Q (!c) k) I h) ?_);rintro c l ⟨j,i,q⟩;exact#[j,i,q]
def wu7(ta tb:TE):TE:=λf H Q=>ta f H λx g=>∃c,x=.bl c/\if c=true then tb f g Q else Q (.bl false) g
def GG(ta tb:TE):TE:=λf H Q=>ta f H λx g=>∃c,x=.bl c/\if c=true then Q (.bl true) g else tb f g Q
def wt5(ta:TE):TE:=λf H Q=>ta f H λx g=>∃c,x=.bl c/\Q (.bl (!c)) g
def wx5{op}(h:PE X a t):PE X (.BoolOp op [a] pos) t:=λpins s f H Q I hw=>BoolOp_one (h pins s f H Q I hw)
def wy0(n:PE X a ta)(m:PE X (.BoolOp .And (b::rest) pos) tb):PE X (.BoolOp .And (a::b::rest) pos) (wu7 ta tb):=by
 intro pins s g H Q I h
 (apply BoolOp_and (bg (n pins s g H _ I h) ?_);rintro v k ⟨x,j,i,l,f⟩)
 let#[c,rfl,f]:=f;cases l;apply R0 ?_;cases c with
 | true=>exact m pins k g j Q i f| false=>exact#[.bl false,j,i,rfl,f]
def xj2(n:PE X a ta)(m:PE X (.BoolOp .Or (b::rest) pos) tb):PE X (.BoolOp .Or (a::b::rest) pos) (GG ta tb):=by
 intro pins s g H Q I h
 (apply BoolOp_or (bg (n pins s g H _ I h) ?_);rintro v k ⟨x,j,i,l,f⟩)
 let#[c,rfl,f]:=f;cases l;apply R0 ?_;cases c with
 | false=>exact m pins k g j Q i f| true=>exact#[.bl true,j,i,rfl,f]
def wx6(j:PE X a ta):PE X (.UnaryOp .Not a pos) (wt5 ta):=by
 intro pins s g H Q I h
 (apply UnaryOp_ (bg (j pins s g H _ I h) ?_);rintro v m ⟨x,l,k,i,f⟩)
 let#[c,rfl,f]:=f;cases i;exact not_of (R0 #[.bl (!c),l,k,rfl,f])
def tIf(t:TT)(ta tb:TE):TE:=λf H Q=>t f H λc g=>if c=true then ta f g Q else tb f g Q
def vq8{c:Expr}(l:PT X c tA)(n:PE X a ta)(m:PE X b tb):PE X (.IfExp c a b pos) (tIf tA ta tb):=by
 intro pins s f H Q I h
 (apply wpAny_IfExp (bg (l pins s f H _ I h) ?_);rintro d g ⟨k,j,i⟩)
 cases d with
 | true=>exact n pins g f k Q j i| false=>exact m pins g f k Q j i
end
def eR(K:W.Frag)(H:Hp)(a:Addr)(xs:List V):Prop:=
 Rd H a (.lst xs) \/
  ∃(o:Obj) (its:Array Value) (n:Nat),K.lookup a=some o/\o.cls=.type "list" /\ o.dict=none/\o.data=.seq its n/\its.size<=sizeLine/\Vals xs its.toList
def eF(K:W.Frag)(H:Hp)(a:Addr)(xs:List V):Prop:=
 Rd H a (.tup xs) \/
  ∃(o:Obj) (its:Array Value) (n:Nat),K.lookup a=some o/\o.cls=.type "tuple" /\ o.data=.seq its n/\its.size<=sizeLine/\Vals xs its.toList/\o.dict=none
def YY:Value->Option V
 | .none=>some .non| .bool b=>some (.bl b)| .int i _=>some (.int i)| .str x _=>some (.str x)| .bytes b _=>some (.tW b)| .float b _=>some (.xx b)| .ref a=>some (.ref a)| .type n=>some (.ty n)| _=>none
def RelV.abs(r:RelV x u):YY u=some x:=by
 cases x with
 | non=>cases r;rfl
 | bl _=>cases r;rfl
 | int _=>let#[t,rfl]:=r;rfl| str _=>let#[t,rfl]:=r;rfl| tW _=>let#[t,rfl]:=r;rfl| xx _=>let#[t,rfl]:=r;rfl| ref _=>cases r;rfl
 | ty _=>cases r;rfl
def RelV.inj{x y:V}{u:Value}(r:RelV x u)(q:RelV y u):x=y:=E1 (r.abs.symm.trans q.abs)
theorem Vals.inj:∀{xs ys:List V} {us:List Value},Vals xs us->Vals ys us->xs=ys
 | _,_,_,.nil,.nil=>rfl| _,_,_,.cons r t,.cons g f=>by rw[r.inj g,Vals.inj t f]
section
variable{X:Cx}{pins:List (Addr×Obj)}{σ:St}{H:Hp}{s:Shared}{a:Addr}{xs ys:List V}
def eR.of{K:W.Frag}(h:H a=some (.lst xs)):eR K H a xs:=.inl (.inl h)
def eF.of{K:W.Frag}(h:H a=some (.tup xs)):eF K H a xs:=.inl (.inl h)
def Inv.list(I:Inv X pins σ H s)(h:eR X.K H a xs):∃its:List Value,Vals xs its/\PlainL s.heap a its.toArray/\xs.length<=sizeLine:=by
 rcases h with h|⟨o,its,n,g,j,i,f,k,r⟩
 .let#[z,its,n,r,e]:=h.ok I.aE;exact#[its,r,#[_,n,e,rfl,rfl,rfl],z]
 .apply#[its.toList,r,#[o,n,I.i5 a o g,j,i,by simpa using f],?_];have e:=r.length;simp only[K7] at e;omega
def Inv.tuple(I:Inv X pins σ H s)(h:eF X.K H a xs):∃its:List Value,Vals xs its/\IsTup s.heap a its.toArray/\xs.length<=sizeLine:=by
 rcases h with h|⟨o,its,n,g,i,f,j,r,_⟩
 .let#[z,its,r,p]:=h.ok I.aE;exact#[its,r,p.tup,z]
 .apply#[its.toList,r,#[o,I.i5 a o g,i,n,by simpa using f],?_];have e:=r.length;simp only[K7] at e;omega
def Inv.jw(I:Inv X pins σ H s)(h:eR X.K H a xs)(h':eR X.K H a ys):xs=ys:=by
 let#[its,r,#[o,n,e,_,_,d],_]:=I.list h;let#[j,i,#[l,m,f,_,_,g],_]:=I.list h';rw[e] at f;cases f;rw[d] at g;injection g with k _;have:its=j:=by simpa using congrArg ZR k
 subst this;exact r.inj i
def Inv.ku(I:Inv X pins σ H s)(h:eF X.K H a xs)(h':eF X.K H a ys):xs=ys:=by
 let#[its,r,#[o,e,_,n,d],_]:=I.tuple h;let#[j,i,#[l,f,_,m,g],_]:=I.tuple h';rw[e] at f;cases f;rw[d] at g;injection g with k _;have:its=j:=by simpa using congrArg ZR k
 subst this;exact r.inj i
end
abbrev Cx.iV(X:Cx)(E:Value->Shared->Prop):Cx:={ X with xe:=E}
abbrev Cx.yB(X:Cx):Cx:=X.iV λ_ _=>False
theorem Cx.Ok.iV{X:Cx}(ok:X.Ok)(E:Value->Shared->Prop):(X.iV E).Ok:=#[ok.mod,ok.kind,ok.glob,ok.blt,ok.above,ok.inj,ok.has,ok.Kr,ok.hd,ok.frames,ok.Ei,ok.YM,ok.bs,ok.uX,ok.uu,ok.uS,ok.iL,ok.Aa]
def Cx.Ok.dJ{X:Cx}(ok:(X.iV E).Ok):X.Ok:=#[ok.mod,ok.kind,ok.glob,ok.blt,ok.above,ok.inj,ok.has,ok.Kr,ok.hd,ok.frames,ok.Ei,ok.YM,ok.bs,ok.uX,ok.uu,ok.uS,ok.iL,ok.Aa]
section
variable{X:Cx}{pins:List (Addr×Obj)}{σ:St}{H:Hp}{s:Shared}{E:Value->Shared->Prop}
theorem Inv.iV(I:Inv X pins σ H s)(E:Value->Shared->Prop):Inv (X.iV E) pins σ H s:=#[I.ok.iV E,I.os,I.bare,I.base,I.loc,I.cell,I.free,I.fY,I.pin,I.aE,I.len]
theorem Inv.dJ(I:Inv (X.iV E) pins σ H s):Inv X pins σ H s:=#[I.ok.dJ,I.os,I.bare,I.base,I.loc,I.cell,I.free,I.fY,I.pin,I.aE,I.len]
theorem SP.dJ(h:SP (X.iV E) pins D f j):SP X pins D f j:=by
 cases f with
 | next=>let#[g,i,I,q]:=h;exact#[g,i,I.dJ,q]| brk=>let#[g,i,I,q]:=h;exact#[g,i,I.dJ,q]| cont=>let#[g,i,I,q]:=h;exact#[g,i,I.dJ,q]| ret u=>let#[v,g,i,I,r,q]:=h;exact#[v,g,i,I.dJ,r,q]
theorem PE.yB(h:PE X.yB e t):PE X e t:=λpins s σ H Q I hw =>
 R6 (h pins s σ H Q (I.iV _) hw) (λ_ _ ⟨v,g,f,r,q⟩=>#[v,g,f.dJ,r,q]) λ_ _ z=>Q2 z
theorem PT.yB(h:PT X.yB e t):PT X e t:=λpins s σ H Q I hw =>
 R6 (h pins s σ H Q (I.iV _) hw) (λ_ _ ⟨g,f,q⟩=>#[g,f.dJ,q]) λ_ _ z=>Q2 z
theorem pJ.yB{st:List Stmt}{t:TS}(h:pJ X.yB st t):pJ X st t:=λpins s σ H D I hw =>
 R6 (h pins s σ H D (I.iV _) hw) (λ_ _ q=>q.dJ) λ_ _ z=>Q2 z
end
section
variable{X:Cx}{st:Stmt}{rest:List Stmt}{t u:TS}{e:Expr}{te:TE}{pos:Pos}
def wt6:TS:=λD f H=>D.nx f H
def GD(t u:TS):TS:=λD f H=>t { D with nx:=u D} f H
def wg7:pJ X [] wt6:=λ_ _ f H _ I h=>Qx #[f,H,I,h]
def vp6(h1:PS X st t)(k:pJ X rest u):pJ X (st::rest) (GD t u):=by
 intro pins s i H D I h;apply wpAny_execs_cons (bg (h1 pins s i H { D with nx:=u D} I h) λf j q=>?_);cases f with
 | next =>let#[g,m,l,q]:=q;exact k pins j g m D l q| ret v=>exact q| brk=>exact q| cont=>exact q
def wg6(h1:PS X st t):pJ X [st] t:=by
 intro pins s g H D I h;apply wpAny_execs_cons (bg (h1 pins s g H D I h) λf i q=>?_);cases f with
 | next=>exact Qx q| ret v=>exact q| brk=>exact q| cont=>exact q
def Inv.quiet{pins:List (Addr×Obj)}{f:St}{H:Hp}{s:Shared}(I:Inv X pins f H s):interactive X.env=false:=by simp[interactive,I.ok.kind]
def wu0(te:TE):TS:=λD f H=>te f H λ_ g=>D.nx f g
def wh0(j:PE X e te)(i:Y8 e none pos.line X.env=pure false:=by rfl):PS X (.Expr e pos) (wu0 te):=by
 intro pins s f H D I h
 (apply wpAny_Expr_any (bg (j pins s f H _ I h) ?_) I.quiet i;rintro v m ⟨x,l,k,n,g⟩;exact#[f,l,k,g])
def GF(te:TE):TS:=λD f H=>te f H D.rt
def ww4(j:PE X e te):PS X (.Return (some e) pos) (GF te):=by
 intro pins s f H D I h
 (apply wpAny_Return_some (bg (j pins s f H _ I h) ?_);rintro v m ⟨x,l,k,g,i⟩;exact#[x,f,l,k,g,i])
def wt3:TS:=λD _ H=>D.rt .non H
def wg9:PS X (.Return none pos) wt3:=λ_ _ f H _ I h=>wpAny_Return_none #[.non,f,H,I,rfl,h]
def GK(c:TT)(t u:TS):TS:=λD f H=>c f H λb g=>if b=true then t D f g else u D f g
def xi8{c:Expr}{a b:List Stmt}{tc:TT}(l:PT X c tc)(n:pJ X a t)(m:pJ X b u):PS X (.If c a b pos) (GK tc t u):=by
 intro pins s f H D I h
 (apply wpAny_If (bg (l pins s f H _ I h) ?_);rintro d g ⟨k,j,i⟩)
 cases d with
 | true=>exact n pins g f k D j i| false=>exact m pins g f k D j i
def wt7:TS:=λ_ _ _=>False
def vp8:PS X st wt7:=λ_ _ _ _ _ _ h=>h.elim
end
abbrev TG:=V->St->Hp->(St->Hp->Prop)->Prop
abbrev Dj:=List V->St->Hp->(St->Hp->Prop)->Prop
def PG(X:Cx)(target:Expr)(t:TG):Prop:=
 ∀(pins:List (Addr×Obj)) (s:Shared) (f:St) (H:Hp) (v:V) (u:Value) (Q:St->Hp->Prop),Inv X pins f H s->RelV v u->t v f H Q ->
  wpAny (model X.prog X.w) X.A (assign target X.env u) (λ_ g=>NP X pins Q g) X.xe s
def Ah(X:Cx)(i:List Expr)(t:Dj):Prop:=
 ∀(pins:List (Addr×Obj)) (s:Shared) (f:St) (H:Hp) (g:List V) (h:List Value) (Q:St->Hp->Prop),Inv X pins f H s->Vals g h->t g f H Q ->
  wpAny (model X.prog X.w) X.A (assignInOrder ((T7 i X.env).map (·.2)) h) (λ_ j=>NP X pins Q j) X.xe s
abbrev Di:=V->V->V->Hp->(Hp->Prop)->Prop
def tq(X:Cx)(t:Di):Prop:=
 ∀(pins:List (Addr×Obj)) (s:Shared) (f:St) (H:Hp) (o i v:V) (g h u:Value) (Q:Hp->Prop),Inv X pins f H s->RelV o g->RelV i h->RelV v u->t o i v H Q ->
  wpAny (model X.prog X.w) X.A (PQ g h u) (λ_ k=>∃j,Inv X pins f j k/\Q j) X.xe s
abbrev Zf:=V->V->Hp->VK->Prop
def PIp(X:Cx)(op:Operator)(t:Zf):Prop:=
 ∀(pins:List (Addr×Obj)) (s:Shared) (f:St) (H:Hp) (x y:V) (v u:Value) (Q:VK),Inv X pins f H s->RelV x v->RelV y u->t x y H Q ->
  wpAny (model X.prog X.w) X.A (zr op v u) (EP X pins f Q) X.xe s
section
variable{X:Cx}{pos:Pos}
def RG(i:Nat):TG:=λv f H Q=>Q (f.set i (some v)) H
def wh7(j:X.N.Nodup)(hi:X.N[i]?=some x)(f:Loc X.env.scope x)(g:X.fn x=true\/X.env.scope.names.lookup x=some .local:=by first|exact .inl rfl|exact .inr rfl|assumption):PG X (.Name x pos) (RG i):=by intro pins s l H v u Q I r h;exact wpAny_assign_Name (Vv I j hi f r (λm k=>#[_,H,k,h]) g)
def Kb:Dj:=λg f H Q=>g=[]/\Q f H
def xa8(t:TG)(u:Dj):Dj:=λh g H Q=>∃v r,h=v::r/\t v g H λf i=>u r f i Q
def wh6:Ah X [] Kb:=by intro pins s f H g i Q I r h;let#[e,h]:=h;subst e;cases r;exact assignInOrder_nil #[f,H,I,h]
def vq5{e:Expr}{f:List Expr}{t:TG}{u:Dj}(h1:PG X e t)(n:Ah X f u) (m:(T7 (e::f) X.env).map (·.2)=assign e X.env::(T7 f X.env).map (·.2):=by rfl):Ah X (e::f) (xa8 t u):=by
 intro pins s i H x A Q I r h;let#[v,y,o,h]:=h;subst o;cases r with
 | cons r k =>
  rw[m]
  (apply assignInOrder_cons (bg (h1 pins s i H _ _ _ I r h) ?_);rintro _ j ⟨g,q,p,l⟩)
  exact n pins j g q _ _ Q p k l
def YI(K:W.Frag)(n:Nat)(t:Dj):TG:=λv f H Q=>∃a xs,v=.ref a/\eF K H a xs/\xs.length=n/\t xs f H Q
def wx1(y:X.calm=true)(h:Ah X f t) (q:(T7 f X.env).length=n:=by rfl) (j:(T7 f X.env).findIdx? (·.1)=none:=by rfl):PG X (.Tuple f k pos) (YI X.K n t):=by
 intro pins s g H v u Q I r hw;let#[a,xs,B,p,x,hw]:=hw;subst B;cases r;let#[its,i,m,G]:=I.tuple p;apply assign_Tuple_tuple (I.ok.hd y) m (by simp[q,<- x,i.length]) j λA l=>?_;have C:Inv X pins g H { s with heap:=A}:=I.kept (t':=s.toks) λb o e=>l b o (J7 (D8 e)) e;exact h pins _ g H xs _ Q C (by simpa using i) hw
def Ka(to g:TE)(t:Di):TG:=λv f H Q=>to f H λo k=>g f k λi j=>t o i v j λh=>Q f h
def wx2{o i:Expr}{to k:TE}{t:Di}(E:PE X o to)(hi:PE X i k)(C:tq X t)
  (G:∀v,assign (.Subscript o i pos) X.env v=(do
   let f <- holding [v] (eval o X.env);let g <- holding [v,f] (eval i X.env)
   xG pos
   holding [v,f,g] (PQ f g v)
   release [v,f,g] []):=by intro _;rfl):PG X (.Subscript o i pos) (Ka to k t):=by
 intro pins s j H v u Q I r h;rw[G]
 (apply B5 (N5 (bg (E pins s j H _ I h) ?_));rintro f m ⟨x,O,L,p,B⟩)
 (apply B5 (N5 (bg (hi pins m j O _ L B) ?_));rintro g l ⟨y,N,J,n,A⟩)
 (apply B5 (Qp (B5 (N5 (bg (C pins l j N x y v f g u _ J p n r A) ?_))));rintro _ R ⟨M,I3,q⟩)
 exact wpAny_release #[j,M,I3,q]
def BD(te:TE)(g:TG):TS:=λD f H=>te f H λx h=>g x f h D.nx
def ww8{tg e:Expr}{te:TE}{g:TG}(n:PE X e te)(m:PG X tg g)(l:swapsWithSole [tg] e pos.line X.env=pure false:=by rfl)(hw:swappedStores [tg] e X.env=pure none:=by rfl)
  (h1:(T7 [tg] X.env).map (·.2)=[assign tg X.env]:=by rfl):PS X (.Assign [tg] e pos) (BD te g):=by
 intro pins s f H D I h
 (apply wpAny_Assign_stores (bg (n pins s f H _ I h) ?_) l hw;rintro v i ⟨x,p,o,j,k⟩)
 rw[h1];exact bg (m pins i f p x v _ o j k) λ_ r q=>q
def ww3{i:Nat}{x:Str}{e:Expr}{te:TE}{f:Pos}(p:X.N.Nodup)(hi:X.N[i]?=some x)(l:Loc X.env.scope x)(o:PE X e te)(m:Y8 e (some (.Name x f)) pos.line X.env=pure false:=by rfl)(n:X.fn x=true\/X.env.scope.names.lookup x=some .local:=by first|exact .inl rfl|exact .inr rfl|assumption):
  PS X (.Assign [.Name x f] e pos) (BD te (RG i)):=by
 intro pins s g H D I h
 (apply wpAny_Assign_Name (bg (o pins s g H _ I h) ?_) m;rintro v A ⟨y,t,r,j,k⟩)
 exact Vv r p hi l j (λu q=>#[_,t,q,k]) n
def GO(i:Nat)(te:TE)(g:Zf):TS:=λD f H=>∃x,f[i]?=some (some x)/\te f H λy j=>g x y j λz h=>D.nx (f.set i (some z)) h
def ww7{i:Nat}{x:Str}{e:Expr}{te:TE}{op:Operator}{q:Zf}{j:Pos}(Y:X.N.Nodup)(hi:X.N[i]?=some x)(o:Loc X.env.scope x)(S:PE X e te)(L:PIp X op q)(R:X.fn x=true\/X.env.scope.names.lookup x=some .local:=by first|exact .inl rfl|exact .inr rfl|assumption):
  PS X (.AugAssign (.Name x j) op e pos) (GO i te q):=by
 intro pins s p H D I h;let#[v,Z,h]:=h;let#[m,M,Q]:=I.loc;have n:Kw X.env.scope x:=by rcases o with k|k;exact .inl k;exact .inr (.inl k)
 let#[u,r,l]:=Q i x v hi Z n;apply wpAny_AugAssign_Name ?_;have go:wpAny (model X.prog X.w) X.A (eval e X.env) (λw g=>wpAny (model X.prog X.w) X.A (zr op u w) (λr f=>wpAny (model X.prog X.w) X.A (Zw X.env x r) (λ_=>SP X pins D .next) X.xe f) X.xe g) X.xe s:=by
  (apply bg (S pins s p H _ I h) ?_;rintro w t ⟨y,H1,I1,E,J⟩)
  (apply bg (L pins t p H1 v y u w _ I1 r E J) ?_;rintro z s2 ⟨zv,H2,I2,C,G⟩)
  exact Vv I2 Y hi o C (λs3 I3=>#[_,H2,I3,G]) R
 rcases l with⟨hk,O⟩|⟨hk,c,U,B⟩
 .exact wpAny_loadName_local I.ok.kind hk M O go
 .rcases hk with hk|hk
  .exact wpAny_loadName_cell I.ok.kind hk U B go
  .rcases o with k|k
   .have:X.env.scope.names.lookup x=some .free:=hk;rw[k] at this;cases this
   .have:X.env.scope.names.lookup x=some .free:=hk;rw[k] at this;cases this
end
section
variable{X:Cx}{pos:Pos}
def vx8(c:TT)(tb:TS):TS:=λD f H=>∃W:Nat->St->Hp->Prop,(∃m,W m f H)/\∀m f H,W m f H ->
 c f H λb i=>if b=true then∃N:St->Hp->Prop,(∀g j,N g j->∃h,h<m/\W h g j)/\tb { D with nx:=N,ct:=N,bk:=D.nx} f i else D.nx f i
def vp7{c:Expr}{body:List Stmt}{tc:TT}{tb:TS}(r:Qk (model X.prog X.w) X.A X.env X.xe)(O:PT X c tc)(Q:pJ X body tb):PS X (.While c body [] pos) (vx8 tc tb):=by
 intro pins s B H D I h;let#[W,#[M,E],turn]:=h;apply wpAny_While (codeAny_whileLoop (λn L=>NP X pins (W n) L) ?_ M #[B,H,I,E]);rintro n J ⟨i,y,R,C⟩
 (apply W6 r (bg (O pins J i y _ R (turn n i y C)) ?_);rintro b G ⟨x,u,l⟩)
 cases b with
 | true =>
  let#[N,t,l]:=l;rw[if_pos rfl];apply W6 r (bg (Q pins G i x _ u l) λf S k=>?_);cases f with
  | next =>let#[g,j,I3,o]:=k;let#[p,q,m]:=t g j o;exact#[p,q,g,j,I3,m]| cont =>let#[g,j,I3,o]:=k;let#[p,q,m]:=t g j o;exact#[p,q,g,j,I3,m]| brk=>exact k| ret v=>exact k
 | false =>rw[if_neg C9];exact Qx #[i,x,u,l]
end
structure It where
 go:Nat->Hp->Prop
 qO:Nat->Hp->V->Hp->Prop
 stop:Nat->Hp->Prop
def iN(X:Cx)(pins:List (Addr×Obj))(H:Hp)(b:Addr):Prop:=H b=none/\b≠X.env.locals/\b∉X.fs/\(b∈X.ex\/X.s₀.heap.objs.size<=b)/\(∀x c,X.env.cells.lookup x=some c->c≠b)/\∀p∈X.pn++pins,p.1≠b
def Inv.qD{X:Cx}{pins:List (Addr×Obj)}{h:St}{H g:Hp}{s:Shared}{b:Addr}(I:Inv X pins h H s)(f:s.heap.objs.size<=b)(j:g b=none):iN X pins g b:=by
 apply#[j,Z1 (C5 I.lt f),I.WU f,.inr (D5 I.sz f),λx c e z=>?_,λp i z=>?_]
 .let#[v,q]:=I.cell x c e;exact absurd (C5 q.lt (by rw[z];exact f)) (Fj _)
 .exact absurd (C5 (D8 (I.pin p i).1) (by rw[z];exact f)) (Fj _)
structure Turn(P:Program)(w:World)(K:W.Frag)(tg:Expr)(J:It)(fp:List Addr)(it:Addr)(tn:Nat->Heap->Prop):Prop where
 mem:it∈fp
 obj:∀i h,tn i h->∀b∈fp,∃o,h.get? b=some o/\∀v,o.data≠.cell v
 keep:∀i h h',tn i h->(∀b∈fp,∀o,h.get? b=some o->h'.get? b=some o)->tn i h'
 item:∀(X:Cx),X.prog=P->X.w=w->X.K=K->X.calm=true->∀(i:Nat) (pins:List (Addr×Obj)) (s:Shared) (σ:St) (H:Hp) (E:Value->Shared->Prop),Inv X pins σ H s->(∀b∈fp,iN X pins H b)->tn i s.heap->J.go i H ->
  wpAny (model P w) X.A (pyNext (.ref it)) (λr s1=>∃u,r=some u /\
   wpAny (model P w) X.A (Qw tg (.ref it) u) (λ_ s2=>∃x H',Inv X pins σ H' s2/\RelV x u/\J.qO i H x H'/\tn (i+1) s2.heap/\∀b∈fp,H' b=none) E s1) E s
 done:∀(X:Cx),X.prog=P->X.w=w->X.K=K->X.calm=true->∀(i:Nat) (pins:List (Addr×Obj)) (s:Shared) (σ:St) (H:Hp) (E:Value->Shared->Prop),Inv X pins σ H s->(∀b∈fp,iN X pins H b)->tn i s.heap->J.stop i H ->
  wpAny (model P w) X.A (pyNext (.ref it)) (λr s1=>r=none/\Inv X pins σ H s1) E s
 self:∀(A:Around) (i:Nat) (s:Shared) (Q:Value->Shared->Prop) (E:Value->Shared->Prop),tn i s.heap->Q (.ref it) s->wpAny (model P w) A (pyIter (.ref it)) Q E s
abbrev TI:=St->Hp->(It->Hp->Prop)->Prop
def PIE(X:Cx)(pins:List (Addr×Obj))(j:St)(tg:Expr)(R:It->Hp->Prop)(k:Value)(h:Shared):Prop:=∃(it:Addr) (i:List Addr) (g:Nat->Heap->Prop) (J:It) (f:Hp),k=.ref it/\Inv X pins j f h/\Turn X.prog X.w X.K tg J i it g/\g 0 h.heap/\(∀b∈i,iN X pins f b)/\R J f
def PI(X:Cx)(tg iter:Expr)(g:TI):Prop:=
 ∀(pins:List (Addr×Obj)) (s:Shared) (f:St) (H:Hp) (R:It->Hp->Prop),Inv X pins f H s->g f H R ->
  wpAny (model X.prog X.w) X.A (eval iter X.env) (λv h=>wpAny (model X.prog X.w) X.A (pyIter v) (PIE X pins f tg R) X.xe h) X.xe s
def FE {s: Shared} (ho: s.heap.get? it = some o) (hc: o.cls = .type n) (hd: o.data = .fields vs) (hn:["enumerate", "zip", "dict_itemiterator", "dict_reverseitemiterator", "odict_iterator", "itertools.zip_longest", "itertools.pairwise"].contains n=false) (hQ:Q #[] s):wpAny M A (Qw tg (.ref it) u) Q E s:=by
  unfold Qw;cases tg <;> first
    | exact C4 hQ
    | (cases u <;> first
        | exact C4 hQ
        | (refine wpAny_bind (wpAny_load ho ?_)
           rw[hc,hd];show wpAny M A (if(["enumerate", "zip", "dict_itemiterator", "dict_reverseitemiterator", "odict_iterator", "itertools.zip_longest", "itertools.pairwise"].contains n&&vs[0]?==some (rawInt _))=true then _ else _) Q E s;rw[if_neg (by intro h;rw[hn,Bool.false_and] at h;cases h)];exact C4 hQ))
def Zk(K:W.Frag)(a:Addr):It:=⟨λi H=>∃xs x,eR K H a xs/\xs[i]?=some x,λi H x f=>f=H/\∀xs,eR K H a xs->xs[i]?=some x,λi H=>∃xs,eR K H a xs/\xs.length<=i⟩
def Zj(K:W.Frag)(a:Addr):It:=⟨λi H=>∃xs x,eF K H a xs/\xs[i]?=some x,λi H x f=>f=H/\∀xs,eF K H a xs->xs[i]?=some x,λi H=>∃xs,eF K H a xs/\xs.length<=i⟩
def KD(lo:Int)(n:Nat):It:=⟨λi _=>i<n,λi H x f=>f=H/\x=.int (lo+i),λi _=>n<=i⟩
def va4{P:Program}{w:World}{K:W.Frag}{tg:Expr}(a it:Addr):Turn P w K tg (Zk K a) [it] it (λi h=>h.IsListIter it a i) where
 mem:=by simp
 obj:=λi h st b f=>by
  have e:b=it:=by simpa using f
  subst e;let#[o,e,c,d]:=st;exact#[o,e,λv z=>by rw[d] at z;cases z]
 keep:=λi h l st k=>st.at λo e=>k it (by simp) o e
 item:=by intro X r hw t L i pins s G H E I j st q;subst r hw t;let#[xs,x,g,n]:=q;let#[its,m,p,R]:=I.list g;let#[u,U,O]:=m.get n;let#[C,f1,f2,B,A,y]:=j it (by simp);apply wpAny_pyNext_list_item st p.isList (x:=u) (by simpa using U) λl J N=>?_;have Z:Inv X pins G H { s with heap:=l}:=I.turned (t':=s.toks) (λb o f e=>(N.2 b f).trans e) C f1 B A y;let#[o,e,c,d]:=id J;exact#[u,rfl,FE (s:={ s with heap:=l}) e c d ∅ #[x,H,Z,O,#[rfl,λys S=>by rw[I.jw S g];exact n],J,λb f=>(j b f).1]]
 done:=by intro X r hw t L i pins s G H E I j st q;subst r hw t;let#[xs,g,n]:=q;let#[its,m,p,R]:=I.list g;let#[C,f1,f2,B,A,y]:=j it (by simp);have hl:=m.length;exact wpAny_pyNext_list_end (I.ok.hd L) st p.isList (by simp;omega) λl Y=>#[rfl,I.turned (t':=s.toks) (λb o f e=>Y b o f e) C f1 B A y]
 self:=λ_ _ _ _ _ st h=>wpAny_pyIter_listiter st h
def v59{P:Program}{w:World}{K:W.Frag}{tg:Expr}(a it:Addr):Turn P w K tg (Zj K a) [it] it (λi h=>h.IsTupleIter it a i) where
 mem:=by simp
 obj:=λi h st b f=>by
  have e:b=it:=by simpa using f
  subst e;let#[o,e,c,d]:=st;exact#[o,e,λv z=>by rw[d] at z;cases z]
 keep:=λi h l st k=>st.at λo e=>k it (by simp) o e
 item:=by intro X r hw t L i pins s G H E I j st q;subst r hw t;let#[xs,x,g,n]:=q;let#[its,m,p,R]:=I.tuple g;let#[u,U,O]:=m.get n;let#[C,f1,f2,B,A,y]:=j it (by simp);apply wpAny_pyNext_tuple_item st (show s.heap.IsTuple a its.toArray from p) (x:=u) (by simpa using U) λl J N=>?_;have Z:Inv X pins G H { s with heap:=l}:=I.turned (t':=s.toks) (λb o f e=>(N.2 b f).trans e) C f1 B A y;let#[o,e,c,d]:=id J;exact#[u,rfl,FE (s:={ s with heap:=l}) e c d ∅ #[x,H,Z,O,#[rfl,λys S=>by rw[I.ku S g];exact n],J,λb f=>(j b f).1]]
 done:=by intro X r hw t L i pins s G H E I j st q;subst r hw t;let#[xs,g,n]:=q;let#[its,m,p,R]:=I.tuple g;let#[C,f1,f2,B,A,y]:=j it (by simp);have hl:=m.length;exact wpAny_pyNext_tuple_end (I.ok.hd L) st (show s.heap.IsTuple a its.toArray from p) (by simp;omega) λl Y=>#[rfl,I.turned (t':=s.toks) (λb o f e=>Y b o f e) C f1 B A y]
 self:=λ_ _ _ _ _ st h=>wpAny_pyIter_tupleiter st h
def v60{P:Program}{w:World}{K:PySem.W.Frag}{tg:Expr}(it:Addr)(lo:Int)(n:Nat):Turn P w K tg (KD lo n) [it] it (λi h=>IsRangeIter h it (lo+(i:Nat)*1) ((n:Int)-(i:Nat)) 1) where
 mem:=by simp
 obj:=λi h st b f=>by
  have e:b=it:=by simpa using f
  subst e;exact#[_,st,λv z=>by have L:C94 _=D30 v:=z;cases L]
 keep:=λi h l st k=>k it (by simp) _ st
 item:=by intro X q hw r p i pins s B H E I j st m;subst q hw r;let#[A,f1,f2,y,x,u]:=j it (by simp);have W:=Walks.range (prog:=X.prog) (w:=X.w) (I.ok.hd p) it lo 1 n;apply W.item i s _ _ m st λv l C O J N=>?_;let#[t,rfl]:=O;have R:Inv X pins B H { s with heap:=l,toks:=C}:=I.turned (λb o f e=>N b o (by simpa using f) e) A f1 y x u;apply#[_,rfl,FE (s:={ s with heap:=l,toks:=C}) (n:= "range_iterator") J rfl rfl ∅ #[.int (lo+i),H,R,#[t,?_],#[rfl,rfl],J,λb f=>(j b f).1]];rw[Qe]
 done:=by intro X q hw r p i pins s B H E I j st m;subst q hw r;let#[A,f1,f2,y,x,u]:=j it (by simp);exact wpAny_pyNext_range_end (I.ok.hd p) st (by have:n<=i:=m;omega) λl Q=>#[rfl,I.turned (t':=s.toks) (λb o f e=>Q b o f e) A f1 y x u]
 self:=λ_ _ _ _ _ st h=>wpAny_pyIter_rangeiter st h
section
variable{X:Cx}{tg:Expr}
def v21{pins:List (Addr×Obj)}{f:St}{H:Hp}{s:Shared}{R:It->Hp->Prop}{E:Value->Shared->Prop}{lo hi:Int}{t u v:Tok}{tk:Nat}(I:Inv X pins f H s)(h1:-(2^62)<=lo)(k:lo<2^62)(j:-(2^62)<=hi)(i:hi<2^62) (q:R (KD lo (hi-lo).toNat) H):wpAny (model X.prog X.w) X.A (pyIter (.ref s.heap.objs.size)) (PIE X pins f tg R) E { s with heap:=s.heap.push { cls:=.type "range",data:=.fields [.int lo t,.int hi u,.int 1 v].toArray},toks:=tk}:=by
 apply wpAny_pyIter_range (ZJ ..) (Zv h1 k j i) ?_;have g:Inv X pins f H { s with heap:=s.heap.push { cls:=.type "range",data:=.fields [.int lo t,.int hi u,.int 1 v].toArray},toks:=tk}:=I.kept λb o e=>B8 _ e;apply#[(s.heap.push { cls:=.type "range",data:=.fields [.int lo t,.int hi u,.int 1 v].toArray}).objs.size,[(s.heap.push { cls:=.type "range",data:=.fields [.int lo t,.int hi u,.int 1 v].toArray}).objs.size],_,_,H,rfl,
  g.kept (t':=tk) λb o e=>B8 _ e,v60 _ lo (hi-lo).toNat,?_,λb h=>?_,q]
 .have m:lo+((0:Nat):Int)*1=lo:=by simp
  have l:(((hi-lo).toNat:Nat):Int)-((0:Nat):Int)=A34 lo hi 1:=by rw[ZW];split <;> omega
  show IsRangeIter _ _ (lo+((0:Nat):Int)*1) ((((hi-lo).toNat:Nat):Int)-((0:Nat):Int)) 1;rw[m,l];exact E4 _ rfl
 .have e:b=(s.heap.push { cls:=.type "range",data:=.fields [.int lo t,.int hi u,.int 1 v].toArray}).objs.size:=by simpa using h
  subst e;exact g.qD (B9 _) (g.aE.fresh (B9 _))
def xa5(h:TA):TI:=λf H R=>h f H λg i=>∃j:Int,g=[.int j]/\-(2^62)<=j/\j<2^62/\R (KD 0 j.toNat) i
def xa4(h:TA):TI:=λf H R=>h f H λg k=>∃i j:Int,g=[.int i,.int j]/\(-(2^62)<=i/\i<2^62/\-(2^62)<=j/\j<2^62)/\R (KD i (j-i).toNat) k
def vd4{a:Expr}{g:TA}{p pos:Pos}(u:Gl X "range")(o:X.mg "range" = none)(x:PA X [a] g)(n:D1 [a] X.env=[(false,eval a X.env)]:=by rfl):PI X tg (.Call (.Name "range" p) [a] [] pos) (xa5 g):=by
 intro pins s i H R I h
 (apply Call_ (sE I u o Qb (K1 (bg (x pos pins s i H _ I h) ?_) n rfl));rintro B C ⟨A,E,y,l,f⟩)
 let#[j,e,f,m,q]:=f;subst e;cases l with
 | cons r k =>cases k;let#[t,rfl]:=r;exact call_range_1 (v21 y () () f m (by simpa using q))
def vd3{a b:Expr}{k:TA}{p pos:Pos}(C:Gl X "range")(B:X.mg "range" = none)(E:PA X [a,b] k)(A:D1 [a,b] X.env=[(false,eval a X.env),(false,eval b X.env)]:=by rfl)(l:D1 [b] X.env=[(false,eval b X.env)]:=by rfl):
  PI X tg (.Call (.Name "range" p) [a,b] [] pos) (xa4 k):=by
 intro pins s m H R I h;apply Call_ (sE I C B Qb (K1 (bg (E pos pins s m H _ I h) λL N ⟨J,O,G,n,g⟩=>?_) (by rw[A,l]) (by rw[l];rfl)));let#[i,j,e,#[g,y,x,u],q]:=g;subst e;cases n with
 | cons r f =>
  cases f with
  | cons o f =>cases f;let#[t,rfl]:=r;let#[M,rfl]:=o;exact call_range_2 (v21 G g y x u q)
def GL(n:TI)(g:TG)(tb:TS):TS:=λD f H=>n f H λJ p=>∃W:Nat->Nat->St->Hp->Prop,(∃m,W 0 m f p)/\∀i m f H,W i m f H ->
 (J.stop i H/\D.nx f H)\/(J.go i H/\∃N:St->Hp->Prop,(∀h j,N h j->∃l,l<m/\W (i+1) l h j)/\∀x j,J.qO i H x j->g x f j λk o=>tb { D with nx:=N,ct:=N,bk:=D.nx} k o)
def FT(f:List Addr)(h:Heap):List (Addr×Obj):=f.filterMap λb=>(h.get? b).map λo=>(b,o)
def Ot{f:List Addr}{h:Heap}{b:Addr}{o:Obj}(g:b∈f)(e:h.get? b=some o):(b,o)∈FT f h:=B81.mpr #[b,g,by rw[e];rfl]
def ve3(f:p∈FT i h):p.1∈i/\h.get? p.1=some p.2:=by
 let#[b,g,e]:=B81.mp f;cases q:h.get? b with
 | none=>rw[q] at e;cases e
 | some o =>rw[q] at e;have j:(b,o)=p:=E1 e;subst j;exact#[g,q]
def Inv.pinned{pins:List (Addr×Obj)}{g:St}{H:Hp}{s:Shared}{f:List Addr}(I:Inv X pins g H s)(l:∀b∈f,iN X pins H b)(k:∀b∈f,∃o,s.heap.get? b=some o/\∀v,o.data≠.cell v):Inv X (pins++FT f s.heap) g H s:=I.qY λp j=>(E9.mp j).elim (λz=>I.pin p (M7 _ z)) λz=>by let#[h,e]:=ve3 z;let#[m,f1,f2,_]:=l p.1 h;let#[o,i,d]:=k p.1 h;rw[e] at i;cases i;exact#[e,m,f1,f2,d]
def Inv.gG{pins pl:List (Addr×Obj)}{f:St}{H:Hp}{s:Shared}(I:Inv X (pins++pl) f H s):Inv X pins f H s:=I.qY λp g=>I.pin p (M7 _ (QP _ g))
def ww5{iter:Expr}{body:List Stmt}{wi:TI}{g:TG}{tb:TS}{pos:Pos}(E:Qk (model X.prog X.w) X.A X.env X.xe)(hc:X.calm=true)(hi:PI X tg iter wi)(hg:PG X tg g)(p:pJ X body tb) (hs:∀x,X4 iter X.env x=pure x:=by intro _;rfl):PS X (.For tg iter body [] pos) (GL wi g tb):=by
 intro pins s Z H D I h;apply wpAny_For (bg (hi pins s Z H _ I h) λv s1 h1=>bg h1 λOT s2 h2=>?_) hs;let#[it,L,tn,J,H2,e,I2,T,my,f2,W,#[m0,w0],turn]:=h2;subst e;have R:∀{y:Hp},(∀b∈L,y b=none)->∀b∈L,iN X pins y b:=λhn b p=>#[hn b p,(f2 b p).2];apply codeAny_forLoop_any (λn s'=>∃i l y,Inv X pins l y s'/\tn i s'.heap/\(∀b∈L,y b=none)/\W i n l y) ?_ m0 #[0,Z,H2,I2,my,λb p=>(f2 b p).1,w0];rintro n s3 ⟨i,k,M,I3,Oy,G,w3⟩;rcases turn i n k M w3 with⟨stop,qn⟩|⟨go,N,hN,step⟩
 ·(apply W6 E (bg (T.done X rfl rfl rfl hc i pins s3 k M X.xe I3 (R G) Oy stop) ?_);rintro r s4 ⟨S,I4⟩)
  subst S;exact Qx ⟨k,M,I4,qn⟩
 ·(apply W6 E (bg (T.item X rfl rfl rfl hc i pins s3 k M X.xe I3 (R G) Oy go) ?_);rintro r s4 ⟨u,S,h4⟩)
  subst S
  (apply W6 E (bg h4 ?_);rintro _ s5 ⟨x,H5,I5,r5,y5,Y,Pu⟩)
  have U:=I5.pinned (R Pu) (T.obj _ _ Y)
  (apply W6 E (bg (hg _ s5 k H5 x u _ U r5 (step x H5 y5)) ?_);rintro _ s6 ⟨O,H6,I6,q6⟩)
  apply W6 E (bg (p _ s6 O H6 _ I6 q6) λf Q B=>?_);have again:∀{j:St} {t:Hp},Inv X (pins++FT L s5.heap) j t Q->N j t->∃m,m<n/\∃i l y,Inv X pins l y Q/\tn i Q.heap/\(∀b∈L,y b=none)/\W i m l y:=λ{j t} q C=>by let#[m',hm,w7]:=hN j t C;apply#[m',hm,i+1,j,t,q.gG,T.keep _ _ _ Y λb p o e=>(q.pin (b,o) (M7 _ (M7 _ (Ot p e)))).1,λb p=>?_,w7];let#[o,e,d]:=T.obj _ _ Y b p;exact(q.pin (b,o) (M7 _ (M7 _ (Ot p e)))).2.1
  cases f with
  | next=>let#[j,t,q,C]:=B;exact again q C| cont=>let#[j,t,q,C]:=B;exact again q C| brk=>let#[j,t,q,B]:=B;exact#[j,t,q.gG,B]| ret v=>let#[x7,j,t,q,r7,B]:=B;exact#[x7,j,t,q.gG,r7,B]
end
abbrev R2:=V->V->Hp->VK->Prop
def dg(X:Cx)(f:Value->Value->Sem Value)(r:R2):Prop:=
 ∀(pins:List (Addr×Obj)) (s:Shared) (g:St) (H:Hp) (x y:V) (v u:Value) (Q:VK),Inv X pins g H s->RelV x v->RelV y u->r x y H Q ->
  wpAny (model X.prog X.w) X.A (f v u) (EP X pins g Q) X.xe s
def zg(X:Cx)(f:Value->Sem Value)(r:V->Hp->VK->Prop):Prop:=
 ∀(pins:List (Addr×Obj)) (s:Shared) (g:St) (H:Hp) (x:V) (v:Value) (Q:VK),Inv X pins g H s->RelV x v->r x H Q ->
  wpAny (model X.prog X.w) X.A (f v) (EP X pins g Q) X.xe s
def bK(X:Cx)(f:Value)(r:List V->Hp->VK->Prop):Prop:=
 ∀(pins:List (Addr×Obj)) (s:Shared) (g:St) (H:Hp) (xs:List V) (h:List Value) (Q:VK),Inv X pins g H s->Vals xs h->r xs H Q ->
  wpAny (model X.prog X.w) X.A (call f h) (EP X pins g Q) X.xe s
def GH(r:R2)(g tb:TE):TE:=λf H Q=>g f H λx i=>tb f i λy h=>r x y h Q
def tUn(r:V->Hp->VK->Prop)(g:TE):TE:=λf H Q=>g f H λx h=>r x h Q
def rI(C:Int->Int->Prop)(g:Int->Int->V):R2:=λx y H Q=>∃i j,x=.int i/\y=.int j/\C i j/\Q (g i j) H
def ql(g:Int->Int->V):R2:=λx y H Q=>∃i j,x=.int i/\y=.int j/\Q (g i j) H
def rU(g:Int->V):V->Hp->VK->Prop:=λx H Q=>∃i,x=.int i/\Q (g i) H
section
variable{X:Cx}{a b c:Expr}{ta tb tc:TE}{pos:Pos}
def Df(C:PE X a ta)(B:PE X b tb){pins:List (Addr×Obj)}{s:Shared}{g:St}{H:Hp}{R:V->V->Hp->Prop}(I:Inv X pins g H s) (h:ta g H λx m=>tb g m λy i=>R x y i) {Q:Value->Shared->Prop} {f:Value->Value->Sem Value} (t:∀v u l x y i,Inv X pins g i l->RelV x v->RelV y u->R x y i->wpAny (model X.prog X.w) X.A (f v u) Q X.xe l): wpAny (model X.prog X.w) X.A (eval a X.env) (λv k=>wpAny (model X.prog X.w) X.A (eval b X.env) (λu j=>wpAny (model X.prog X.w) X.A (f v u) Q X.xe j) X.xe k) X.xe s:=by
 (apply bg (C pins s g H _ I h) ?_;rintro v n ⟨x,m,G,p,r⟩)
 (apply bg (B pins n g m _ G r) ?_;rintro u l ⟨y,i,E,o,q⟩)
 exact t v u l x y i E p o q
def xj3{op:Operator}{r:R2}(k:dg X (N0 op) r)(m:PE X a ta)(l:PE X b tb):PE X (.BinOp a op b pos) (GH r ta tb):=by intro pins s f H Q I h;exact wpAny_BinOp (Df m l I h λv u g x y o n j i q=>k pins g f o x y v u Q n j i q)
def xj1{op:UnaryOp}{r:V->Hp->VK->Prop}(k:zg X (EX op) r)(l:PE X a ta):PE X (.UnaryOp op a pos) (tUn r ta):=by
 intro pins s f H Q I h
 (apply UnaryOp_ (bg (l pins s f H _ I h) ?_);rintro v g ⟨x,n,m,i,j⟩;exact k pins g f n x v Q m i j)
def Eo{f:Value->Value->Sem Value}{C:Int->Int->Prop}{g:Int->Int->Int} (rule:∀(i j:Int) (t u:Tok) (s:Shared) (Q:Value->Shared->Prop) (E:Value->Shared->Prop),C i j->Q (.int (g i j) s.toks) { s with toks:=s.toks+1}->wpAny (model X.prog X.w) X.A (f (.int i t) (.int j u)) Q E s): dg X f (rI C λi j=>.int (g i j)):=by
 intro pins s o H x y v u Q I m l h;let#[i,j,rfl,rfl,n,q]:=h;let#[t,rfl]:=m;let#[k,rfl]:=l;exact rule i j t k s _ _ n #[.int (g i j),H,I.tok _,#[_,rfl],q]
def qo{f:Value->Value->Sem Value}{g:Int->Int->Int} (rule:∀(i j:Int) (t u:Tok) (s:Shared) (Q:Value->Shared->Prop) (E:Value->Shared->Prop),Q (.int (g i j) s.toks) { s with toks:=s.toks+1}->wpAny (model X.prog X.w) X.A (f (.int i t) (.int j u)) Q E s): dg X f (ql λi j=>.int (g i j)):=by
 intro pins s n H x y v u Q I m l h;let#[i,j,rfl,rfl,q]:=h;let#[t,rfl]:=m;let#[k,rfl]:=l;exact rule i j t k s _ _ #[.int (g i j),H,I.tok _,#[_,rfl],q]
def yy{f:Value->Value->Sem Value}{g:Int->Int->Bool} (rule:∀(i j:Int) (t u:Tok) (s:Shared) (Q:Value->Shared->Prop) (E:Value->Shared->Prop),Q (.bool (g i j)) s->wpAny (model X.prog X.w) X.A (f (.int i t) (.int j u)) Q E s): dg X f (ql λi j=>.bl (g i j)):=by
 intro pins s n H x y v u Q I m l h;let#[i,j,rfl,rfl,q]:=h;let#[t,rfl]:=m;let#[k,rfl]:=l;exact rule i j t k s _ _ #[.bl (g i j),H,I,rfl,q]
def zo(i j:Int):Prop:=0<j/\j<1073741824
def kj(i j:Int):Prop:=0<=j/\j<=1000000/\i.natAbs<2^64
def jb(i j:Int):Prop:=(-(2^64)<i/\i<2^64)\/(-(2^64)<j/\j<2^64)
def jb.ok(h:jb i j):IntMulOk i j:=by
 rcases h with⟨g,f⟩|⟨g,f⟩
 .exact .of_left (intBits_le_64 g f)
 .exact .of_right (intBits_le_64 g f)
def v58(k:Nat):(0:Int)<=2^k:=by rw[two_pow_cast];exact QJ _
def BN:dg X (N0 .Add) (ql λi j=>.int (i+j)):=qo λ_ _ _ _ _ _ _ q=>add_int q
def wy5:dg X (N0 .Sub) (ql λi j=>.int (i-j)):=qo λ_ _ _ _ _ _ _ q=>sub_int q
def BM:dg X (N0 .Mult) (rI jb λi j=>.int (i*j)):=Eo λ_ _ _ _ _ _ _ f q=>mul_int q f.ok
def wz1:dg X (N0 .Mod) (rI (λ_ j=>0<j) λi j=>.int (i%j)):=Eo λi j _ _ _ _ _ f q=>by have g:(0:Int)<j:=f;exact mod_int' () (by rw[A88 i ()];exact q)
def wy9:dg X (N0 .Pow) (rI kj λi j=>.int (i^j.toNat)):=Eo λ_ _ _ _ _ _ _ f q=>pow_int_small f.1 f.2.1 f.2.2 q
def wy7:dg X (N0 .LShift) (rI kj λi j=>.int (i*2^j.toNat)):=Eo λ_ _ _ _ _ _ _ f q=>lshift_int_small f.1 f.2.1 f.2.2 q
def wy6:dg X (N0 .RShift) (rI (λ_ j=>0<=j) λi j=>.int (i / 2^j.toNat)):=Eo λi j _ _ _ _ _ f q =>
 rshift_int f (by rw[A01 i (v58 _)];exact q)
def wz4:dg X (N0 .BitAnd) (ql λi j=>.int (P6 i j)):=qo λ_ _ _ _ _ _ _ q=>and_int q
def xj7:dg X (N0 .BitOr) (ql λi j=>.int (ML i j)):=qo λ_ _ _ _ _ _ _ q=>or_int q
def wy4:dg X (N0 .BitXor) (ql λi j=>.int (MM i j)):=qo λ_ _ _ _ _ _ _ q=>xor_int q
def wm2:dg X (zr .Add) (ql λi j=>.int (i+j)):=qo λ_ _ _ _ _ _ _ q=>iadd_int q
def wm1:dg X (zr .Sub) (ql λi j=>.int (i-j)):=qo λ_ _ _ _ _ _ _ q=>isub_int q
def unI{f:Value->Sem Value}{g:Int->Int} (rule:∀(i:Int) (t:Tok) (s:Shared) (Q:Value->Shared->Prop) (E:Value->Shared->Prop),Q (.int (g i) s.toks) { s with toks:=s.toks+1}->wpAny (model X.prog X.w) X.A (f (.int i t)) Q E s): zg X f (rU λi=>.int (g i)):=by
 intro pins s k H x v Q I j h;let#[i,rfl,q]:=h;let#[t,rfl]:=j;exact rule i t s _ _ #[.int (g i),H,I.tok _,#[_,rfl],q]
def ws8:zg X (EX .USub) (rU λi=>.int (-i)):=unI λ_ _ _ _ _ q=>neg_int q
def ws9:zg X (EX .Invert) (rU λi=>.int (O0 i)):=unI λ_ _ _ _ _ q=>invert_int q
end
def BI:V->V->Bool
 | .non,.non=>true|.non,.int _=>true|.int _,.non=>true|.non,.bl _=>true|.bl _,.non=>true|.non,.str _=>true|.str _,.non=>true| .int _,.int _=>true|.bl _,.bl _=>true|.str _,.str _=>true|.tW _,.tW _=>true| .int _,.str _=>true|.str _,.int _=>true|.bl _,.str _=>true|.str _,.bl _=>true| _,_=>false
def rEq:R2:=λx y H Q=>BI x y=true/\Q (.bl (decide (x=y))) H
def rNe:R2:=λx y H Q=>BI x y=true/\Q (.bl (!decide (x=y))) H
def vk4:decide (V.int i=V.int j)=(i==j):=by rw[U7];simp
def w46:decide (V.bl i=V.bl j)=(i==j):=by rw[U7];simp
def vk3:decide (V.str i=V.str j)=(i==j):=by rw[U7];simp
def vk5:decide (V.tW i=V.tW j)=(i.toList==j.toList):=by rw[U7];cases i;cases j;simp
section
variable{X:Cx}{a b c:Expr}{ta tb tc:TE}{pos:Pos}
def fM(I:Inv X pins f H s)(q:Q (.bl k) H)(e:k=g):EP X pins f Q (.bool g) s:=by subst e;exact#[.bl k,H,I,rfl,q]
def IU:dg X (L6 .Eq) rEq:=by
 intro pins s m H x y v u Q I l f h;let#[k,q]:=h;cases x with
 | non =>
  cases l;cases y with
  | non=>cases f;exact C48 (fM I q (by simp))
  | bl j=>cases f;exact C49 (fM I q (by simp))
  | int j=>let#[g,rfl]:=f;exact C62 (fM I q (by simp))| str j=>let#[g,rfl]:=f;exact C63 (fM I q (by simp))| _=>exact absurd (show false=true from k) C9
 | bl i =>
  cases l;cases y with
  | non=>cases f;exact C50 (fM I q (by simp))
  | bl j=>cases f;exact eq_bool (fM I q w46)
  | str j=>let#[g,rfl]:=f;exact C51 (fM I q (by simp))| _=>exact absurd (show false=true from k) C9
 | int i =>
  let#[t,rfl]:=l;cases y with
  | non=>cases f;exact C64 (fM I q (by simp))
  | int j=>let#[g,rfl]:=f;exact eq_int (fM I q vk4)| str j=>let#[g,rfl]:=f;exact C65 (fM I q (by simp))| _=>exact absurd (show false=true from k) C9
 | str i =>
  let#[t,rfl]:=l;cases y with
  | non=>cases f;exact C66 (fM I q (by simp))
  | bl j=>cases f;exact C52 (fM I q (by simp))
  | int j=>let#[g,rfl]:=f;exact C67 (fM I q (by simp))| str j=>let#[g,rfl]:=f;exact eq_str (fM I q vk3)| _=>exact absurd (show false=true from k) C9
 | tW i =>
  let#[t,rfl]:=l;cases y with
  | tW j=>let#[g,rfl]:=f;exact W.eq_bytes (fM I q vk5)| _=>exact absurd (show false=true from k) C9
 | _=>cases y <;> exact absurd (show false=true from k) C9
def IQ:dg X (L6 .NotEq) rNe:=by
 intro pins s m H x y v u Q I l f h;let#[k,q]:=h;cases x with
 | non =>
  cases l;cases y with
  | non=>cases f;exact C53 (fM I q (by simp))
  | bl j=>cases f;exact C54 (fM I q (by simp))
  | int j=>let#[g,rfl]:=f;exact C68 (fM I q (by simp))| str j=>let#[g,rfl]:=f;exact C69 (fM I q (by simp))| _=>exact absurd (show false=true from k) C9
 | bl i =>
  cases l;cases y with
  | non=>cases f;exact C55 (fM I q (by simp))
  | bl j=>cases f;exact ne_bool (fM I q (congrArg not w46))
  | str j=>let#[g,rfl]:=f;exact C56 (fM I q (by simp))| _=>exact absurd (show false=true from k) C9
 | int i =>
  let#[t,rfl]:=l;cases y with
  | non=>cases f;exact C70 (fM I q (by simp))
  | int j=>let#[g,rfl]:=f;exact ne_int (fM I q (congrArg not vk4))| str j=>let#[g,rfl]:=f;exact C71 (fM I q (by simp))| _=>exact absurd (show false=true from k) C9
 | str i =>
  let#[t,rfl]:=l;cases y with
  | non=>cases f;exact C72 (fM I q (by simp))
  | bl j=>cases f;exact C57 (fM I q (by simp))
  | int j=>let#[g,rfl]:=f;exact C73 (fM I q (by simp))| str j=>let#[g,rfl]:=f;exact ne_str (fM I q (congrArg not vk3))| _=>exact absurd (show false=true from k) C9
 | tW i =>
  let#[t,rfl]:=l;cases y with
  | tW j=>let#[g,rfl]:=f;exact W.ne_bytes (fM I q (congrArg not vk5))| _=>exact absurd (show false=true from k) C9
 | _=>cases y <;> exact absurd (show false=true from k) C9
def IS:dg X (L6 .Lt) (ql λi j=>.bl (decide (i<j))):=yy λ_ _ _ _ _ _ _ q=>lt_int q
def xj8:dg X (L6 .LtE) (ql λi j=>.bl (decide (i<=j))):=yy λ_ _ _ _ _ _ _ q=>le_int q
def xj9:dg X (L6 .Gt) (ql λi j=>.bl (decide (j<i))):=yy λ_ _ _ _ _ _ _ q=>gt_int q
def xk0:dg X (L6 .GtE) (ql λi j=>.bl (decide (j<=i))):=yy λ_ _ _ _ _ _ _ q=>ge_int q
def vd9:dg X (L6 .Lt) (λx y H Q=>∃i j,x=.str i/\y=.str j/\Q (.bl (decide (i.cps.toList<j.cps.toList))) H):=by intro pins s k H x y v u Q I g f h;let#[i,j,rfl,rfl,q]:=h;let#[t,rfl]:=g;let#[l,rfl]:=f;exact lt_str (fM I q rfl)
def yx:dg X (L6 .IsNot) (λx y H Q=>y=.non/\Q (.bl (!decide (x=.non))) H):=by
 intro pins s i H x y v u Q I f g h;let#[rfl,q]:=h;cases g;apply isnot_none_gen (fM I q ?_);cases x <;> first
  | (cases f;rfl)
  | (let#[t,rfl]:=f;rfl)
def dg.or{f:Value->Value->Sem Value}{r r':R2}(h:dg X f r)(h':dg X f r'):dg X f (λx y H Q=>r x y H Q\/r' x y H Q):=by
 intro pins s g H x y v u Q I j i q;rcases q with q|q
 .exact h pins s g H x y v u Q I j i q
 .exact h' pins s g H x y v u Q I j i q
def ah(b:Expr)(h:op≠.In:=by decide)(f:op≠.NotIn:=by decide):Fh op b=false:=by
 have i:(op==CmpOp.In)=false:=by cases op <;> first|rfl|exact absurd rfl h
 have g:(op==CmpOp.NotIn)=false:=by cases op <;> first|rfl|exact absurd rfl f
 cases b <;> simp[Fh,i,g]
def wi4(k:dg X (L6 op) r)(n:PE X a ta)(m:PE X b tb)(l:Fh op b=false):PE X (.Compare a [op] [b] pos) (GH r ta tb):=by intro pins s f H Q I h;exact wpAny_Compare1 (Df n m I h λv u g x y p o j i q=>k pins g f p x y v u Q o j i q) l
def wt2(t:TE):TT:=λf H Q=>t f H λx g=>∃k,x=.bl k/\Q k g
def wg4{op:CmpOp}{r:R2}(q:dg X (L6 op) r)(B:PE X a ta)(A:PE X b tb)(t:Fh op b=false):PT X (.Compare a [op] [b] pos) (wt2 (GH r ta tb)):=by
 intro pins s f H Q I h;apply wpAny_isTrue_Compare1 (bg (B pins s f H _ I h) λv i ⟨x,L,E,m,p⟩=>bg (A pins i f L _ E p) λu g ⟨y,J,C,l,o⟩ =>
  bg (q pins g f J x y v u _ C m l o) λc M ⟨z,G,I3,j,k,e,n⟩=>?_) t
 subst e;cases j;exact R0 #[G,I3,n]
def vy2(r r':R2)(ta tb tc:TE):TE:=λf H Q=>ta f H λx l=>tb f l λy j=>r x y j λz g=>∃k,z=.bl k /\
 (if k=true then tc f g λh i=>r' y h i Q else Q (.bl false) g)
def vp4{op g:CmpOp}{r r':R2}(R:dg X (L6 op) r)(O:dg X (L6 g) r')(Z:PE X a ta)(Y:PE X b tb)(U:PE X c tc) (S:lastMarks [op,g] [b,c]=false:=by with_unfolding_all rfl):PT X (.Compare a [op,g] [b,c] pos) (wt2 (vy2 r r' ta tb tc)):=by
 intro pins s f H Q I h;apply isTrue_chain (bg (Z pins s f H _ I h) λv t ⟨x,H1,I1,E,M⟩=>test_link (bg (Y pins t f H1 _ I1 M) λu q ⟨y,H2,I2,i,L⟩ =>
  bg (R pins q f H2 x y v u _ I2 E i L) λd p ⟨z,l,I3,C,k,e,j⟩=>?_)) S
 subst e;cases C;apply R0 ?_;cases k with
 | false =>let#[k',e',N]:=j;cases e';exact ite_ff #[l,I3,N]
 | true =>
  (apply ite_tt (test_last (bg (U pins p f l _ I3 j) ?_));rintro n o ⟨m,H4,I4,B,J⟩;apply bg (O pins o f H4 y m u n _ I4 i B J) ?_;rintro d' s5 ⟨z2,H5,I5,A,k2,e2,G⟩)
  subst e2;cases A;exact R0 #[H5,I5,G]
def iF:(sizeLine:Nat)<2^63:=by rw[ZG];decide
def qm:dg X (N0 .Add) (λx y H Q=>∃i j,x=.str i/\y=.str j/\i.length+j.length<=sizeLine/\Q (.str (i++j)) H):=by intro pins s m H x y v u Q I k g h;let#[i,j,rfl,rfl,l,q]:=h;let#[t,rfl]:=k;let#[f,rfl]:=g;exact add_str (λf n=>#[.str (i++j),H,I.tok _,#[_,rfl],q]) l
def vals1(r:Vals [x] us):∃u,us=[u]/\RelV x u:=by
 cases r with
 | cons g f=>cases f;exact#[_,rfl,g]
def vals2(r:Vals [x,y] us):∃u f,us=[u,f]/\RelV x u/\RelV y f:=by
 cases r with
 | cons j i =>
  cases i with
  | cons h g=>cases g;exact#[_,_,rfl,j,h]
def vw4:bK X (.builtin "abs") (λxs H Q=>∃i,xs=[.int i]/\Q (.int (if i<0 then -i else i)) H):=by intro pins s f H xs g Q I r h;let#[i,rfl,q]:=h;let#[u,rfl,t,rfl]:=vals1 r;exact call_abs_int λu j=>#[.int (if i<0 then -i else i),H,I.tok _,#[_,rfl],q]
def vl9(g:X.calm=true):bK X (.builtin "min") (λxs H Q=>∃i j,xs=[.int i,.int j]/\Q (.int (if j<i then j else i)) H):=by
 intro pins s l H xs n Q I r h;let#[i,j,rfl,q]:=h;let#[u,m,rfl,#[t,rfl],#[p,rfl]]:=vals2 r;apply min_two_ints (I.ok.hd g) λx o k=>#[_,H,I.kept k,?_,q];by_cases f:j<i
 .rw[if_pos f,if_pos f];exact#[_,rfl]
 .rw[if_neg f,if_neg f];exact#[_,rfl]
def vm2:bK X (.type "int") (λxs H Q=>(∃i,xs=[.int i]/\Q (.int i) H)\/∃k,xs=[.bl k]/\Q (.int (if k then 1 else 0)) H):=by
 intro pins s g H xs j Q I r h;rcases h with⟨i,rfl,q⟩|⟨k,rfl,q⟩
 .let#[u,rfl,t,rfl]:=vals1 r;exact call_int_int #[.int i,H,I,#[_,rfl],q]
 .let#[u,rfl,f]:=vals1 r;cases f;exact call_int_bool #[.int (if k then 1 else 0),H,I.tok _,#[_,rfl],q]
def uz5:bK X (.builtin "divmod") (λxs H Q=>∃i j,xs=[.int i,.int j]/\zo i j/\∀p,H p=none->Q (.ref p) (upd H p (.tup [.int (i / j),.int (i%j)]))):=by intro pins s g H xs l Q I r h;let#[i,j,rfl,#[x,n],q]:=h;let#[u,k,rfl,#[t,rfl],#[m,rfl]]:=vals2 r;apply divmod_int () ?_ (.inl (PyProof.noPylong_small ()));rw[A01 i (),A88 i ()];have f:H s.heap.objs.size=none:=I.aE.fresh (B9 _);apply#[.ref s.heap.objs.size,_,?_,rfl,q _ f];apply I.laid (λb o e=>B8 _ e) (B9 _) #[by simp only[C1,W0];rw[ZG];decide,[.int (i / j) s.toks,.int (i%j) (s.toks+1)],.cons #[_,rfl] (.cons #[_,rfl] .nil),?_];exact#[_,E4 s.heap rfl,rfl,#[0,rfl],rfl]
end
structure qM(h:Heap)(x dx C:Addr)(mA:Str->Option Value):Prop where
 obj:h.get? x=some (W.instObj C dx)
 ns:h.Ns1 dx mA
 ne:dx≠x
def vg9{h:Heap}(n:h.Ns1 p g):∃od,h.get? p=some od/\∀name,W.lookIn name od=some (g name):=by
 let#[o,f,x,j,m,l,_,k]:=n;apply#[o,j,λname=>?_];have e:=k name;unfold nsFind findBy at e;rw[<- Array.find?_toList] at e;unfold W.lookIn;rw[m];dsimp only;split
 .rename_i y q;rw[q] at e;exact congrArg some e
 .rename_i q;rw[q] at e;have a:f.toList.any (·.refKey)=false:=by rw[QG];intro y i;let#[z,t,u]:=l y (Array.mem_toList_iff.mp i);simp[D31,u]
  have r:¬ f.toList.any (·.refKey)=true:=by rw[a];exact C9
  rw[if_neg r];exact congrArg some e
def qM.look(I:qM h x j C f):∃od,W.InstAt h x (W.instObj C j) C (some od)/\∀name,W.lookIn name od=some (f name):=
 let ⟨od,g,i⟩:=vg9 I.ns
 #[od,#[I.obj,rfl,rfl,g],i]
section
variable{prog:Program}{w:World}{A:Around}{E:Value->Shared->Prop}{s:Shared}{K:W.Frag}{x dx C f:Addr}{mA:Str->Option Value}{name:Str}{v:Value}
def wm4(X:K.In s.heap)(I:qM s.heap x dx C mA)(k:W.plainGet K C name=true)(hh:W.hasDictIn K C=true) (l:W.findIn K (.ref C) name=some none) (i:mA name=some v) (g:W.handedIn v=true) (h:Q v { s with toks:=s.toks+1}): wpAny (model prog w) A (getAttr (.ref x) name expr) Q E s:=by
 let#[od,J,j]:=I.look;exact W.get_value X J (W.plainGet_of k).1 (W.findObj_own hh l rfl (by rw[j,i])) g h
def vu8(X:K.In s.heap)(I:qM s.heap x dx C mA)(g:W.plainGet K C name=true) (l:W.findIn K (.ref C) name=some (some (.ref f))) (j:W.isFn K (.ref f)=true) (i:mA name=none) (h:Q (.ref f,[.ref x]) s): wpAny (model prog w) A (A_ (.ref x) name pl) Q E s:=by
 let#[od,J,k]:=I.look;exact W.method_fn X J (W.plainGet_of g).1 (W.plainGet_of g).2 l (beq_iff_eq.mp j) (by show(W.lookIn name od).map (·.isSome)=some false;rw[k,i];rfl) h
def w76(X:K.In s.heap)(I:qM s.heap x dx C mA) (o:W.findIn K (.ref C) "__setattr__" = some (some (.builtin "object.__setattr__"))) (p:W.plainOver K C=true) (n:W.takerIn K C name=some none) (hh:W.hasDictIn K C=true) (hw:ZS mA ns) (hsz:ns.length<=sizeLine) (h:∀h',qM h' x dx C (λy=>if y=name then some v else mA y)->U9 dx s.heap h'->Q #[] { s with heap:=h',toks:=s.toks+2}): wpAny (model prog w) A (setAttr (.ref x) name v) Q E s:=by
 let#[od,J,G]:=I.look;apply W.set_plain X J o (W.osa_open (s:={ s with toks:=s.toks+1}) (r:=none) X J p n λb=>?_);let#[cd,q,l]:=W.any_some hh;have m:s.heap.get? x=some #[.ref C,some dx,.plain,[].toArray]:=I.obj;apply B5 (C4 (B5 (B5 (wpAny_loadPart m (B5 (W.Looks.here (s:={ s with toks:=s.toks+1}) (W.looks_clsIn X q) ?_))))));rw[l];apply C4 (a:=some dx) (B5 (C4 (B5 ?_)));apply wpAny_nsSet1 (s:={ s with toks:=s.toks+1}) I.ns λh' j k=>?_;let#[B,t,u,g,hdD,i]:=j.count (D24 name v hw);apply B5 (wpAny_lookBehind g (by rw[hdD];exact pastItsLine_dict (D5 i (by rw[C1];omega))) ?_);exact C4 (h _ #[(k.2 _ (D3 I.ne)).trans I.obj,j,I.ne] k)
def vs0(X:K.In s.heap)(i:W.makesIn K C=true) (hi:W.findIn K (.ref C) "__init__" = some (some (.ref f))) (j:W.typeIn K (.ref f)=some (.type "function")) (h:tD (model prog w) (A.under (.builtin "type.__call__" #[.ref C::vs,kw])) (.call (.ref f) #[.ref (s.heap.objs.size+1)::vs,kw]) (W.InitBack (s.heap.objs.size+1) R) { s with heap:=(s.heap.push W.emptyDict).push (W.instObj C s.heap.objs.size)}): tD (model prog w) A (.call (.ref C) #[vs,kw]) R s:=by
 let#[k,g,d,t,os]:=s;exact W.make_core (W.makes_of X i) (W.looks_findIn X hi) (λself=>W.bind_fn X self j) (.inl rfl) h
end
def cX(f:Str)(v:V):List (Str×V)->List (Str×V)
 | []=>[(f,v)]| (g,x)::r=>if g=f then(g,v)::r else(g,x)::cX f v r
theorem uj1(f g:Str)(v:V):∀l:List (Str×V),(cX f v l).lookup g=if g=f then some v else l.lookup g
 | []=>by
  show K0 g [(f,v)]=_;by_cases h:g=f
  .have i:(g==f)=true:=beq_iff_eq.mpr h;simp only[K0,i,if_pos h]
  .have i:(g==f)=false:=beq_eq_false_iff_ne.mpr h;simp only[K0,i,if_neg h]
 | (k,x)::r=>by
  have m:=uj1 f g v r;rw[show cX f v ((k,x)::r)=(if k=f then(k,v)::r else(k,x)::cX f v r) from rfl];by_cases j:k=f
  .rw[if_pos j];by_cases h:g=k
   .have i:(g==k)=true:=beq_iff_eq.mpr h;simp only[K0,i,if_pos (h.trans j)]
   .have i:(g==k)=false:=beq_eq_false_iff_ne.mpr h;simp only[K0,i,if_neg (λe:g=f=>h (e.trans j.symm))]
  .rw[if_neg j];by_cases h:g=k
   .have i:(g==k)=true:=beq_iff_eq.mpr h;simp only[K0,i,if_neg (λe:g=f=>j (h.symm.trans e))]
   .have i:(g==k)=false:=beq_eq_false_iff_ne.mpr h;simp only[K0,i];exact m
theorem VI(f:Str)(v:V):∀j:List (Str×V),f∈(cX f v j).map (·.1)/\∀g,g∈j.map (·.1)->g∈(cX f v j).map (·.1)
 | []=>#[by simp[cX],λg h=>by simp at h]| (k,x)::r=>by
  let#[m,l]:=VI f v r;rw[show cX f v ((k,x)::r)=(if k=f then(k,v)::r else(k,x)::cX f v r) from rfl];by_cases i:k=f
  .rw[if_pos i];subst i;exact#[by simp,λg h=>by simpa using h]
  .rw[if_neg i];apply#[?_,λg h=>?_]
   .rw[C0];exact C2 _ m
   .rw[C0] at h⊢;rcases D7.mp h with e|e
    .exact D7.mpr (.inl e)
    .exact C2 _ (l g e)
theorem uj4(f:Str)(v:V):∀h:List (Str×V),(cX f v h).length<=h.length+1
 | []=>by simp[cX]| (k,x)::r=>by
  have i:=uj4 f v r;rw[show cX f v ((k,x)::r)=(if k=f then(k,v)::r else(k,x)::cX f v r) from rfl];by_cases g:k=f
  .rw[if_pos g,C1,C1];omega
  .rw[if_neg g,C1,C1];omega
def dQ.some_of(r:dQ (some v) o):∃u,o=some u/\RelV v u:=by
 cases o with
 | none=>exact(show False from r).elim| some u=>exact#[u,rfl,r]
def dQ.none_of(r:dQ none o):o=none:=by
 cases o with
 | none=>rfl| some u=>exact(show False from r).elim
def vi7(r:RelV v u):W.handedIn u=true:=by
 cases v with
 | non=>cases(show u=X7 from r);rfl
 | bl b=>cases(show u=Qd b from r);rfl
 | int i=>let#[t,e]:=(show∃t,u=E' i t from r);cases e;rfl
 | str x=>let#[t,e]:=(show∃t,u=E_ x t from r);cases e;rfl
 | tW b=>let#[t,e]:=(show∃t,u=C93 b t from r);cases e;rfl
 | xx b=>let#[t,e]:=(show∃t,u=ZK b t from r);cases e;rfl
 | ref a=>cases(show u=F0 a from r);rfl
 | ty n=>cases(show u=D19 n from r);rfl
section
variable{P:Program}{w:World}{H H':Hp}{h h':Heap}{a C dx:Addr}{fs ft:List (Str×V)}
def NH(j:gB P w H h)(e:H a=some (.ins C dx fs)):∃g,qM h a dx C g/\(∀f,dQ (fs.lookup f) (g f))/\ZS g (fs.map (·.1))/\fs.length<=1000/\H dx=some (.own a):=by let#[d,z,ne,i,g,n,r,q]:=(show bu P w H h a (.ins C dx fs) from j a _ e);exact#[g,#[i,n,ne],r,q,z,d]
end
structure jN(K:W.Frag)(C:Addr):Prop where
 pg:W.plainGet K C U0=true
 hd:W.hasDictIn K C=true
 po:W.plainOver K C=true
 sa:W.findIn K (.ref C) "__setattr__" = some (some (.builtin "object.__setattr__"))
def jN.get{K:W.Frag}{C:Addr}(c:jN K C)(f:Str):W.plainGet K C f=true:=c.pg
def bI(K:W.Frag)(C:Addr)(f:Str):Prop:=W.findIn K (.ref C) f=some none
def bI.GB{K:W.Frag}{C:Addr}{f:Str}(n:bI K C f):W.takerIn K C f=some none:=by unfold W.takerIn;rw[show W.findIn K (.ref C) f=some none from n];rfl
structure Meth(K:W.Frag)(C:Addr)(m:Str)(f:Addr):Prop where
 at_:W.findIn K (.ref C) m=some (some (.ref f))
 fn:W.isFn K (.ref f)=true
 kp:W.keepIn K (.ref f)=true
section
variable{X:Cx}{pins:List (Addr×Obj)}{σ:St}{H:Hp}{s:Shared}{a C dx:Addr}{fs:List (Str×V)}{f:Str}{v:V}{A:Around}{E:Value->Shared->Prop}
def um7{b:Bool}{Q:Value->Shared->Prop}(I:Inv X pins σ H s)(e:H a=some (.ins C dx fs))(c:jN X.K C)(n:bI X.K C f)(l:fs.lookup f=some v) (h:∀u g,Inv X pins σ H g->RelV v u->Q u g):wpAny (model X.prog X.w) A (getAttr (.ref a) f b) Q E s:=by
 let#[j,O,r,_,_,_]:=NH I.aE e;let#[u,k,i]:=dQ.some_of (v:=v) (o:=j f) (by rw[<- l];exact r f);exact wm4 I.i5 O (c.get f) c.hd n k (vi7 i) (h u _ (I.tok _) i)
def um6{m:Str}{g:Addr}{pl:Sem Bool}{Q:Value×List Value->Shared->Prop}(I:Inv X pins σ H s)(e:H a=some (.ins C dx fs))(c:jN X.K C)(k:Meth X.K C m g)(l:fs.lookup m=none) (h:Q (.ref g,[.ref a]) s):wpAny (model X.prog X.w) A (A_ (.ref a) m pl) Q E s:=by
 let#[i,O,r,_,_,_]:=NH I.aE e;have j:i m=none:=dQ.none_of (by rw[<- l];exact r m);exact vu8 I.i5 O (c.get m) k.at_ k.fn j h
def ul9{y:V}{u:Value}{Q:Unit->Shared->Prop}(I:Inv X pins σ H s)(e:H a=some (.ins C dx fs))(c:jN X.K C)(n:bI X.K C f)(R:fs.length<1000)(t:RelV y u) (h:∀k,Inv X pins σ (upd H a (.ins C dx (cX f y fs))) k->Q #[] k):wpAny (model X.prog X.w) A (setAttr (.ref a) f u) Q E s:=by
 let#[l,O,r,j,_,m]:=NH I.aE e;have B:(fs.map (·.1)).length<=sizeLine:=by rw[B0,ZG];omega
 apply w76 I.i5 O c.sa c.po n.GB c.hd j B λM i p=>h _ ?_;have J:∃o,M.get? dx=some o:=let ⟨o,_,_,N,_⟩:=i.ns;#[o,N];apply I.write (x:=a) (e:=dx) (by rw[e];exact Q3) (.inr m) (λb q L z=>(p.2 b L).trans z) J ?_;apply#[by rw[c_ O.ne];exact m,?_,O.ne,i.obj,_,i.ns,λg=>?_,λg G=>?_]
 .have:=uj4 f y fs;omega
 .show dQ ((cX f y fs).lookup g) (if g=f then some u else l g);rw[uj1];by_cases q:g=f
  .rw[if_pos q,if_pos q];exact t
  .rw[if_neg q,if_neg q];exact r g
 .by_cases q:g=f
  .rw[q];exact(VI f y fs).1
  .apply(VI f y fs).2 g (j g λz=>G ?_);show(if g=f then some u else l g)=none;rw[if_neg q];exact z
def Inv.made(I:Inv X pins σ H s):Inv X pins σ (upd (upd H s.heap.objs.size (.own (s.heap.objs.size+1))) (s.heap.objs.size+1) (.ins C s.heap.objs.size [])) { s with heap:=(s.heap.push W.emptyDict).push (W.instObj C s.heap.objs.size)}:=by
 have g:(s.heap.push W.emptyDict).get? s.heap.objs.size=some W.emptyDict:=E4 s.heap rfl;have l:((s.heap.push W.emptyDict).push (W.instObj C s.heap.objs.size)).get? (s.heap.objs.size+1)=some (W.instObj C s.heap.objs.size):=by have:=E4 (s.heap.push W.emptyDict) (o:=W.instObj C s.heap.objs.size) rfl;rwa[T8] at this
 have k:(s.heap.push W.emptyDict).Ns s.heap.objs.size (λ_=>none):=#[W.emptyDict,[].toArray,_,g,rfl,(λe j=>absurd j (by simp)),λ_=>rfl];have m:=I.laid (a:=s.heap.objs.size) (o:=.own (s.heap.objs.size+1)) (h':=s.heap.push W.emptyDict) (t':=s.toks) (λb u q=>B8 _ q) (B9 _) #[_,g];apply m.laid (a:=s.heap.objs.size+1) (o:=.ins C s.heap.objs.size []) (t':=s.toks) (λb u q=>B8 _ q) (C82 (T8 _ _)) ?_;have ne:s.heap.objs.size≠s.heap.objs.size+1:=J7 (S9 _);apply#[by rw[c_ ne,iq],J4 _,ne,l,λ_=>none,(Heap.Ns1.of_empty k).at λo q=>B8 _ q,λ_=>Q3,λy i=>absurd rfl i]
def wq1{prog:Program}{w:World}{env:Env}{e:Expr}{f:Str}{pos:Pos}{s:Shared}{Q:Value->Shared->Prop}(i:O2 e f env (eval e env)=eval e env) (h:wpAny (model prog w) A (eval e env) (λo g=>wpAny (model prog w) A (getAttr o f true) Q E g) E s):wpAny (model prog w) A (eval (.Attribute e f pos) env) Q E s:=Attribute_any_ h (by rw[arm_eval_Attribute,i])
end
def GN(K:W.Frag)(j:TE)(f:Str):TE:=λi H Q=>j i H λx h=>∃a C k g v,x=.ref a/\h a=some (.ins C k g)/\jN K C/\bI K C f/\g.lookup f=some v/\Q v h
def GW(K:W.Frag)(l k:TE)(f:Str):TS:=λD g H=>k g H λy m=>l g m λx j=>∃a C i h,x=.ref a/\j a=some (.ins C i h)/\jN K C/\bI K C f/\h.length<1000 /\
 D.nx g (upd j a (.ins C i (cX f y h)))
def Zn(X:Cx)(op:Operator)(rd:V->V->Hp->VK->Prop):Prop:=∀(pins:List (Addr×Obj)) (s:Shared) (f:St) (H:Hp) (x y:V) (u v:Value) (Q:VK),Inv X pins f H s->RelV x u->RelV y v->rd x y H Q->wpAny (model X.prog X.w) X.A (zr op u v) (EP X pins f Q) X.xe s
def vc2(K:W.Frag)(n m:TE)(rd:V->V->Hp->VK->Prop)(f:Str):TS:=λD g H=>n g H λx l=>∃a C o j v,x=.ref a/\l a=some (.ins C o j)/\jN K C/\bI K C f/\j.lookup f=some v /\
 m g l λy p=>rd v y p λz k=>∃i h,k a=some (.ins C i h)/\h.length<1000/\D.nx g (upd k a (.ins C i (cX f z h)))
section
variable{X:Cx}{o e value:Expr}{f:Str}{pos pos' pQ:Pos}{ta tv:TE}
def wx9(k:PE X e ta)(m:O2 e f X.env (eval e X.env)=eval e X.env):PE X (.Attribute e f pos) (GN X.K ta f):=by
 intro pins s g H Q I h
 (apply wq1 m (bg (k pins s g H _ I h) ?_);rintro u E ⟨x,y,t,i,a,C,J,G,v,ex,p,c,n,l,q⟩)
 subst ex;obtain rfl:u=F0 a:=i;exact um7 t p c n l λA B r j=>#[v,y,r,j,q]
def ww6(A:PE X o ta)(r:PE X value tv)(t:Y8 value (some (.Attribute o f pos')) pos.line X.env=pure false):PS X (.Assign [.Attribute o f pos'] value pos) (GW X.K ta tv f):=by
 intro pins s g H D I h
 (apply plainObj_wpAny_Assign_Attribute (bg (r pins s g H _ I h) ?_) t;rintro u i ⟨y,J,G,j,q⟩;apply bg (A pins i g J _ G q) ?_;rintro p M ⟨x,Q,E,k,a,C,O,N,ex,B,c,n,l,m⟩)
 subst ex;obtain rfl:p=F0 a:=k;exact ul9 E B c n l j λL I3=>#[g,_,I3,m]
def vc8{op:Operator}{rd:V->V->Hp->VK->Prop}(N:PE X o ta)(M:PE X value tv)(i:Zn X op rd):PS X (.AugAssign (.Attribute o f pQ) op value pos) (vc2 X.K ta tv rd f):=by
 intro pins s g H D I h
 (apply wpAny_AugAssign_AttributeAny (bg (N pins s g H _ I h) ?_);rintro J s1 ⟨x,Z,U,A,a,C,dx,fs,v,ex,O,c,n,l,q⟩)
 subst ex;obtain rfl:J=F0 a:=A;apply um7 U O c n l λu p S B=>bg (M pins p g Z _ S q) λk m ⟨y,Y,I3,t,G⟩=>bg (i pins m g Y v y u k _ I3 B t G) λw4 s4 ⟨z,H3,R,r,uT,ft,j,L,E⟩=>?_;exact ul9 R j c n L r λs5 Q=>#[g,_,Q,E]
end
section
variable{X:Cx}{pins:List (Addr×Obj)}{σ:St}{H:Hp}{s:Shared}{A:Around}{E:Value->Shared->Prop}{Q:Value->Shared->Prop}{c:Value}{b:Bool}
inductive i_(K:W.Frag)(H:Hp):V->Value->Prop where
 | non:i_ K H .non (.type "NoneType")
 | bl (x:Bool):i_ K H (.bl x) (.type "bool")
 | int (i:Int):i_ K H (.int i) (.type "int")
 | str (x:Str):i_ K H (.str x) (.type "str")
 | xx (x:UInt64):i_ K H (.xx x) (.type "float")
 | lst {a:Addr} {xs:List V} (e:H a=some (.lst xs)):i_ K H (.ref a) (.type "list")
 | dG {a:Addr} {o:Obj} {xs:List V} (e:H a=some (.dG o (.lst xs))):i_ K H (.ref a) (.type "list")
 | tup {a:Addr} {xs:List V} (e:H a=some (.tup xs)):i_ K H (.ref a) (.type "tuple")
 | dK {a:Addr} {kvs:List (Key×V)} (e:H a=some (.dK kvs)):i_ K H (.ref a) (.type "dict")
 | dT {a:Addr} {kvs:List (List Key×V)} (e:H a=some (.dT kvs)):i_ K H (.ref a) (.type "dict")
 | ins {a C h:Addr} {g:List (Str×V)} (e:H a=some (.ins C h g)) (m:jN K C) (l:W.findIn K (.ref C) "__class__" = some (some (.builtin "object.__class__")))
   (j:W.specialIn K (.builtin "object.__class__") "__get__" = some (some (.builtin "getset_descriptor.__get__"))) (f:W.takesIn K (.builtin "object.__class__")=some true)
   (k:W.mroIn K C (.type "object")=some true):i_ K H (.ref a) (.ref C)
def zI(I:Inv X pins σ H s)(f:RelV x u)(ty:i_ X.K H x t)(e:W.kitOne X.K t c=some b)(h:∀tk,Q (.bool b) { s with toks:=tk}): wpAny (model X.prog X.w) A (call (.builtin "isinstance") [u,c]) Q E s:=by
 cases ty with
 | non=>cases(show u=X7 from f);exact W.kia_one W.kitx_none I.i5 Q3 e (λz=>nomatch z) h
 | bl y=>cases(show u=Qd y from f);exact W.kia_one W.kitx_bool I.i5 Q3 e (λz=>nomatch z) h
 | int i=>let#[t,q]:=(show∃t,u=E' i t from f);cases q;exact W.kia_one W.kitx_int I.i5 Q3 e (λz=>nomatch z) h
 | str y=>let#[t,q]:=(show∃t,u=E_ y t from f);cases q;exact W.kia_one W.kitx_str I.i5 Q3 e (λz=>nomatch z) h
 | xx y=>let#[t,q]:=(show∃t,u=ZK y t from f);cases q;exact W.kia_one W.kitx_float I.i5 Q3 e (λz=>nomatch z) h
 | @lst a xs g =>cases(show u=F0 a from f);let#[_,_,n,_,j]:=(show bu X.prog X.w H s.heap a (.lst xs) from I.aE a _ g);exact W.kia_one W.kitx_list I.i5 #[_,j,rfl] e (λz=>nomatch z) h
 | @dG a r xs g =>cases(show u=F0 a from f);let#[_,_,_,n,_,j]:=(show bu X.prog X.w H s.heap a (.dG r (.lst xs)) from I.aE a _ g);exact W.kia_one W.kitx_list I.i5 #[_,j,rfl] e (λz=>nomatch z) h
 | @tup a xs g =>cases(show u=F0 a from f);let#[_,_,_,p]:=(show bu X.prog X.w H s.heap a (.tup xs) from I.aE a _ g);let#[o,j,k,_]:=p;exact W.kia_one W.kitx_tuple I.i5 #[o,j,k] e (λz=>nomatch z) h
 | @dK a kvs g =>cases(show u=F0 a from f);let#[_,_,R,_,p]:=(show bu X.prog X.w H s.heap a (.dK kvs) from I.aE a _ g);let#[o,M,N,j,k,_]:=p;exact W.kia_one W.kitx_dict I.i5 #[o,j,k.1] e (λz=>nomatch z) h
 | @dT a kvs g =>cases(show u=F0 a from f);let#[_,_,xs,_,o,M,N,j,k,_]:=(show bu X.prog X.w H s.heap a (.dT kvs) from I.aE a _ g);exact W.kia_one W.kitx_dict I.i5 #[o,j,k.1] e (λz=>nomatch z) h
 | @ins a C Y U g m L B l G =>cases(show u=F0 a from f);let#[S,O,_]:=NH I.aE g;let#[od,J,_]:=O.look;exact W.kia_one (W.kitx_own (m.get _) m.hd L B l G) I.i5 J e (λz=>nomatch z) h
end
structure aU(k:Nat)(A:Around):Prop where
 hd:A.handled=none
 dp:A.depth+3*k+5<recursionLimit
 un:A.units+16*k+200<cLine
def aU.mono(r:aU k A)(h:j<=k):aU j A:=#[r.hd,by have:=r.dp;omega,by have:=r.un;omega]
theorem aU.deeper(r:aU (k+1) A)(env:Env):aU k (A.deeper env):=#[r.hd,by have:=r.dp;show A.depth+1+3*k+5<_;omega,by have:=r.un;show A.units+3+16*k+200<_;omega]
theorem aU.in1(r:aU (k+1) A):aU k A.in1:=#[r.hd,by have:=r.dp;show A.depth+3*k+5<_;omega,by have:=r.un;show A.units+1+16*k+200<_;omega]
def v71{A:Around}:(A.under (.builtin "type.__call__" #[.ref C::us,kw])).depth=A.depth+1:=by first|rfl|simp[ZQ,Code.weight,Code.isCreation,Code.isGuard,Code.isCaller,C95,ZP,guardIds]
def v70{A:Around}:(A.under (.builtin "type.__call__" ⟨.ref C::us,kw⟩)).units=A.units+1:=by first|rfl|simp[ZQ,Code.cUnits,C95,ZP]
def aU.make(r:aU (k+1) A)(C:Addr)(us:List Value)(kw:List (Str×Value)):aU k (A.under (.builtin "type.__call__" ⟨.ref C::us,kw⟩)):=⟨r.hd,by have:=r.dp;rw[v71];omega,by have:=r.un;rw[v70];omega⟩
theorem aU.depth(r:aU k A):A.depth<recursionLimit:=by have:=r.dp;omega
theorem aU.units(r:aU k A):A.units+64<cLine:=by have:=r.un;omega
def yk:TA:=λ_ H Q=>Q [] H
def TL(h:TE)(g:TA):TA:=λf H Q=>h f H λx j=>g f j λxs i=>Q (x::xs) i
section
variable{X:Cx}{e:Expr}{es:List Expr}{te:TE}{t:TA}{pos:Pos}
def w26:PA X [] yk:=λ_ _ _ _ H Q I h=>U1 #[[],H,I,.nil,h]
def vd6(o:PE X e te)(n:PA X es t)(m:D1 (e::es) X.env=(false,eval e X.env)::D1 es X.env:=by rfl):PA X (e::es) (TL te t):=by
 intro pos pins s f H Q I h;rw[m];show wpAny _ _ (spliced ((false,eval e X.env)::backTo pos (D1 es X.env))) _ _ s
 (apply Q4 (bg (o pins s f H _ I h) ?_);rintro u g ⟨x,y,q,j,l⟩)
 (apply bg (n pos pins g f y _ q l) ?_;rintro A B ⟨xs,r,p,i,k⟩;exact#[x::xs,r,p,.cons j i,k])
def GC(t:TA):TE:=λg H Q=>t g H λxs f=>xs.length<=sizeLine/\∀p,f p=none->Q (.ref p) (upd f p (.tup xs))
def GJ(t:TA):TE:=λg H Q=>t g H λxs f=>xs.length<=sizeLine/\∀p,f p=none->Q (.ref p) (upd f p (.lst xs))
def wx3{k}(h:PA X es t):PE X (.Tuple es k pos) (GC t):=by intro pins s j H Q I m;apply wpAny_Tuple_spliced (bg (h pos pins s j H _ I m) λl f ⟨xs,i,g,r,z,q⟩=>#[by rw[<- r.length];exact z,?_]);have n:i f.heap.objs.size=none:=g.aE.fresh (B9 _);apply#[.ref f.heap.objs.size,upd i f.heap.objs.size (.tup xs),g.laid (t':=f.toks) (λb u e=>B8 _ e) (B9 _) ?_,rfl,q _ n];exact#[z,l,r,#[_,E4 _ rfl,rfl,#[_,rfl],rfl]]
def wx7(h:PA X es t):PE X (.List es pos) (GJ t):=by intro pins s j H Q I l;apply wpAny_List_spliced (bg (h pos pins s j H _ I l) λk f ⟨xs,i,g,r,z,q⟩=>#[by rw[<- r.length];exact z,?_]);have m:i f.heap.objs.size=none:=g.aE.fresh (B9 _);apply#[.ref f.heap.objs.size,upd i f.heap.objs.size (.lst xs),g.laid (t':=f.toks) (λb u e=>B8 _ e) (B9 _) ?_,rfl,q _ m];exact#[z,k,0,r,E4 _ rfl]
end
abbrev Sp:=List V->Hp->VK->XK->Prop
abbrev wO:=List Env->Hp->Shared->XK->Value->Shared->Prop
structure ki(P:Program)(w:World)(K:W.Frag)(mg:Str->Option Value)(base:Heap)(A:Around)(outer:List Env)(s:Shared)(H:Hp):Prop where
 frames:A.frames=some outer
 mod:Mod K mg base
 bs:∀b o,base.get? b=some o->s.heap.get? b=some o/\H b=none
 uX:base.objs.size<=s.heap.objs.size
 iL:s.heap.FunFrames base outer
 Aa:∀b∈sU outer,H b=none
 aE:gB P w H s.heap
 bare:zp s.gens
def CE(outer:List Env)(P:Program)(w:World)(H:Hp)(s:Shared)(Q:VK)(u:Value)(f:Shared):Prop:=∃v g,f.os=s.os/\zp f.gens/\Un (sU outer) [] H g s.heap f.heap/\gB P w g f.heap/\RelV v u/\Q v g
def CR(CX:wO)(outer:List Env)(P:Program)(w:World)(H:Hp)(s:Shared)(Q:VK)(E:XK)(r:Result)(f:Shared):Prop:=
 match r with
 | .ok (.ret u)=>CE outer P w H s Q u f| .ok _=>False| .error e=>CX outer H s E e f
structure bD(P:Program)(w:World)(K:W.Frag)(mg:Str->Option Value)(base:Heap)(CX:wO)(k:Nat)(f:Addr)(fd:xI)(ps:List Str)(sp:Sp):Prop where
 len:∀vs H Q E,sp vs H Q E->vs.length=ps.length
 run:∀(A:Around) (outer:List Env) (s:Shared) (H:Hp) (args:Args) (us:List Value) (vs:List V) (Q:VK) (E:XK),aU k A->ki P w K mg base A outer s H->Dq s fd args (ps.zip us)->Vals vs us->sp vs H Q E ->
  tD (model P w) A (.call (.ref f) args) (CR CX outer P w H s Q E) s
theorem bD.mono{P:Program}{w:World}{K:W.Frag}{mg:Str->Option Value}{base:Heap}{CX:wO}{j k:Nat}{f:Addr}{i:xI}{ps:List Str}{sp:Sp}(F:bD P w K mg base CX j f i ps sp)(h:j<=k): bD P w K mg base CX k f i ps sp:=#[F.len,λA g s H args m l Q E n=>F.run A g s H args m l Q E (n.mono h)]
def bD.imp{P:Program}{w:World}{K:W.Frag}{mg:Str->Option Value}{base:Heap}{CX:wO}{k:Nat}{f:Addr}{j:xI}{ps:List Str}{sp i:Sp}(F:bD P w K mg base CX k f j ps sp) (h:∀vs H Q E,i vs H Q E->sp vs H Q E):bD P w K mg base CX k f j ps i:=#[λvs H Q E q=>F.len vs H Q E (h _ _ _ _ q),λA g s H args l vs Q E o p r m n=>F.run A g s H args l vs Q E o p r m (h _ _ _ _ n)]
def ki.make{P:Program}{w:World}{K:W.Frag}{mg:Str->Option Value}{base:Heap}{A:Around}{outer:List Env}{s:Shared}{H:Hp}(e:ki P w K mg base A outer s H)(C:Addr)(us:List Value)(kw:List (Str×Value)): ki P w K mg base (A.under (.builtin "type.__call__" #[.ref C::us,kw])) outer s H:=#[by first|exact e.frames|(simpa[ZQ,Code.envs,ZP,pushEnvs] using e.frames),e.mod,e.bs,e.uX,e.iL,e.Aa,e.aE,e.bare]
theorem ki.in1{P:Program}{w:World}{K:W.Frag}{mg:Str->Option Value}{base:Heap}{A:Around}{outer:List Env}{s:Shared}{H:Hp}(e:ki P w K mg base A outer s H): ki P w K mg base A.in1 outer s H:=#[e.frames,e.mod,e.bs,e.uX,e.iL,e.Aa,e.aE,e.bare]
section
variable{X:Cx}{pins:List (Addr×Obj)}{σ:St}{H:Hp}{s s':Shared}
def Inv.Kf(I:Inv X pins σ H s):ki X.prog X.w X.K X.mg X.base X.A X.stack s H:=#[I.ok.frames,I.ok.mod,I.bs,D5 I.ok.uX I.sz,I.stack,I.qV,I.aE,I.bare]
def Inv.after(I:Inv X pins σ H s)(h:CE X.stack X.prog X.w H s Q u s'):EP X pins σ Q u s':=by let#[v,l,os,f,un,k,r,q]:=h;let#[j,g,d,t,i]:=s';obtain rfl:i=s.os:=os;exact#[v,l,I.call (h':=j) (g':=g) (d':=d) (t':=t) (ch:=[]) un k f (λb z=>absurd z (by simp)),r,q]
end
def wu5(sp:Sp)(eP:List V)(E:XK)(t:TA):TE:=λf H Q=>t f H λg h=>sp (g++eP) h Q E
def TN(C:Addr)(m:Str)(sp:Sp)(eP:List V)(E:XK)(j:TE)(t:TA):TE:=λf H Q=>j f H λx h=>∃a k g,x=.ref a/\h a=some (.ins C k g)/\g.lookup m=none /\
 t f h λi l=>sp (x::(i++eP)) l Q E
def wt8(C:Addr)(sp:Sp)(eP:List V)(E:XK)(t:TA):TE:=λh H Q=>t h H λi g=>∀x f,g x=none->g f=none->f≠x ->
 sp (.ref x::(i++eP)) (upd (upd g f (.own x)) x (.ins C f [])) (λv j=>v=.non/\Q (.ref x) j) E
def Binds(K:W.Frag)(g:xI)(ps:List Str)(ds:List Value):Prop:=∀(s:Shared) (f:List Value),K.In s.heap->(f++ds).length=ps.length->Dq s g #[f,[]] (ps.zip (f++ds))
def Binds.all{K:W.Frag}{g:xI}{ps:List Str}(h:∀us:List Value,us.length=ps.length->PV g #[us,[]]=pure (ps.zip us)):Binds K g ps []:=λs us _ f=>by rw[D9] at f⊢;exact .of_eq (h us f)
def Passes(CX:wO)(X:Cx)(E:XK):Prop:=∀(pins:List (Addr×Obj)) (g:St) (H:Hp) (s:Shared) (e:Value) (f:Shared),Inv X pins g H s->CX X.stack H s E e f->X.xe e f
section
variable{X:Cx}{CX:wO}{k:Nat}{f C:Addr}{fd:xI}{ps:List Str}{sp:Sp}{eP:List V}{ds:List Value}{E:XK}{x m:Str}{p pos apos:Pos}{e o:Expr}{es:List Expr}{ta:TE}{t:TA}
def Ut{pins:List (Addr×Obj)}{i:St}{H:Hp}{s:Shared}{Q:VK}{us:List Value}{vs:List V}(F:bD X.prog X.w X.K X.mg X.base CX k f fd ps sp)(q:aU k X.A)(G:Binds X.K fd ps ds)(B:Vals eP ds)(n:Passes CX X E) (I:Inv X pins i H s) (r:Vals vs us) (h:sp (vs++eP) H Q E):wpAny (model X.prog X.w) X.A (call (.ref f) us) (EP X pins i Q) X.xe s:=by
 have j:Vals (vs++eP) (us++ds):=r.append B;have y:(us++ds).length=ps.length:=by rw[<- j.length];exact F.len _ _ _ _ h
 apply wpAny_call (Qf (F.run X.A X.stack s H #[us,[]] (us++ds) (vs++eP) Q E q I.Kf (G s us I.i5 y) j h) λr l g=>?_);cases r with
 | error e=>exact n pins i H s e l I g| ok J =>
  cases J with
  | ret u=>exact I.after g| next=>exact Q2 g| brk=>exact Q2 g| cont=>exact Q2 g
def wi5(F:bD X.prog X.w X.K X.mg X.base CX k f fd ps sp)(u:aU k X.A)(G:Gl X x)(y:X.mg x=some (.ref f))(B:W.keepIn X.K (.ref f)=true)(M:Binds X.K fd ps ds)(L:Vals eP ds)(n:Passes CX X E) (N:PA X (e::es) t) (l:(x==("__debug__" :Str))=false:=by decide) (J:D1 (e::es) X.env=(false,eval e X.env)::D1 es X.env:=by rfl) (O:(backTo pos (D1 es X.env)).any (·.1)=false:=by rfl):
  PE X (.Call (.Name x p) (e::es) [] pos) (wu5 sp eP E t):=by
 intro pins s j H Q I h;apply N8 (UP I G y ?_ l)
 (apply W.callWith_K (h₀:=X.base) I.ok.mod.Ji B (bg (N pos pins s j H _ I h) ?_) J O;rintro S U ⟨R,Y,i,r,q⟩;apply#[i.i5,?_])
 exact Ut F u M L n i r q
def wh9{pl:Sem Bool}(Y:PE X o ta)(c:jN X.K C)(B:Meth X.K C m f)(F:bD X.prog X.w X.K X.mg X.base CX k f fd ps sp)(U:aU k X.A)(hb:Binds X.K fd ps ds)(Z:Vals eP ds)(R:Passes CX X E)(ha:PA X (e::es) t) (O:D1 (e::es) X.env=(false,eval e X.env)::D1 es X.env:=by rfl) (cA:(backTo pos (D1 es X.env)).any (·.1)=false:=by rfl)
  (S:eval (.Call (.Attribute o m apos) (e::es) [] pos) X.env=(do
   let n <- eval o X.env
   xG apos.atName
   let (f,first) <- holding [n] (A_ n m pl)
   EY pos f first (backTo pos (D1 (e::es) X.env)) (X5 pos (P4 [] X.env))):=by rfl):
  PE X (.Call (.Attribute o m apos) (e::es) [] pos) (TN C m sp eP E ta t):=by
 intro pins s g H Q I h
 (apply W.methodCall_KW (pl:=pl) (bg (Y pins s g H _ I h) ?_) S;rintro u L ⟨x,H1,J,M,a,dx,fs,ex,ea,l,q⟩)
 subst ex;obtain rfl:u=F0 a:=M;apply um6 J ea c B l ?_
 (apply W.callWith_K (first:=[.ref a]) (h₀:=X.base) I.ok.mod.Ji B.kp (bg (ha pos pins L g H1 _ J q) ?_) O cA;rintro j s2 ⟨i,H2,G,r,N⟩;apply#[G.i5,?_])
 exact Ut (us:=.ref a::j) (vs:=.ref a::i) F U hb Z R G (.cons rfl r) N
def vq7(J:PE X o ta)(c:jN X.K C)(j:Meth X.K C m f)(F:bD X.prog X.w X.K X.mg X.base CX k f fd ps sp)(G:aU k X.A)(M:Binds X.K fd ps ds)(L:Vals eP ds)(y:Passes CX X E)
  (B:eval (.Call (.Attribute o m apos) [] [] pos) X.env=(do
   let i <- eval o X.env
   xG apos.atName
   let (f,first) <- holding [i] (A_ i m pl)
   EY pos f first (backTo pos (D1 [] X.env)) (X5 pos (P4 [] X.env))):=by rfl):
  PE X (.Call (.Attribute o m apos) [] [] pos) (TN C m sp eP E ta yk):=by
 intro pins s n H Q I h
 (apply W.methodCall_KW (pl:=pl) (bg (J pins s n H _ I h) ?_) B;rintro u S ⟨x,Z,g,r,a,Y,U,ex,N,l,q⟩)
 subst ex;obtain rfl:u=F0 a:=r;apply um6 g N c j l ?_;exact W.callWith_K0 (first:=[.ref a]) g.i5 j.kp (Ut (us:=[.ref a]) (vs:=[.ref a]) F G M L y g (.cons rfl .nil) q)
structure Mk(K:W.Frag)(C f:Addr):Prop where
 makes:W.makesIn K C=true
 init:W.findIn K (.ref C) "__init__" = some (some (.ref f))
 fn:W.isFn K (.ref f)=true
 kp:W.keepIn K (.ref C)=true
def vp3(M:Mk X.K C f)(F:bD X.prog X.w X.K X.mg X.base CX k f fd ps sp)(L:aU (k+1) X.A)(R:Binds X.K fd ps ds)(O:Vals eP ds) (J:Passes CX X E) (I:Inv X pins l H s) (r:Vals vs us) (h:∀x i,H x=none->H i=none->i≠x->sp (.ref x::(vs++eP)) (upd (upd H i (.own x)) x (.ins C i [])) (λv U=>v=.non/\Q (.ref x) U) E): wpAny (model X.prog X.w) X.A (call (.ref C) us) (EP X pins l Q) X.xe s:=by
 have q:=h (s.heap.objs.size+1) s.heap.objs.size (I.aE.fresh (V2 _)) (I.aE.fresh (B9 _)) (J7 (S9 _));have j:=Inv.made (C:=C) I;have n:Vals (V.ref (s.heap.objs.size+1)::(vs++eP)) (F0 (s.heap.objs.size+1)::(us++ds)):=.cons rfl (r.append O);have N:(F0 (s.heap.objs.size+1)::us++ds).length=ps.length:=by have e:=n.length;rw[F.len _ _ _ _ q] at e;exact e.symm
 apply wpAny_call (vs0 (f:=f) I.i5 M.makes M.init (beq_iff_eq.mp M.fn) (Qf (F.run _ X.stack _ _ #[F0 (s.heap.objs.size+1)::us,[]] (F0 (s.heap.objs.size+1)::(us++ds)) _ _ E (L.make C us [])
  (j.Kf.make C us []) (R _ (F0 (s.heap.objs.size+1)::us) j.i5 N) n q) λr y g=>?_))
 cases r with
 | error e=>exact J pins l _ _ e y j g| ok S =>
  cases S with
  | ret u =>let#[v,Y,I3,B,ev,G]:=j.after g;subst ev;exact#[B,#[V.ref (s.heap.objs.size+1),Y,I3,rfl,G]]| next=>exact Q2 g| brk=>exact Q2 g| cont=>exact Q2 g
def wi0(M:Mk X.K C f)(F:bD X.prog X.w X.K X.mg X.base CX k f fd ps sp)(u:aU (k+1) X.A)(B:Gl X x)(y:X.mg x=some (.ref C))(L:Binds X.K fd ps ds)(J:Vals eP ds)(n:Passes CX X E) (N:PA X (e::es) t) (l:(x==("__debug__" :Str))=false:=by decide) (G:D1 (e::es) X.env=(false,eval e X.env)::D1 es X.env:=by rfl) (O:(backTo pos (D1 es X.env)).any (·.1)=false:=by rfl):
  PE X (.Call (.Name x p) (e::es) [] pos) (wt8 C sp eP E t):=by
 intro pins s j H Q I h;apply N8 (UP I B y ?_ l)
 (apply W.callWith_K (h₀:=X.base) I.ok.mod.Ji M.kp (bg (N pos pins s j H _ I h) ?_) G O;rintro S U ⟨R,Y,i,r,q⟩;apply#[i.i5,?_])
 exact vp3 M F u L J n i r q
end
structure af(N P:List Str)(sc:Scope):Prop where
 kind:sc.kind=.function
 co:sc.isCoroutine=false
 gen:sc.isGenerator=false
 nd:N.Nodup
 pre:N.take P.length=P
 par:∀x∈P,sc.names.lookup x=some .local\/sc.names.lookup x=some .cell
 BR:∀y∈sc.names,y.2≠.free
theorem uv6{kindOf:Str->Option J1}{x:Str}:∀{binds:List (Str×Value)} {m:Str->Option Value},(∀v,(x,v)∉binds)->bindL kindOf binds m x=m x
 | [],_,_=>rfl| (n,v)::r,m,h=>by
  unfold bindL;rw[uv6 λw hw=>h w (C2 _ hw)];split
  .have:x≠n:=by rintro rfl;exact h v C6
   simp[this]
  .rfl
theorem uv8{kindOf:Str->Option J1}{x:Str}:∀{binds:List (Str×Value)} {m:Str->Option Value},(∀v,(x,v)∉binds)->bindC kindOf binds m x=m x
 | [],_,_=>rfl| (n,v)::r,m,h=>by
  unfold bindC;rw[uv8 λw hw=>h w (C2 _ hw)];split
  .rfl
  .have:x≠n:=by rintro rfl;exact h v C6
   simp[this]
theorem uv7{kindOf:Str->Option J1}{x:Str}{v:Value}:∀{P:List Str} {vs:List Value} {i:Nat} {m:Str->Option Value},P.Nodup->P[i]?=some x->vs[i]?=some v->kindOf x=some .local -> bindL kindOf (P.zip vs) m x=some v
 | [],_,_,_,_,h,_,_=>by simp at h| _::_,[],_,_,_,_,h,_=>by simp at h| p::P,w::vs,0,m,j,g,f,k=>by simp at g f;subst g;subst f;show bindL kindOf ((p,w)::P.zip vs) m p=_;unfold bindL;rw[uv6 λv l=>(O1.mp j).1 (B50 l).1,if_pos k];simp| p::P,w::vs,i+1,m,j,g,f,k=>by show bindL kindOf ((p,w)::P.zip vs) m x=_;unfold bindL;exact uv7 (i:=i) (O1.mp j).2 (by simpa using g) (by simpa using f) k
theorem uv9{kindOf:Str->Option J1}{x:Str}{v:Value}:∀{P:List Str} {vs:List Value} {i:Nat} {m:Str->Option Value},P.Nodup->P[i]?=some x->vs[i]?=some v->kindOf x≠some .local -> bindC kindOf (P.zip vs) m x=some v
 | [],_,_,_,_,h,_,_=>by simp at h| _::_,[],_,_,_,_,h,_=>by simp at h| p::P,w::vs,0,m,j,g,f,k=>by simp at g f;subst g;subst f;show bindC kindOf ((p,w)::P.zip vs) m p=_;unfold bindC;rw[uv8 λv l=>(O1.mp j).1 (B50 l).1,if_neg k];simp| p::P,w::vs,i+1,m,j,g,f,k=>by show bindC kindOf ((p,w)::P.zip vs) m x=_;unfold bindC;exact uv9 (i:=i) (O1.mp j).2 (by simpa using g) (by simpa using f) k
def start(N:List Str)(vs:List V):St:=vs.map some++D2 (N.length-vs.length) none
def qJ(CX:wO)(P:Program)(w:World)(K:W.Frag)(mg:Str->Option Value)(base:Heap)(N:List Str)(g:Str)(scope:Scope)(f:Addr)(cd:Value)(A:Around)(outer:List Env)(s:Shared)(H:Hp)(E:XK):Cx where
 prog:=P
 w:=w
 K:=K
 mg:=mg
 base:=base
 A:=A.deeper (envOfC g scope s.heap.objs.size f cd)
 N:=N
 s₀:=s
 H₀:=H
 env:=envOfC g scope s.heap.objs.size f cd
 outer:=outer
 stack:=envOfC g scope s.heap.objs.size f cd::outer
 ex:=[]
 calm:=true
 fn:=λ_=>true
 pn:=[]
 xe:=λe m=>wpAny (model P w) (A.deeper (envOfC g scope s.heap.objs.size f cd)) (leaving (envOfC g scope s.heap.objs.size f cd) e) (λ_ h=>CX outer H s E e h) (λn h=>CX outer H s E n h) m
def v48{f:Scope}(h:f.names.lookup x=some .cell):∃c,(Zu n f.names []).lookup x=some c:=by have q:=W.cellsFrom_some f.names n [] (.inl h);exact Option.isSome_iff_exists.mp q
def vi2{CX:wO}{P:Program}{w:World}{K:W.Frag}{mg:Str->Option Value}{base:Heap}{N ps:List Str}{g:Str}{scope:Scope}{f:Addr}{cd:Value}{A:Around}{outer:List Env}{s C:Shared}{H:Hp}{E:XK}{us:List Value}{vs:List V} (S:af N ps scope) (L:A.handled=none) (l:ki P w K mg base A outer s H) (Q:vs.length=ps.length) (r:Vals vs us) (x:InCallC s s.heap.objs.size (bindL (envOfC g scope s.heap.objs.size f cd).kindOf (ps.zip us) λ_=>none) (Zu (s.heap.objs.size+1) scope.names []) (bindC (envOfC g scope s.heap.objs.size f cd).kindOf (ps.zip us) λ_=>none) C): Inv (qJ CX P w K mg base N g scope f cd A outer s H E) [] (start N vs) H C:=by
 have U:ps.length<=N.length:=by have:=congrArg J5 S.pre;rw[Q6] at this;omega
 let#[t,O,rfl,I]:=x.done;have B:∀b:Addr,b∉(qJ CX P w K mg base N g scope f cd A outer s H E).ex:=λb z=>absurd (show b∈([]:List Addr) from z) (by simp);apply#[#[l.mod,S.kind,rfl,rfl,B9 _,λy z c t j=>?_,λy hy=>?_,λy c _ h=>?_,λ_=>L,Around.frames_deeper l.frames,.inr #[rfl,rfl],λb z=>absurd z (B b),l.bs,l.uX,λb _ _=>B b,λb z=>absurd z (B b),l.iL,l.Aa],
  rfl,l.bare,Un.kept I,#[_,x.toInCall.ns,λi y v t j R=>?_],λy c h=>#[_,x.cell y c h],l.aE.fresh (B9 _),λy c h=>?_,λp o=>absurd (show p∈([]:List (Addr×Obj)) from o) (by simp),l.aE.kept I,?_]
 .exact name_of_addr x.apart (R7 t) (R7 j)
 .have hy:scope.names.lookup y=some .cell\/scope.names.lookup y=some .free:=hy;rcases hy with hy|hy
  .exact v48 hy
  .exact absurd rfl (S.BR _ (R7 hy))
 .exact P8 (x.above y c (R7 h))
 .have hi:i<vs.length:=by
   unfold start at j;by_cases hi:i<vs.length
   .exact hi
   .rw[E7 (by simpa using hi)] at j;rw[A35] at j;split at j <;> cases j
  have M:vs[i]?=some v:=by
   unfold start at j;rw[F9 (by simpa using hi),F7] at j;cases e:vs[i]? with
   | none=>rw[e] at j;cases j
   | some a=>rw[e] at j;cases j;rfl
  let#[u,G,J]:=r.get M;have o:ps[i]?=some y:=by rw[<- S.pre,List.getElem?_take_of_lt ()];exact t
  have m:ps.Nodup:=by rw[<- S.pre];exact S.nd.sublist (List.take_sublist _ _)
  apply#[u,J,?_];rcases S.par y (K3 o) with k|k
  .exact .inl ⟨k,uv7 m o G k⟩
  .let#[c,e]:=v48 (n:=s.heap.objs.size+1) k;apply .inr #[.inl k,c,e,?_];have q:=x.cell y c e;rw[uv9 m o G (by show scope.names.lookup y≠_;rw[k];decide)] at q;exact q
 .exact l.aE.fresh (P8 (x.above y c (R7 h)))
 .unfold start;show _=N.length;rw[B4,B0,S8];omega
def xk5{CX:wO}{P:Program}{w:World}{K:W.Frag}{mg:Str->Option Value}{base:Heap}{k:Nat}{f:Addr}{name g:Str}{params:Arguments}{body:List Stmt}{scope:Scope}{O kV doc M j ct oc:Value}{an od:Option Addr} {X:Array (Option Value)} {N ps:List Str} {sp:Sp} (lk:K.lookup f=some #[oc,od,.func (W.fnOf name g params body scope O kV doc M an j ct),X]) (Z:W.codeIn K j g=true) (S:af N ps scope) (len:∀vs H Q E,sp vs H Q E->vs.length=ps.length) (JV:∀(A:Around) (outer:List Env) (s:Shared) (H:Hp) (vs:List V) (Q:VK) (E:XK),aU k (A.deeper (envOfC g scope s.heap.objs.size f j))->sp vs H Q E -> ∃t,pJ (qJ CX P w K mg base N g scope f j A outer s H E) body t/\t { nx:=λ_ i=>Q .non i,rt:=Q} (start N vs) H): bD P w K mg base CX (k+1) f (W.fnOf name g params body scope O kV doc M an j ct) ps sp:=by
 apply#[len,λA outer s H args Y vs Q E G m hb r U=>?_];have hl:=len _ _ _ _ U;have R:K.In s.heap:=m.mod.Ji.keeps λb o e=>(m.bs b o e).1;have C:s.heap.NoLimit:=m.mod.nolimit.keeps λb o e=>(m.bs b o e).1;have JN:∀y∈ps.zip Y,scope.names.lookup y.1=some .local\/(scope.names.lookup y.1=some .cell/\((Zu (s.heap.objs.size+1) scope.names []).lookup y.1).isSome=true):=λ⟨n,v⟩ hy=>by
  rcases S.par n (B50 hy).1 with q|q
  .exact .inl q
  .exact .inr ⟨q,W.cellsFrom_some _ _ _ (.inl q)⟩
 apply codeAny_call_function G.depth (R _ _ lk) rfl S.co S.gen rfl (W.codeRec_of R Z) (hb _ _ _ _ ?_);apply wpAny_newFunctionEnv_cells S.kind JN λenv he L x=>?_;subst he;apply#[C.keeps x.toInCall.keep,codeAny_func ?_];let#[t,ht,hq]:=JV A outer s H vs Q E (G.deeper _) U;have I:Inv (qJ CX P w K mg base N g scope f j A outer s H E) [] (start N vs) H L:=vi2 S G.hd m hl r x;apply R6 (ht [] L (start N vs) H _ I hq) (λfl p l=>?_) λe p l=>l;have fin:∀{h:St} {i:Hp} {v:V} {u:Value},Inv (qJ CX P w K mg base N g scope f j A outer s H E) [] h i p->RelV v u->Q v i->CE outer P w H s Q u p:=
  λ{h i v u} J B q=>#[v,i,J.os,J.bare,J.base,J.aE,B,q]
 cases fl with
 | ret u =>let#[v,h,i,J,B,q]:=l;exact fin J B q| next =>let#[h,i,J,q]:=l;exact fin (v:=V.non) (u:=X7) J rfl q| brk =>let#[_,_,_,q]:=l;exact Q2 q| cont =>let#[_,_,_,q]:=l;exact Q2 q
section
variable{X:Cx}{x:Str}{p pos:Pos}{e:Expr}{es:List Expr}{t:TA}{id T:String}{r:List V->Hp->VK->Prop}
def VZ(r:List V->Hp->VK->Prop)(t:TA):TE:=λf H Q=>t f H λg h=>r g h Q
def vr5(A:bK X (.builtin id) r)(u:Gl X x)(q:X.mg x=none)(n:R5 x=some (.builtin id))(B:PA X (e::es) t)(o:x ≠ "__name__" := by decide)(m:(x==("__debug__" :Str))=false:=by decide)
  (y:D1 (e::es) X.env=(false,eval e X.env)::D1 es X.env:=by rfl) (C:(backTo pos (D1 es X.env)).any (·.1)=false:=by rfl):PE X (.Call (.Name x p) (e::es) [] pos) (VZ r t):=by
 intro pins s f H Q I h;apply N8 (sE I u q n ?_ o m)
 (apply C07 (bg (B pos pins s f H _ I h) ?_) y C;rintro i j ⟨g,G,E,k,l⟩;exact A pins j f G g i Q E k l)
def uu0(A:bK X (.type T) r)(u:Gl X x)(q:X.mg x=none)(n:R5 x=some (.type T))(B:PA X (e::es) t)(o:x ≠ "__name__" := by decide)(m:(x==("__debug__" :Str))=false:=by decide)
  (y:D1 (e::es) X.env=(false,eval e X.env)::D1 es X.env:=by rfl) (C:(backTo pos (D1 es X.env)).any (·.1)=false:=by rfl):PE X (.Call (.Name x p) (e::es) [] pos) (VZ r t):=by
 intro pins s f H Q I h;apply N8 (sE I u q n ?_ o m)
 (apply K1 (bg (B pos pins s f H _ I h) ?_) y C;rintro i j ⟨g,G,E,k,l⟩;exact A pins j f G g i Q E k l)
end
section
variable{κ:Type}[DecidableEq κ]
def dh(kvs:List (κ×V))(k:κ):Option V:=(kvs.find? λf=>decide (f.1=k)).map (·.2)
def putK(kvs:List (κ×V))(k:κ)(v:V):List (κ×V):=if(kvs.any λf=>decide (f.1=k))=true then kvs.map (λf=>if f.1=k then(f.1,v) else f) else kvs++[(k,v)]
def zx(kvs:List (κ×V))(k:κ):List (κ×V):=kvs.filter λf=>decide (f.1≠k)
def Ef{p:κ×V}{r:List (κ×V)}{k:κ}(e:p.1=k):dh (p::r) k=some p.2:=by simp[dh,M6,e]
def Ee{p:κ×V}{r:List (κ×V)}{k:κ}(e:¬ p.1=k):dh (p::r) k=dh r k:=by simp[dh,M6,e]
theorem Vz(k:κ):∀kvs:List (κ×V),(kvs.any λf=>decide (f.1=k))=(dh kvs k).isSome
 | []=>rfl| p::r=>by
  rw[O7];by_cases e:p.1=k
  .simp only[Ef e,decide_eq_true e,Qj,Option.isSome_some]
  .rw[Ee e,decide_eq_false e,Fi];exact Vz k r
def By(kvs:List (κ×V))(k:κ)(v:V):(putK kvs k v).length<=kvs.length+1:=by
 unfold putK;split
 .rw[B0];omega
 .rw[B4,C1,W0];omega
def dQ.iH(r:dQ o u):o.isSome=u.isSome:=by
 cases o with
 | none=>cases u with
  | none=>rfl| some _=>exact(show False from r).elim
 | some _=>cases u with
  | none=>exact(show False from r).elim| some _=>rfl
theorem dQ.getD(r:dQ o u)(rd:RelV d d'):RelV (o.getD d) (u.getD d'):=by
 cases o with
 | none=>cases u with
  | none=>exact rd| some _=>exact(show False from r).elim
 | some _=>cases u with
  | none=>exact(show False from r).elim| some _=>exact r
def KV.val{kvs:List (κ×V)}{vs:List (κ×Value)}(r:KV kvs vs)(k:κ):dQ (dh kvs k) (AY vs k):=by
 unfold KV at r;induction r with
 | nil=>exact Q3| @cons p q m f h t j =>
  let#[i,l]:=h;by_cases e:p.1=k
  .have g:q.1=k:=i.symm.trans e;have b:AY (q::f) k=some q.2:=by simp[AY,M6,g]
   rw[Ef e,b];exact l
  .have g:¬ q.1=k:=λz=>e (i.trans z);have b:AY (q::f) k=AY f k:=by simp[AY,M6,g]
   rw[Ee e,b];exact j
theorem KV.any{kvs:List (κ×V)}{vs:List (κ×Value)}(r:KV kvs vs)(k:κ):(kvs.any λf=>decide (f.1=k))=vs.any λf=>decide (f.1=k):=by
 unfold KV at r;induction r with
 | nil=>rfl| cons h t g=>rw[O7,O7,g,h.1]
def KV.uo(r:KV kvs vs)(k:κ)(i:RelV y u): KV (kvs.map λf=>if f.1=k then(f.1,y) else f) (vs.map λf=>if f.1=k then(f.1,u) else f):=by
 unfold KV at r⊢;induction r with
 | nil=>exact .nil| @cons p q n m h t j =>
  rw[C0,C0];apply .cons ?_ j;let#[g,l]:=h;by_cases e:p.1=k
  .rw[if_pos e,if_pos (g.symm.trans e)];exact#[g,i]
  .rw[if_neg e,if_neg (λz=>e (g.trans z))];exact#[g,l]
def KV.put(r:KV kvs vs)(k:κ)(f:RelV y u):KV (putK kvs k y) (stored vs k u):=by
 unfold putK stored;rw[r.any k];by_cases e:(vs.any λg=>decide (g.1=k))=true
 .rw[if_pos e,if_pos e];exact r.uo k f
 .rw[if_neg e,if_neg e];exact ZI r #[rfl,f]
def KV.drop(r:KV kvs vs)(k:κ):KV (zx kvs k) (without vs k):=by
 unfold KV at r⊢;unfold zx without;induction r with
 | nil=>exact .nil| @cons p q m l h t g =>
  let#[f,i]:=h;rw[QE,QE];by_cases e:p.1=k
  .have a:¬ decide (p.1≠k)=true:=by simp[e]
   have b:¬ decide (q.1≠k)=true:=by simp[f.symm.trans e]
   rw[if_neg a,if_neg b];exact g
  .have j:¬ q.1=k:=λz=>e (f.trans z);have a:decide (p.1≠k)=true:=by simp[e]
   have b:decide (q.1≠k)=true:=by simp[j]
   rw[if_pos a,if_pos b];exact .cons #[f,i] g
def KV.keys{kvs:List (κ×V)}{vs:List (κ×Value)}(r:KV kvs vs):kvs.map (·.1)=vs.map (·.1):=by
 unfold KV at r;induction r with
 | nil=>rfl| cons h t f=>rw[C0,C0,f,h.1]
theorem KV.length{kvs:List (κ×V)}{vs:List (κ×Value)}(r:KV kvs vs):kvs.length=vs.length:=Qs r
def vv3(kvs:List (κ×V))(k:κ):(zx kvs k).length<=kvs.length:=Z8 _ _
end
def Bn{P:Program}{w:World}(r:RelV (kV k) u):(eD P w).is k u=true:=by
 cases k with
 | inl i=>let#[t,e]:=(show∃t,u=E' i t from r);subst e;exact ux6 P w i t| inr x=>let#[t,e]:=(show∃t,u=E_ x t from r);subst e;exact ux5 P w x t
theorem Ol{P:Program}{w:World}:∀{ks:List Key} {us:List Value},Vals (ks.map kV) us->ItemsAre (eD P w) ks us
 | [],_,r=>by rw[Ff] at r;cases r;exact .nil
 | k::ks,_,r=>by
  rw[C0] at r;cases r with
  | cons h t=>exact .cons (Bn h) (Ol t)
abbrev KT(H:Hp):List (List Key×V)->List (List Key×Addr×Value)->Prop:=Paired λp q=>p.1=q.1/\H q.2.1=some (.tup (p.1.map kV))/\RelV p.2 q.2.2
def KT.val{H:Hp}{kvs:List (List Key×V)}{xs:List (List Key×Addr×Value)}(r:KT H kvs xs)(k:List Key):dQ (dh kvs k) ((atKey xs k).map (·.2)):=by
 induction r with
 | nil=>exact Q3| @cons p q m f h t j =>
  let#[i,_,l]:=h;by_cases e:p.1=k
  .have g:q.1=k:=i.symm.trans e;have b:atKey (q::f) k=some q.2:=by simp[atKey,M6,g]
   rw[Ef e,b];exact l
  .have g:¬ q.1=k:=λz=>e (i.trans z);have b:atKey (q::f) k=atKey f k:=by simp[atKey,M6,g]
   rw[Ee e,b];exact j
def KT.uo(r:KT H kvs xs)(k:List Key)(j:RelV y u): KT H (kvs.map λg=>if g.1=k then(g.1,y) else g) (xs.map (putAt k u)):=by
 induction r with
 | nil=>exact .nil| @cons p q o n h t l =>
  rw[C0,C0];apply .cons ?_ l;let#[f,i,m]:=h;unfold putAt;by_cases e:p.1=k
  .rw[if_pos e,if_pos (f.symm.trans e)];exact#[f,i,j]
  .rw[if_neg e,if_neg (λz=>e (f.trans z))];exact#[f,i,m]
def KT.put(r:KT H kvs xs)(k:List Key)(h:H b=some (.tup (k.map kV)))(f:RelV y u): KT H (putK kvs k y) (PN xs k b u):=by
 have e:(kvs.any λg=>decide (g.1=k))=(atKey xs k).isSome:=by rw[Vz,(r.val k).iH,B03]
 unfold putK PN;rw[e];by_cases q:(atKey xs k).isSome=true
 .rw[if_pos q,if_pos q];exact r.uo k f
 .rw[if_neg q,if_neg q];exact ZI r #[rfl,h,f]
def KT.keeps(r:KT H kvs xs)(f:∀b ys,H b=some (.tup ys)->g b=some (.tup ys)):KT g kvs xs:=Paired.uz r λ_ _ z=>#[z.1,f _ _ z.2.1,z.2.2]
section
variable{P:Program}{w:World}{H:Hp}{h:Heap}{a:Addr}
def qW(ok:gB P w H h)(e:Rd H a u):bu P w H h a u:=e.ok ok
def xS(ok:gB P w H h)(e:Rd H a (.dK kvs)):kvs.length<=sizeLine/\(a==R4)=false/\∃vs,KV kvs vs/\h.DictOf (eD P w) a vs:=show bu P w H h a (.dK kvs) from qW ok e
def FA(ok:gB P w H h)(e:H a=some (.dK kvs)):kvs.length<=sizeLine/\(a==R4)=false/\∃vs,KV kvs vs/\h.DictOf (eD P w) a vs:=xS ok (.inl e)
def Nr{ks:List Key}(ok:gB P w H h)(e:H a=some (.tup (ks.map kV))):(EZ (eD P w)).is h ks a:=by let#[_,its,r,o,i,g,#[n,f],_]:=(show bu P w H h a (.tup (ks.map kV)) from ok a _ e);exact#[o,its.toArray,n,i,g,f,by simpa using Ol r]
def FC(ok:gB P w H h)(e:Rd H a (.dT kvs)):kvs.length<=sizeLine/\(a==R4)=false /\ ∃xs,KT H kvs xs/\h.DictOfH (EZ (eD P w)) a xs:=by
 let#[z,y,xs,r,o,A,B,u,n,k,j,i]:=(show bu P w H h a (.dT kvs) from qW ok e);apply#[z,y,xs,r,o,A,B,u,n,k,j,λx hx=>?_,i];have all:∀{l:List (List Key×V)} {m:List (List Key×Addr×Value)},KT H l m->∀x∈m,(EZ (eD P w)).is h x.1 x.2.1:=by
  intro l m q;induction q with
  | nil=>intro x hx;exact nomatch hx| @cons p q E C f t g =>
   intro x hx;rcases D7.mp hx with e|hx
   .subst e;exact Nr ok (by rw[<- f.1];exact f.2.1)
   .exact g x hx
 exact all r x hx
def xk7(ok:gB P w H h)(e:H a=some (.dT kvs)):kvs.length<=sizeLine/\(a==R4)=false /\ ∃xs,KT H kvs xs/\h.DictOfH (EZ (eD P w)) a xs:=FC ok (.inl e)
end
def mr(H:Hp)(a:Addr)(y:V)(r:Option V):Prop:=(∃kvs k,Rd H a (.dK kvs)/\y=kV k/\r=dh kvs k)\/∃kvs k b,Rd H a (.dT kvs)/\y=.ref b/\H b=some (.tup (k.map kV))/\r=dh kvs k
def wN(H:Hp)(a:Addr)(y v:V)(f:Hp):Prop:=
 (∃kvs k,H a=some (.dK kvs)/\y=kV k/\kvs.length<sizeLine/\f=upd H a (.dK (putK kvs k v))) \/
 ∃kvs k b,H a=some (.dT kvs)/\y=.ref b/\H b=some (.tup (k.map kV))/\kvs.length<sizeLine/\f=upd H a (.dT (putK kvs k v))
theorem mr.k{H:Hp}{a:Addr}{kvs:List (Key×V)}{k:Key}(e:H a=some (.dK kvs)):mr H a (kV k) (dh kvs k):=.inl ⟨kvs,k,.inl e,rfl,rfl⟩
theorem wN.k{H:Hp}{a:Addr}{kvs:List (Key×V)}{k:Key}{v:V}(e:H a=some (.dK kvs))(f:kvs.length<sizeLine):wN H a (kV k) v (upd H a (.dK (putK kvs k v))):=.inl ⟨kvs,k,e,rfl,f,rfl⟩
section
variable{X:Cx}{pins:List (Addr×Obj)}{σ:St}{H:Hp}{s:Shared}{a:Addr}{y v:V}{u r:Value}{o:Option V}{A:Around}{E:Value->Shared->Prop}
def Inv.big(I:Inv X pins σ H s):R4<s.heap.objs.size:=by have h:J8<s.heap.objs.size:=(I.mod.glob.keeps I.bk).lt;exact C83 ∅ h
def vk7(x:A.units+1<cLine)(I:Inv X pins σ H s)(g:mr H a y (some v))(q:RelV y u)(h:∀i n,Inv X pins σ H n->RelV v i->Q i n): wpAny (model X.prog X.w) A (AX (.ref a) u) Q E s:=by
 rcases g with⟨kvs,k,e,m,l⟩|⟨kvs,k,b,e,m,G,l⟩
 .subst m;let#[z,C,t,f,dd]:=xS I.aE e;let#[i,hw,j]:=dQ.some_of (v:=v) (o:=AY t k) (by rw[l];exact f.val k);exact wpAny_getItem_of (Bn q) dd.mapOf hw (h i _ (I.tok _) j)
 .subst m;cases(show u=F0 b from q);let#[z,C,xs,f,dd]:=FC I.aE e;let#[i,hw,j]:=dQ.some_of (v:=v) (o:=(atKey xs k).map (·.2)) (by rw[l];exact f.val k);let#[p,B,J]:=F6.mp hw;apply wpAny_getItem_heap (A98 x) (Nr I.aE G) dd B ?_;rw[J];exact h i _ (I.tok _) j
def DW(I:Inv X pins σ H s)(f:KC (H a))(g:U9 a s.heap h')(h:∃q,h'.get? a=some q)(new:bu X.prog X.w (upd H a ob) h' a ob): Inv X pins σ (upd H a ob) { s with heap:=h',toks:=t'}:=I.write (x:=a) (e:=a) f (.inl rfl) (λb q i z=>(g.2 b i).trans z) h new
def Nn{P:Program}{w:World}{h':Heap}{kvs:List (Key×V)}(z:kvs.length<=sizeLine)(g:(a==R4)=false)(f:KV kvs vs)(dd:h'.DictOf (eD P w) a vs): bu P w h h' a (.dK kvs):=#[z,g,vs,f,dd]
def vk6(N:A.units+1<cLine)(I:Inv X pins σ H s)(g:wN H a y v H')(G:RelV y u)(rv:RelV v r)(h:∀C,Inv X pins σ H' C->Q #[] C): wpAny (model X.prog X.w) A (PQ (.ref a) u r) Q E s:=by
 rcases g with⟨kvs,k,e,x,l,B⟩|⟨kvs,k,b,e,x,L,l,B⟩
 .subst x B;let#[z,t,M,f,dd]:=FA I.aE e;have m:M.length<=sizeLine:=by rw[<- f.length];exact z
  have p:(putK kvs k v).length<=sizeLine:=by have:=By kvs k v;omega
  apply wpAny_setItem_pairs (hsz:=m) (Bn G) dd λJ i n=>h _ ?_;have O:∃q,J.get? a=some q:=let ⟨q,_,_,j,_⟩:=i;#[q,j];exact DW I (by rw[e];exact Q3) n O (Nn p t (f.put k rv) i)
 .subst x B;cases(show u=F0 b from G);let#[z,t,xs,f,dd]:=xk7 I.aE e;have m:xs.length<=sizeLine:=by rw[<- Qs f];exact z
  have p:(putK kvs k v).length<=sizeLine:=by have:=By kvs k v;omega
  apply wpAny_setItem_heap (hsz:=m) (A98 N) (Nr I.aE L) dd λJ i n=>h _ ?_;let#[q,Z,ep,j,Y,U,S,_,R]:=i;apply DW I (by rw[e];exact Q3) n #[q,j] #[p,t,_,(f.put k L rv).keeps λc ys ec=>?_,q,Z,ep,j,Y,U,S,R];rw[c_ (RH ec e (λz=>nomatch z))];exact ec
end
section
variable{X:Cx}{pins:List (Addr×Obj)}{σ:St}{H:Hp}{s:Shared}{a:Addr}{kvs:List (Key×V)}{k:Key}{u:Value}{A:Around}{E:Value->Shared->Prop}
def xk8(I:Inv X pins σ H s)(e:H a=some (.dK kvs))(j:RelV (kV k) u)(l:dh kvs k=some v)(r:more=[]\/∃x,more=[x]) (h:∀g n,Inv X pins σ (upd H a (.dK (zx kvs k))) n->RelV v g->Q g n):wpAny (model X.prog X.w) A (call (.builtin "dict.pop") (.ref a::u::more)) Q E s:=by
 let#[z,L,m,f,dd]:=FA I.aE e;let#[g,hw,y]:=dQ.some_of (v:=v) (o:=AY m k) (by rw[<- l];exact f.val k);have G:(keyPart u).isSome=true:=by
  cases k with
  | inl i=>let#[t,q]:=(show∃t,u=E' i t from j);subst q;rfl| inr x=>let#[t,q]:=(show∃t,u=E_ x t from j);subst q;rfl
 have M:argsOk "dict.pop" #[.ref a::u::more,[]]:=by
  rcases r with q|⟨x,q⟩
  .subst q;exact PySem.F.args_dict_pop_2 _ _
  .subst q;exact PySem.F.args_dict_pop_3 _ _ _
 apply MI B57 dd.typeIs PySem.F.entry_dict_pop M (meets_dict_pop_there (eD X.prog X.w) a (Bn j) more r G)
  ⟨m,g,dd,by rw[<- f.length];exact z,hw,λN p B=>h g _ ?_ y⟩
 have J:∃q,N.get? a=some q:=let ⟨q,_,_,C,_⟩:=p;#[q,C];exact DW I (by rw[e];exact Q3) B J (Nn (D5 (vv3 kvs k) z) L (f.drop k) p)
end
def tu(i:Expr):Prop:=∀f g,subscripted i false f g=operate [f,g] (AX f g)
def vb1{prog:Program}{w:World}{A:Around}{E:Value->Shared->Prop}{s:Shared}{env:Env}{value slice:Expr}{pos:Pos}{T id:String}{Q:Value->Shared->Prop} (q:My (.type T) "__getitem__" = pure (some (.builtin id))) (p:tu slice) (h:wpAny (model prog w) A (eval value env) (λo k=>wpAny (model prog w) A (eval slice env) (λi f=>f.TypeIs o T/\wpAny (model prog w) A (AX o i) Q E f) E k) E s): wpAny (model prog w) A (eval (.Subscript value slice pos) env) Q E s:=by
 apply Qa (R6 h (λo k m=>R6 m (λi f g=>?_) λ_ _ x=>x) λ_ _ x=>x);let#[n,g]:=g;unfold Qo;apply B5 ?_;rw[getitemInPython_of_ne n.not_modules];apply B5 (MN n q ?_);have fin:wpAny (model prog w) A (subscripted slice false o i) (λr j=>wpAny (model prog w) A (letTemporaryGo value o r >>= λ_=>pure r) Q E j) E f:=by rw[p o i];exact wpAny_operating (R6 g (λr j l=>B5 (wpAny_letTemporaryGo (C4 l))) λ_ _ x=>x)
 first
  | exact C4 (B5 fin)
  | exact B5 (C4 (B5 fin))
  | exact B5 fin
def uy7(I:Inv X pins f H s)(g:mr H a y o):s.TypeIs (.ref a) "dict" := by
 rcases g with⟨kvs,k,e,_,_⟩|⟨kvs,k,b,e,_,_,_⟩
 .let#[_,_,h,_,dd]:=xS I.aE e;exact dd.typeIs
 .let#[_,_,xs,_,dd]:=FC I.aE e;exact dd.typeIs
def TM(h ty:TE):TE:=λf H Q=>h f H λx i=>ty f i λy g=>∃a v,x=.ref a/\mr g a y (some v)/\Q v g
def xi3(i ty h:TE):TS:=λD f H=>h f H λv l=>i f l λx k=>ty f k λy j=>∃a g,x=.ref a/\wN j a y v g/\D.nx f g
section
variable{X:Cx}{o i e value:Expr}{pos pos' pQ:Pos}{td ty tv:TE}
def vd5(r:X.A.units+1<cLine)(B:PE X o td)(hi:PE X i ty)(t:tu i):PE X (.Subscript o i pos) (TM td ty):=by
 intro pins s f H Q I h
 (apply vb1 B00.lookup t (bg (B pins s f H _ I h) ?_);rintro u k ⟨x,G,C,m,p⟩;apply bg (hi pins k f G _ C p) ?_;rintro N M ⟨y,E,j,l,a,v,ex,g,n⟩)
 subst ex;obtain rfl:u=F0 a:=m;exact#[uy7 j g,vk7 r j g l λJ L I3 q=>#[v,E,I3,q,n]]
def wh1(C:X.A.units+1<cLine)(G:PE X o td)(hi:PE X i ty)(B:PE X value tv)(E:Y8 value (some (.Subscript o i pos')) pos.line X.env=pure false): PS X (.Assign [.Subscript o i pos'] value pos) (xi3 td ty tv):=by
 intro pins s f H D I h
 (apply wpAny_Assign_Subscript (bg (B pins s f H _ I h) ?_) E;rintro r k ⟨v,Q,M,n,t⟩;apply bg (G pins k f Q _ M t) ?_;rintro u j ⟨x,O,L,m,q⟩;apply bg (hi pins j f O _ L q) ?_;rintro U S ⟨y,Y,I3,l,a,N,ex,g,p⟩)
 subst ex;obtain rfl:u=F0 a:=m;exact vk6 C I3 g l n λR J=>#[f,N,J,p]
end
def vv4{P:Program}{w:World}(h:Heap)(f:R4<h.objs.size):bu P w H (h.push { cls:=.type "dict",data:=.dict [].toArray}) h.objs.size (.dK []):=#[J4 _,beq_eq_false_iff_ne.mpr (D3 (J7 f)),[],.nil,B51 h]
def wu3:TE:=λ_ H Q=>∀p,H p=none->Q (.ref p) (upd H p (.dK []))
section
variable{X:Cx}{pos:Pos}
def vr2:PE X (.Dict [] [] pos) wu3:=λpins s f H Q I h =>
 wpAny_Dict_empty #[.ref s.heap.objs.size,_,I.laid (a:=s.heap.objs.size) (o:=.dK []) (t':=s.toks) (λ_ _ q=>B8 _ q) (B9 _) (vv4 s.heap I.big),rfl,h _ (I.aE.fresh (B9 _))]
end
def DS(kvs more:List (Key×V)):List (Key×V):=more.foldl (λf g=>putK f g.1 g.2) kvs
def KV.merge:∀{more:List (Key×V)} {rs:List (Key×Value)} {kvs:List (Key×V)} {vs:List (Key×Value)},KV more rs->KV kvs vs->KV (DS kvs more) (merged vs rs):=by
 intro more rs kvs vs r;unfold KV at r;induction r generalizing kvs vs with
 | nil=>intro q;exact q| @cons p q j i h t g =>
  intro f;have e:KV (putK kvs p.1 p.2) (stored vs q.1 q.2):=by have:=f.put p.1 h.2;rw[<- h.1];exact this
  exact g e
theorem ud2:∀(more kvs:List (Key×V)),(DS kvs more).length<=kvs.length+more.length
 | [],kvs=>by show kvs.length<=kvs.length+0;omega| p::r,kvs=>by have g:=ud2 r (putK kvs p.1 p.2);have f:=By kvs p.1 p.2;show(DS (putK kvs p.1 p.2) r).length<=_;rw[C1];omega
structure M1(X:Cx)(o:Expr)(m:Str)(apos:Pos)(e:Expr)(aO:Pos):Prop where
 base:O2 o m X.env (eval o X.env)=eval o X.env
 few:((backTo aO (D1 [e] X.env)).all (λx=>!x.1)&&(X5 aO (P4 [] X.env)).all (λx=>x.1.isSome)
  && decide (([e]:List Expr).length+([]:List Keyword).length+(if([]:List Keyword).isEmpty then 0 else 1)<30))=true
 line:(apos.endLine==aO.line)=true
 trees:backTo aO (D1 [e] X.env)=[(false,eval e X.env)]
structure M2(X:Cx)(o:Expr)(m:Str)(apos:Pos)(e f:Expr)(aO:Pos):Prop where
 base:O2 o m X.env (eval o X.env)=eval o X.env
 few:((backTo aO (D1 [e,f] X.env)).all (λx=>!x.1)&&(X5 aO (P4 [] X.env)).all (λx=>x.1.isSome)
  && decide (([e,f]:List Expr).length+([]:List Keyword).length+(if([]:List Keyword).isEmpty then 0 else 1)<30))=true
 line:(apos.endLine==aO.line)=true
 trees:backTo aO (D1 [e,f] X.env)=[(false,eval e X.env),(false,eval f X.env)]
def PH(H:Hp)(a:Addr):Prop:=(∃kvs,Rd H a (.dK kvs))\/∃kvs,Rd H a (.dT kvs)
def Nq(I:Inv X pins i H s)(d:PH H a): s.TypeIs (.ref a) "dict" /\ (∀b,F0 a=.ref b->∃ob,s.heap.get? b=some ob/\ob.dict=none)/\(a==R4)=false:=by
 rcases d with⟨kvs,e⟩|⟨kvs,e⟩
 .let#[_,f,j,_,dd]:=xS I.aE e;apply#[dd.typeIs,λb q=>?_,f];cases q;let#[ob,_,_,h,g,_]:=dd;exact#[ob,h,g.2.1]
 .let#[_,f,xs,_,dd]:=FC I.aE e;apply#[dd.typeIs,λb q=>?_,f];cases q;let#[ob,_,_,h,g,_]:=dd;exact#[ob,h,g.2.1]
section
variable{X:Cx}{pins:List (Addr×Obj)}{σ:St}{H:Hp}{s:Shared}{a:Addr}{y d:V}{u r:Value}{o:Option V}{A:Around}{E:Value->Shared->Prop}
def xc0(q:A.units+1<cLine)(I:Inv X pins σ H s)(g:mr H a y o)(p:RelV y u)(rd:RelV d r)(h:∀m n,Inv X pins σ H n->RelV (o.getD d) m->Q m n): wpAny (model X.prog X.w) A (call (.builtin "dict.get") [.ref a,u,r]) Q E s:=by
 rcases g with⟨kvs,k,e,j,l⟩|⟨kvs,k,b,e,j,t,l⟩
 .subst j;let#[z,i,x,f,dd]:=xS I.aE e;apply MI A53 dd.typeIs B35 (B25 _ _ _) (meets_dict_get_default (eD X.prog X.w) a (Bn p) i r) #[_,dd.mapOf,h _ _ (I.tok _) ?_];rw[l];exact(f.val k).getD rd
 .subst j;cases(show u=F0 b from p);let#[z,i,xs,f,dd]:=FC I.aE e;apply MI A53 dd.typeIs B35 (B25 _ _ _) (meetsH_dict_get_default (EZ (eD X.prog X.w)) a b i r) #[A98 q,k,xs,Nr I.aE t,dd,h _ _ (I.tok _) ?_];rw[l];exact(f.val k).getD rd
end
def vy1(j ty i:TE):TE:=λf H Q=>j f H λx h=>∃a,x=.ref a/\PH h a/\ty f h λy k=>i f k λz g=>∃o,mr g a y o/\Q (o.getD z) g
def vy0(i ty:TE):TE:=λf H Q=>i f H λx h=>∃a,x=.ref a/\PH h a/\ty f h λy g=>∃kvs k v,g a=some (.dK kvs)/\y=kV k/\dh kvs k=some v/\Q v (upd g a (.dK (zx kvs k)))
section
variable{X:Cx}{o e f:Expr}{apos aO:Pos}{td ty tx:TE}
def vr4(J:X.A.units+1<cLine)(L:PE X o td)(N:PE X e ty)(M:PE X f tx)(m:M2 X o "get" apos e f aO):PE X (.Call (.Attribute o "get" apos) [e,f] [] aO) (vy1 td ty tx):=by
 intro pins s i H Q I h
 (apply B07 m.base m.few m.line Y3 A53 PySem.F.type_dict_get (bg (L pins s i H _ I h) ?_);rintro u p ⟨x,Y,j,t,a,ex,d,E⟩)
 subst ex;obtain rfl:u=F0 a:=t;let#[l,k,_]:=Nq j d;apply#[l,k,?_];rw[m.trees];apply V0 rfl (QO (Q4 (bg (N pins p i Y _ j E) λiv n ⟨y,U,R,r,C⟩ =>
  Q4 (bg (M pins n i U _ R C) λfv s3 ⟨z,S,I3,q,ov,g,B⟩=>U1 ?_))))
 exact xc0 J I3 g r q λZ s4 O G=>#[_,S,O,G,B]
def vr0(C:PE X o td)(E:PE X e ty)(m:M1 X o "pop" apos e aO):PE X (.Call (.Attribute o "pop" apos) [e] [] aO) (vy0 td ty):=by
 intro pins s g H Q I h
 (apply B07 m.base m.few m.line Y3 B57 PySem.F.type_dict_pop (bg (C pins s g H _ I h) ?_);rintro u p ⟨x,M,i,r,a,ex,d,A⟩)
 subst ex;obtain rfl:u=F0 a:=r;let#[n,j,_]:=Nq i d;apply#[n,j,?_];rw[m.trees]
 (apply V0 rfl (QO (Q4 (bg (E pins p g M _ i A) ?_)));rintro S R ⟨y,U,L,q,kvs,k,v,J,G,l,t⟩;apply U1 ?_)
 subst G;exact xk8 L J q l (.inl rfl) λN O I3 B=>#[v,_,I3,B,t]
end
section
variable{X:Cx}{pins:List (Addr×Obj)}{σ:St}{H:Hp}{s:Shared}{a:Addr}{kvs:List (Key×V)}{A:Around}{E:Value->Shared->Prop}
def vv7(I:Inv X pins σ H s)(e:Rd H a (.dK kvs))(h:∀p g,H p=none->Inv X pins σ (upd H p (.dK kvs)) g->Q (.ref p) g):wpAny (model X.prog X.w) A (call (.type "dict") [.ref a]) Q E s:=by let#[z,l,m,f,dd]:=xS I.aE e;apply kt_call_dict l dd (by rw[<- f.length];exact z) λr j k=>?_;apply h _ _ (I.aE.fresh (B9 _)) (I.laid (a:=s.heap.objs.size) (o:=.dK kvs) (t':=s.toks) (λb q i=>?_) (B9 _) (Nn z (beq_eq_false_iff_ne.mpr (D3 (J7 I.big))) f j));exact(k.2 b (J7 (D8 i))).trans (B8 _ i)
end
end L2
namespace HT
open PySem PyProof.Rows
section
open PySem.SeqAt
open PySem.AutoSeq1 (wpAny_loadPart')
open PySem.MeetsSeq PySem.MeetsSeq2 PySem.MeetsSeq3
end
section
variable{prog:Program}{w:World}{A:Around}{E:Value->Shared->Prop}{s:Shared}
def zd{vs f:List Value}(u:IsTup s.heap t vs.toArray)(x:IsTup s.heap b f.toArray)(p:vs≠[]) (h1:f=[]->Q (.ref t) s) (y:f≠[]->Q (.ref s.heap.objs.size) { s with heap:=s.heap.push { cls:=.type "tuple",data:=.seq (vs++f).toArray}}) (hsz:vs.length+f.length<=sizeLine):wpAny (model prog w) A (N0 .Add (.ref t) (.ref b)) Q E s:=by
 let#[#[cls,dd,data,m],i,r,n,q]:=id u;let#[#[B,l,data2,k],h,j,o,g]:=id x;simp only at r q j g;subst r q j g;have e:vs.toArray++f.toArray=(vs++f).toArray:=by simp
 by_cases hw:f=[]
 .exact ZM #[_,i,rfl] #[_,h,rfl] B33 ZV A44 A36 (A26 _ _)
   (tuple_addW1 t b vs.toArray f.toArray n o dd l m k (by simpa using p) (by simp[hw])) #[i,h,h1 hw]
 .apply ZM #[_,i,rfl] #[_,h,rfl] B33 ZV A44 A36 (A26 _ _)
   (tuple_addW2 t b vs.toArray f.toArray n o dd l m k (by simpa using p) (by simpa using hw) (by rw[E2,E2];exact hsz)) #[i,h,?_]
  rw[e];exact y hw
def bU(n d:Nat):Option Int->Nat
 | none=>d| some v=>if v<0 then(v+(n:Int)).toNat else min v.toNat n
def mZ(n d:Nat):bU n d none=d:=rfl
def lT(n d k:Nat):bU n d (some (k:Int))=min k n:=by show(if(k:Int)<0 then((k:Int)+(n:Int)).toNat else min (k:Int).toNat n)=min k n;rw[if_neg (),U2]
def wv5(n d:Nat)(g:d<=n)(o:Option Int):bU n d o<=n:=by
 cases o with
 | none=>exact g| some v =>
  show(if v<0 then(v+(n:Int)).toNat else min v.toNat n)<=n;by_cases f:v<0
  .rw[if_pos f];omega
  .rw[if_neg f];exact Nat.min_le_right _ _
def vl6(v:Int)(n d:Nat):(if v<0 then max (v+(n:Int)) 0 else min v (n:Int))=((bU n d (some v):Nat):Int):=by
 show(if v<0 then max (v+(n:Int)) 0 else min v (n:Int))=(((if v<0 then(v+(n:Int)).toNat else min v.toNat n):Nat):Int)
 by_cases f:v<0
 .simp only[if_pos f];omega
 .simp only[if_neg f];omega
def v85(lo hi:Option Int)(n:Nat):A18 lo hi 1 (n:Int)=(((bU n 0 lo:Nat):Int),((bU n n hi:Nat):Int)):=by
 have f:¬ ((1:Int)<0):=()
 unfold A18;simp only[f,if_false];apply AZ ?_ ?_
 .cases lo with
  | none=>rfl| some v=>exact vl6 v n 0
 .cases hi with
  | none=>rfl| some v=>exact vl6 v n n
def v65(i j:Nat):V8 (i:Int) (j:Int) 1=j-i:=by
 unfold V8;have f:(1:Int)>0:=()
 simp only[f,if_true,Int.ediv_one];split <;> omega
def ul8(p:IsPart v o)(h:Q o s):wpAny (model prog w) A (C27 v) Q E s:=by
 cases p with
 | none=>exact slicePart_none h| int i t=>exact slicePart_int h
def ug7{k:Addr}{i g:Value}{lo hi:Option Int}{n:Nat}{Q:Int×Int×Nat->Shared->Prop}(m:s.heap.IsSliceOf k i g .none)(pl:IsPart i lo)(l:IsPart g hi) (h:Q (((bU n 0 lo:Nat):Int),1,bU n n hi-bU n 0 lo) s):wpAny (model prog w) A (A89 (.ref k) (pure (n:Int))) Q E s:=by
 let#[os,j,o,f]:=id m;unfold A89 C58;apply B5 (B5 (L9 j f (x:=i) rfl (B5 (L9 j f (x:=g) rfl (B5 (L9 j f (x:=.none) rfl (C4 ?_)))))));apply B5 (slicePart_none ?_);show wpAny _ _ (if((1:Int)==0)=true then _ else _) _ _ s;rw[if_neg ∅];apply B5 (ul8 pl (B5 (ul8 l (B5 (C4 ?_)))));show wpAny _ _ (match A18 lo hi 1 (n:Int) with|(lo,hi)=>pure (lo,(1:Int),V8 lo hi 1)) _ _ s;rw[v85 lo hi n];show wpAny _ _ (pure (((bU n 0 lo:Nat):Int),(1:Int),V8 ((bU n 0 lo:Nat):Int) ((bU n n hi:Nat):Int) 1)) _ _ s;rw[v65];exact C4 h
def vq3(xs:Array Value)(i k:Nat):((E6 k).filterMap λ(m:Nat)=>xs[((i:Int)+(m:Int)*1).toNat]?).toArray=((xs.toList.drop i).take k).toArray:=by
 have e:(λ(m:Nat)=>xs[((i:Int)+(m:Int)*1).toNat]?)=λm=>xs[i+m]?:=by
  funext m;have:((i:Int)+(m:Int)*1).toNat=i+m:=()
  rw[this]
 rw[e];have:=pick_run xs i k;rw[B82] at this;have f:((λx=>xs[x]?)∘λx=>i+x)=λm=>xs[i+m]?:=rfl;rw[f] at this;rw[this]
def gR{t i:Addr}{items:Array Value}{l k:Value}{lo hi:Option Int}{Q:Value->Shared->Prop}(g:IsTup s.heap t items)(n:s.heap.IsSliceOf i l k .none)(pl:IsPart l lo)(o:IsPart k hi) (hw:¬ (bU items.size 0 lo=0/\bU items.size items.size hi=items.size)) (h:Q (.ref s.heap.objs.size) { s with heap:=s.heap.push { cls:=.type "tuple",data:=.seq ((items.toList.drop (bU items.size 0 lo)).take (bU items.size items.size hi-bU items.size 0 lo)).toArray}}) (hsz:items.size<=sizeLine):wpAny (model prog w) A (AX (.ref t) (.ref i)) Q E s:=by
 have f:sizeOk (.seq ((items.toList.drop (bU items.size 0 lo)).take (bU items.size items.size hi-bU items.size 0 lo)).toArray):=by show((items.toList.drop (bU items.size 0 lo)).take (bU items.size items.size hi-bU items.size 0 lo)).toArray.size<=sizeLine;rw[E2,Q6,Y4,K7];omega
 have C:bU items.size items.size hi<=items.size:=wv5 _ _ (B9 _) hi;let#[os,u,r,x]:=id n;have j:s.TypeIs (.ref i) "slice" := #[os,u,r];unfold AX;try with_reducible apply N5 ?_
 first|apply B5 (C4 ?_)|skip
 apply B5 (wpAny_sequenceKey g.typeIs ∅ ?_);apply B5 (O5 (name:=J0 "__getitem__") g.typeIs Y1
  (P3 Y1 g.typeIs entry_tuple_getitem ?_ (args_tuple_getitem _ _)))
 show wpAny _ _ (A85 (.ref t) >>= _) _ _ s;apply B5 (tupleItemsOf_ g ?_);apply B5 (Fe j ?_);rw[if_pos ∅];apply B5 (ug7 n pl o ?_);have p:¬ ((((bU items.size 0 lo:Nat):Int)==0&&(1:Int)==1&&(bU items.size items.size hi-bU items.size 0 lo)==items.size)=true):=by intro q;rw[O9,O9] at q;have B:((bU items.size 0 lo:Nat):Int)=0:=eq_of_beq q.1.1;have y:bU items.size items.size hi-bU items.size 0 lo=items.size:=eq_of_beq q.2;exact hw #[(),()]
 show wpAny _ _ (if(((bU items.size 0 lo:Nat):Int)==0&&(1:Int)==1&&(bU items.size items.size hi-bU items.size 0 lo)==items.size)=true then _ else _) _ _ s;rw[if_neg p,vq3];first
  | exact B5 (m:=X8 _) (U6 (C4 ⟨_,rfl,C4 h⟩) f)
  | exact B5 (m:=X8 _) (U6 (B5 (C4 (C4 ⟨_,rfl,C4 h⟩))) f)
  | exact B5 (B5 (m:=X8 _) (U6 (C4 (C4 ⟨_,rfl,C4 h⟩)) f))
  | exact B5 (B5 (m:=X8 _) (U6 (C4 ⟨_,rfl,C4 h⟩) f))
end
end HT
namespace L2
open PySem PySem.Spec PyProof.Rows
abbrev TO:=St->Hp->(Option Int->Hp->Prop)->Prop
def PO(X:Cx)(e:Option Expr)(t:TO):Prop:=
 ∀(pins:List (Addr×Obj)) (s:Shared) (f:St) (H:Hp) (Q:Option Int->Hp->Prop),Inv X pins f H s->t f H Q ->
  wpAny (model X.prog X.w) X.A (evalPart e X.env) (λu h=>∃o g,Inv X pins f g h/\IsPart u o/\Q o g) X.xe s
def va9:TO:=λ_ H Q=>Q none H
def wt4(t:TE):TO:=λf H Q=>t f H λx g=>∃i,x=.int i/\Q (some i) g
def intsAre_of{ns:List Int}:∀{us:List Value},Vals (ns.map V.int) us->wQ us ns:=by
 induction ns with
 | nil=>intro us r;rw[Ff] at r;cases r;exact .nil
 | cons n ns h =>
  intro us r;rw[C0] at r;cases r with
  | cons g f =>let#[t,e]:=g;subst e;exact .cons n t (h f)
section
variable{X:Cx}{e:Expr}{te:TE}{lo hi:Option Expr}{tl th:TO}{pos p2:Pos}
def wh3:PO X none va9:=by intro pins s f H Q I h;rw[ZU];exact C4 #[none,H,I,.none,h]
def wh2(h:PE X e te):PO X (some e) (wt4 te):=by
 intro pins s f H Q I hw;rw[evalPart_some]
 (apply bg (h pins s f H _ I hw) ?_;rintro u m ⟨x,l,k,g,j⟩)
 let#[i,rfl,q]:=j;let#[t,rfl]:=g;exact#[some i,l,k,.int i t,q]
def ve(X:Cx)(r:V->Option Int->Option Int->Hp->VK->Prop):Prop:=
 ∀(pins:List (Addr×Obj)) (s:Shared) (f:St) (H:Hp) (x:V) (v h g:Value) (lo hi:Option Int) (i:Addr) (Q:VK),Inv X pins f H s->RelV x v->s.heap.IsSliceOf i h g .none->IsPart h lo->IsPart g hi->r x lo hi H Q ->
  ∃T id,My (.type T) "__getitem__" = pure (some (.builtin id))/\s.TypeIs v T/\wpAny (model X.prog X.w) X.A (AX v (.ref i)) (EP X pins f Q) X.xe s
def ve.or{r r':V->Option Int->Option Int->Hp->VK->Prop}(h:ve X r)(h':ve X r'):ve X (λx lo hi H Q=>r x lo hi H Q\/r' x lo hi H Q):=by
 intro pins s f H x v i g lo hi j Q I k n m l q;rcases q with q|q
 .exact h pins s f H x v i g lo hi j Q I k n m l q
 .exact h' pins s f H x v i g lo hi j Q I k n m l q
def tSl(r:V->Option Int->Option Int->Hp->VK->Prop)(te:TE)(tl th:TO):TE:=λf H Q=>te f H λx i=>tl f i λl h=>th f h λu g=>r x l u g Q
def vq6(M:ve X r)(R:PE X e te)(N:PO X lo tl)(J:PO X hi th):PE X (.Subscript e (.Slice lo hi none p2) pos) (tSl r te tl th):=by
 intro pins s g H Q I h
 (apply Qa (bg (R pins s g H _ I h) ?_);rintro v o ⟨x,H1,Z,p,B⟩)
 (apply wpAny_Slice (bg (N pins o g H1 _ Z B) ?_);rintro k n ⟨l,H2,Y,E,y⟩;apply bg (J pins n g H2 _ Y y) ?_;rintro j f ⟨u,m,I3,C,t⟩)
 rw[ZU];apply C4 ?_;have U:Inv X pins g m { f with heap:=f.heap.push { cls:=.type "slice",data:=.fields [k,j,.none].toArray}}:=I3.kept (t':=f.toks) λb ob q=>B8 _ q;let#[T,id,S,L,O]:=M pins { f with heap:=f.heap.push { cls:=.type "slice",data:=.fields [k,j,.none].toArray}} g m x v k j l u f.heap.objs.size Q U p (B83 ..) E C t;show wpAny (model X.prog X.w) X.A (Qo e (.Slice lo hi none p2) v (.ref f.heap.objs.size)) (EP X pins g Q) X.xe { f with heap:=f.heap.push { cls:=.type "slice",data:=.fields [k,j,.none].toArray}};exact Zt (ops:=[.ref f.heap.objs.size,v]) L S O (by with_unfolding_all rfl)
def oK(xs:List V)(lo hi:Option Int):List V:=(xs.drop (HT.bU xs.length 0 lo)).take (HT.bU xs.length xs.length hi-HT.bU xs.length 0 lo)
def uk7(xs:List V)(lo hi:Option Int):(oK xs lo hi).length<=xs.length:=by unfold oK;rw[Q6,Y4];omega
def Wl(K:W.Frag):V->Option Int->Option Int->Hp->VK->Prop:=λx lo hi H Q=>∃a xs,x=.ref a/\eF K H a xs /\
 ¬ (HT.bU xs.length 0 lo=0/\HT.bU xs.length xs.length hi=xs.length)/\∀p,H p=none->Q (.ref p) (upd H p (.tup (oK xs lo hi)))
def wv1:ve X (Wl X.K):=by
 intro pins s p H x v u t lo hi A Q I j n l k h;let#[a,xs,rfl,m,hw,q]:=h;cases j;let#[its,r,i,g]:=I.tuple m;have f:its.toArray.size=xs.length:=by rw[E2];exact r.length.symm
 apply#["tuple",_,Y1.lookup,i.typeIs,?_];apply HT.gR i n l k (by rw[f];exact hw) ?_ (by rw[f];exact g);rw[f];apply#[.ref s.heap.objs.size,_,I.laid (t':=s.toks) (o:=.tup (oK xs lo hi)) (λb B q=>B8 _ q) (B9 _) ?_,rfl,q _ (I.aE.fresh (B9 _))];exact#[D5 (uk7 xs lo hi) g,_,(r.drop (HT.bU xs.length 0 lo)).take (HT.bU xs.length xs.length hi-HT.bU xs.length 0 lo),oP.new _ _]
def xi5(K:W.Frag):R2:=λx y H Q=>∃a b xs f,x=.ref a/\y=.ref b/\eF K H a xs/\eF K H b f/\xs≠[]/\xs.length+f.length<=sizeLine /\
 (f=[]->Q (.ref a) H)/\(f≠[]->∀p,H p=none->Q (.ref p) (upd H p (.tup (xs++f))))
def Vals.je(r:Vals xs us):us=[]↔xs=[]:=by
 cases r with
 | nil=>simp| cons _ _=>simp
def q_:dg X (N0 .Add) (xi5 X.K):=by intro pins s B H x y v u Q I l k h;let#[a,b,xs,j,rfl,rfl,A,t,r,i,n,m]:=h;cases l;cases k;let#[its,g,p,_]:=I.tuple A;let#[G,f,p2,_]:=I.tuple t;apply HT.zd p p2 (λz=>r (g.je.mp z)) (λz=>#[.ref a,H,I,rfl,n (f.je.mp z)]) (λz=>?_) (by rw[<- g.length,<- f.length];exact i);apply#[.ref s.heap.objs.size,_,I.laid (t':=s.toks) (o:=.tup (xs++j)) (λb E q=>B8 _ q) (B9 _) ?_,rfl,m (λw=>z (f.je.mpr w)) _ (I.aE.fresh (B9 _))];exact#[by rw[B4];exact i,_,g.append f,oP.new _ _]
end
def i6(n:Nat)(i:Int):Option Nat:=if 0<=i then(if i<n then some i.toNat else none) else if -(n:Int)<=i then some (i+n).toNat else none
def dE{f:Type}(xs:List f):Int->Option f
 | .ofNat j=>xs[j]?| i=>(i6 xs.length i).bind λj=>xs[j]?
def Dy{f:Type}(xs:List f)(i:Int):dE xs i=(i6 xs.length i).bind λj=>xs[j]?:=by
 cases i with
 | negSucc j=>rfl| ofNat j =>
  unfold i6;rw[if_pos (show(0:Int)<=.ofNat j from QJ j)];split
  .rfl
  .rename_i h;exact M8 (C08 λk=>h (Int.ofNat_lt.mpr k))
def vh8{n:Nat}(h:i6 n i=some j):seqIndex? i n=some j/\j<n/\-(n:Int)<=i/\i<n:=by
 unfold i6 at h;by_cases g:0<=i
 .rw[if_pos g] at h;by_cases f:i<n
  .rw[if_pos f] at h;have e:i.toNat=j:=E1 h;exact#[by rw[ZF g f,e],(),(),f]
  .rw[if_neg f] at h;cases h
 .rw[if_neg g] at h;by_cases f:-(n:Int)<=i
  .rw[if_pos f] at h;have e:(i+n).toNat=j:=E1 h;exact#[by rw[ZL () f,e],(),f,()]
  .rw[if_neg f] at h;cases h
def UH{f:Type}{xs:List f}{i:Int}{v:f}(h:dE xs i=some v):∃j,seqIndex? i xs.length=some j/\xs[j]?=some v/\j<xs.length/\-(xs.length:Int)<=i/\i<xs.length:=by
 rw[Dy] at h;cases e:i6 xs.length i with
 | none=>rw[e] at h;cases h
 | some j =>rw[e] at h;let#[m,l,k,g]:=vh8 e;exact#[j,m,h,l,k,g]
def x8{f:Type}{xs:List f}{j:Nat}{v:f}(h:xs[j]?=some v):dE xs (j:Int)=some v:=by
 have g:j<xs.length:=(L8.mp h).1;have e:i6 xs.length (j:Int)=some j:=by unfold i6;rw[if_pos (),if_pos ()];simp
 rw[Dy,e];exact h
def vn2(b:Expr):Prop:=∀o i,subscripted b false o i=operate [o,i] (AX o i)
def tw(X:Cx)(r:R2):Prop:=
 ∀(value slice:Expr) (pins:List (Addr×Obj)) (s:Shared) (f:St) (H:Hp) (x y:V) (v u:Value) (Q:VK),Inv X pins f H s->RelV x v->RelV y u->r x y H Q ->
  subscripted slice false v u=operate [v,u] (AX v u)->wpAny (model X.prog X.w) X.A (Qo value slice v u) (EP X pins f Q) X.xe s
def Aj(X:Cx)(id:String)(r:V->List V->Hp->VK->Prop):Prop:=
 ∀(pins:List (Addr×Obj)) (s:Shared) (f:St) (H:Hp) (x:V) (xs:List V) (v:Value) (g:List Value) (Q:VK),Inv X pins f H s->RelV x v->Vals xs g->r x xs H Q ->
  wpAny (model X.prog X.w) X.A (call (.builtin id) (v::g)) (EP X pins f Q) X.xe s
section
variable{X:Cx}{a b:Expr}{ta tb:TE}{pos:Pos}
def tw.or{r r':R2}(h:tw X r)(h':tw X r'):tw X (λx y H Q=>r x y H Q\/r' x y H Q):=by
 intro value slice pins s f H x y v u Q I i g q j;rcases q with q|q
 .exact h value slice pins s f H x y v u Q I i g q j
 .exact h' value slice pins s f H x y v u Q I i g q j
def Aj.or{id:String}{r r':V->List V->Hp->VK->Prop}(h:Aj X id r)(h':Aj X id r'):Aj X id (λx xs H Q=>r x xs H Q\/r' x xs H Q):=by
 intro pins s f H x xs v g Q I i j q;rcases q with q|q
 .exact h pins s f H x xs v g Q I i j q
 .exact h' pins s f H x xs v g Q I i j q
def xj4(l:tw X r)(n:PE X a ta)(m:PE X b tb)(k:vn2 b):PE X (.Subscript a b pos) (GH r ta tb):=by intro pins s f H Q I h;exact Qa (Df n m I h λv u g x y p o j i q=>l a b pins g f p x y v u Q o j i q (k _ _))
def Hc(K:W.Frag):R2:=λx y H Q=>∃p xs i v,x=.ref p/\y=.int i/\eR K H p xs/\dE xs i=some v/\Q v H
def Ha(K:W.Frag):R2:=λx y H Q=>∃p xs i v,x=.ref p/\y=.int i/\eF K H p xs/\dE xs i=some v/\Q v H
def Hb:R2:=λx y H Q=>∃z i c,x=.str z/\y=.int i/\z.length<=sizeLine/\dE z.cps.toList i=some c/\Q (.str #[[c].toArray]) H
def yJ:tw X (Hc X.K):=by
 intro value slice pins s l H x y v u Q I C B h m;let#[p,xs,i,z,rfl,rfl,G,L,q]:=h;cases C;let#[t,rfl]:=B;let#[its,r,g,R]:=I.list G;let#[j,f,O,U,N,M]:=UH L;let#[w,o,E]:=r.get O;have J:=r.length;have S:=iF;have fin:EP X pins l Q w s:=#[z,H,I,E,q];by_cases n:0<=i
 .have k:i.toNat=j:=by rw[ZF n M] at f;exact E1 f
  exact item_listR g.isList n () (by rw[k];simpa using o) fin m
 .have k:(i+(its.toArray.size:Int)).toNat=j:=by rw[ZL () N] at f;rw[E2,<- J];exact E1 f
  exact subscriptTail_builtinR (x:=w) g.isList.typeIs B08.lookup
   (wpAny_getItem_list_neg (Q:=λr A=>r=w/\EP X pins l Q r A) g.isList () (by rw[E2] <;> omega) () (by rw[k];simpa using o) #[rfl,fin]) m
def Cb:tw X (Ha X.K):=by
 intro value slice pins s f H x y v u Q I m l h o;let#[p,xs,i,z,rfl,rfl,A,C,q]:=h;cases m;let#[t,rfl]:=l;let#[its,r,g,L]:=I.tuple A;let#[j,G,E,R,O,N]:=UH C;let#[w,J,n]:=r.get E;have B:=r.length;have M:=iF;have fin:EP X pins f Q w s:=#[z,H,I,n,q];exact subscriptTail_builtinR (x:=w) g.typeIs slot_tuple_getitem.lookup
  (getItem_tuple (j:=j) (Q:=λr k=>r=w/\EP X pins f Q r k) g () () (by rw[E2,<- B];exact G) (by simpa using J) #[rfl,fin]) o
def x97:tw X Hb:=by
 intro value slice pins s C H x y v u Q I k g h l;let#[z,i,c,rfl,rfl,G,n,q]:=h;let#[t,rfl]:=k;let#[E,rfl]:=g;let#[j,f,r,L,p,o]:=UH n;have m:z.cps.toList.length=z.length:=by simp[Fb]
 rw[m] at f p o;have J:=iF;exact Zt (Zy s z t) slot_str_getitem.lookup (getItem_str (c:=c) (by have B:decide (i < -(2^63:Int))=false:=decide_eq_false ();have A:decide (i ≥ 2^63)=false:=decide_eq_false ();rw[B,A,Qr]) (by rw[f];simpa using r) #[.str #[[c].toArray],H,I.tok _,#[_,rfl],q]) l
def rIx(K:W.Frag):R2:=λx y H Q=>Hc K x y H Q\/Ha K x y H Q\/Hb x y H Q
def x98:tw X (rIx X.K):=yJ.or (Cb.or x97)
def v69(its:List Value)(n j:Nat)(u:Value):Mz (·.setIfInBounds j u) { cls:=.type "list",data:=.seq its.toArray n}={ cls:=.type "list",data:=.seq (its.set j u).toArray n}:=by simp[Mz]
theorem Inv.lst{pins:List (Addr×Obj)}{f:St}{H:Hp}{s:Shared}{p:Addr}{xs:List V}(I:Inv X pins f H s)(h:H p=some (.lst xs)): ∃(its:List Value) (n:Nat),Vals xs its/\s.heap.get? p=some { cls:=.type "list",data:=.seq its.toArray n}/\xs.length<=sizeLine:=by
 let#[z,its,n,r,e]:=I.aE p _ h;exact#[its,n,r,e,z]
def Inv.BW{its gP:List Value}(I:Inv X pins j H s)(h:H p=some (.lst xs)) (l:s.heap.get? p=some { cls:=.type "list",data:=.seq its.toArray n}) (i:f { cls:=.type "list",data:=.seq its.toArray n}={ cls:=.type "list",data:=.seq gP.toArray g}) (r:Vals ys gP) (k:ys.length<=sizeLine) (t:Nat): Inv X pins j (upd H p (.lst ys)) { s with heap:=s.heap.update p f,toks:=t}:=by
 have e:(s.heap.update p f).get? p=some { cls:=.type "list",data:=.seq gP.toArray g}:=by rw[B58 f l (by rw[i] <;> rfl),i]
 apply I.write (x:=p) (e:=p) (by rw[h];trivial) (.inl rfl) (λb u m q=>(B37 _ _ (D3 m)).trans q) #[_,e] ?_;exact#[k,gP,g,r,e]
def xi4:V->V->V->Hp->(Hp->Prop)->Prop:=λo i v H Q=>∃p xs k j,o=.ref p/\i=.int k/\H p=some (.lst xs)/\i6 xs.length k=some j/\Q (upd H p (.lst (xs.set j v)))
def set_list:tq X xi4:=by
 intro pins s E H o i v O R u Q I J L G h;let#[p,xs,k,j,rfl,rfl,x,N,q]:=h;cases J;let#[t,rfl]:=L;let#[its,n,r,g,M]:=I.lst x;let#[f,U,A,y]:=vh8 N;have l:=r.length;have S:=iF;have C:Inv X pins E (upd H p (.lst (xs.set j v))) { s with heap:=s.heap.update p (Mz (·.setIfInBounds j u))}:=
  I.BW x g (v69 its n j u) (r.set G j) (by rw[J9];exact M) s.toks
 by_cases B:0<=k
 .have m:k.toNat=j:=by rw[ZF B y] at f;exact E1 f
  exact W.ki_setAt g B () (by rw[E2,<- l];exact y) (by rw[m];exact#[_,C,q])
 .have m:(k+(its.toArray.size:Int)).toNat=j:=by rw[ZL () A] at f;rw[E2,<- l];exact E1 f
  exact W.ki_setBack g () (by rw[E2,<- l];exact A) () (by rw[m];exact#[_,C,q])
def ut2(lo hi:Option Int)(n:Nat):(Bb lo hi none n).1=((HT.bU n 0 lo:Nat):Int)/\(Bb lo hi none n).2.1=((HT.bU n n hi:Nat):Int)/\(Bb lo hi none n).2.2=1:=by
 apply#[?_,?_,rfl]
 .cases lo with
  | none=>simp[Bb,HT.bU]| some i =>
   simp only[Bb,HT.bU,C09,show(1:Int)>0 by decide,if_true];by_cases h:i<0
   .simp only[h,if_true] <;> omega
   .simp only[h,if_false] <;> omega
 .cases hi with
  | none=>simp[Bb,HT.bU]| some i =>
   simp only[Bb,HT.bU,C09,show(1:Int)>0 by decide,if_true];by_cases h:i<0
   .simp only[h,if_true] <;> omega
   .simp only[h,if_false] <;> omega
def uo7(its:List Value)(lo hi:Option Int):PY its.toArray lo hi none=((its.drop (HT.bU its.length 0 lo)).take (HT.bU its.length its.length hi-HT.bU its.length 0 lo)).toArray:=by let#[h,g,f]:=ut2 lo hi its.toArray.size;unfold PY;rw[h,g,f];simp only[sliceRange_one,pick_run,E2] <;> rfl
def Wm(K:W.Frag):V->Option Int->Option Int->Hp->VK->Prop:=λx lo hi H Q=>∃a xs,x=.ref a/\eR K H a xs/\∀p,H p=none->Q (.ref p) (upd H p (.lst (oK xs lo hi)))
def yl:ve X (Wm X.K):=by intro pins s p H x v u t lo hi A Q I i n k j h;let#[a,xs,rfl,m,q]:=h;cases i;let#[its,r,g,l]:=I.list m;have f:=r.length;apply#["list",_,B08.lookup,g.isList.typeIs,?_];apply wpAny_getItem_list_slice g.isList n k j .none (by simp) ?_ (by rw[E2] <;> omega);rw[uo7,<- f];apply#[.ref s.heap.objs.size,_,I.laid (t':=s.toks) (o:=.lst (oK xs lo hi)) (λb B q=>B8 _ q) (B9 _) ?_,rfl,q _ (I.aE.fresh (B9 _))];exact#[D5 (uk7 xs lo hi) l,_,0,(r.drop (HT.bU xs.length 0 lo)).take (HT.bU xs.length xs.length hi-HT.bU xs.length 0 lo),E4 _ rfl]
def ub:V->Bool
 | .non=>true| .bl _=>true| .int _=>true| .str _=>true| _=>false
def y0:V->V->Bool
 | .non,.non=>true| .bl a,.bl b=>a==b| .bl a,.int b=>(if a then 1 else 0)==b| .int a,.bl b=>a==(if b then 1 else 0)| .int a,.int b=>a==b| .str a,.str b=>a==b| _,_=>false
def w43(h:RelV y u)(f:RelV x v)(j:ub y=true)(i:ub x=true):Dv A s u v (y0 y x):=by
 cases y with
 | non =>
  cases h;cases x with
  | non=>cases f;exact B52 _
  | bl b=>cases f;exact C96 b
  | int b=>let#[t,rfl]:=f;exact D09 b t| str b=>let#[t,rfl]:=f;exact D10 b t| _=>exact absurd (show false=true from i) C9
 | bl a =>
  cases h;cases x with
  | non=>cases f;exact C97 a
  | bl b=>cases f;exact C98 a b
  | int b=>let#[t,rfl]:=f;exact D11 a b t| str b=>let#[t,rfl]:=f;exact D12 a b t| _=>exact absurd (show false=true from i) C9
 | int a =>
  let#[g,rfl]:=h;cases x with
  | non=>cases f;exact D13 a g
  | bl b=>cases f;exact D14 a g b
  | int b=>let#[t,rfl]:=f;exact D20 a g b t| str b=>let#[t,rfl]:=f;exact B77 a g b t| _=>exact absurd (show false=true from i) C9
 | str a =>
  let#[g,rfl]:=h;cases x with
  | non=>cases f;exact D15 a g
  | bl b=>cases f;exact D16 a g b
  | int b=>let#[t,rfl]:=f;exact B78 a g b t| str b=>let#[t,rfl]:=f;exact D21 a g b t| _=>exact absurd (show false=true from i) C9
 | _=>exact absurd (show false=true from j) C9
def y_(x:V)(u:Value):Bool:=match u with
 | .none=>y0 .non x| .bool b=>y0 (.bl b) x| .int i _=>y0 (.int i) x| .str z _=>y0 (.str z) x| _=>false
def w42(r:RelV y u)(f:ub y=true):y_ x u=y0 y x:=by
 cases y with
 | non=>cases r;rfl
 | bl b=>cases r;rfl
 | int i=>let#[t,rfl]:=r;rfl| str z=>let#[t,rfl]:=r;rfl| _=>exact absurd (show false=true from f) C9
theorem UE:∀{xs:List V} {us:List Value},Vals xs us->xs.all ub=true->us.any (y_ x)=xs.any λy=>y0 y x
 | _,_,.nil,_=>rfl| y::xs,u::us,.cons r t,f=>by rw[V3,O9] at f;rw[O7,O7,w42 r f.1,UE t f.2]
theorem Vm(g:RelV x v)(h:ub x=true):∀{xs:List V} {us:List Value},Vals xs us->xs.all ub=true->∀u∈us,Dv A s u v (y_ x u)
 | _,_,.nil,_=>λu hu=>by cases hu
 | y::xs,u::us,.cons r t,f=>λi hu=>by
  rw[V3,O9] at f;rcases D7.mp hu with rfl|hu
  .rw[w42 r f.1];exact w43 r g f.1 h
  .exact Vm g h t f.2 i hu
def Ey(x:V)(xs:List V):Bool:=xs.any λy=>y0 y x
def rIn(K:W.Frag)(neg:Bool):R2:=λx y H Q=>∃p xs,y=.ref p/\(eR K H p xs\/eF K H p xs)/\ub x=true/\xs.all ub=true/\Q (.bl (if neg then !Ey x xs else Ey x xs)) H
def ve1:dg X (L6 .In) (rIn X.K false):=by
 intro pins s m H x y v u Q I i k h;let#[p,xs,rfl,hq,j,f,q]:=h;cases k;rcases hq with hq|hq
 .let#[its,r,g,l]:=I.list hq;apply SeqAt.in_listAt (y_ x) g.isList (λw hw=>Vm i j r f w (by simpa using hw)) #[.bl _,H,I,rfl,?_];rw[show its.toArray.any (y_ x)=its.any (y_ x) by simp,UE r f];exact q
 .let#[its,r,g,l]:=I.tuple hq;apply SeqAt.in_tupleAt (y_ x) g (λw hw=>Vm i j r f w (by simpa using hw)) #[.bl _,H,I,rfl,?_];rw[show its.toArray.any (y_ x)=its.any (y_ x) by simp,UE r f];exact q
def mh:bK X (.builtin "len") (λxs H Q=>∃p ys,xs=[.ref p]/\(eR X.K H p ys\/eF X.K H p ys)/\Q (.int ys.length) H):=by
 intro pins s l H xs m Q I r h;let#[p,ys,rfl,hq,q]:=h;let#[u,rfl,j]:=vals1 r;cases j;have n:=iF;rcases hq with hq|hq
 .let#[its,g,i,k]:=I.list hq;have f:=g.length;exact Calls.call_len_list i.isList (by simp only[E2] <;> omega) #[.int ys.length,H,I.tok _,#[s.toks+1,by rw[E2,f]],q]
 .let#[its,g,i,k]:=I.tuple hq;have f:=g.length;exact len_tuple i (by simp only[E2] <;> omega) #[.int ys.length,H,I.tok _,#[s.toks+1,by rw[E2,f]],q]
def uv4:bK X (.builtin "len") (λxs H Q=>∃z,xs=[.str z]/\z.length<=sizeLine/\Q (.int z.length) H):=by intro pins s f H xs g Q I r h;let#[z,rfl,i,q]:=h;let#[u,rfl,t,rfl]:=vals1 r;have j:=iF;exact len_str () #[.int z.length,H,I.tok _,#[_,rfl],q]
def bK.or{f:Value}{r r':List V->Hp->VK->Prop}(h:bK X f r)(h':bK X f r'):bK X f (λxs H Q=>r xs H Q\/r' xs H Q):=by
 intro pins s g H xs i Q I j q;rcases q with q|q
 .exact h pins s g H xs i Q I j q
 .exact h' pins s g H xs i Q I j q
def uv3:bK X (.type "list") (λxs H Q=>∃p ys,xs=[.ref p]/\(eR X.K H p ys\/eF X.K H p ys)/\∀l,H l=none->Q (.ref l) (upd H l (.lst ys))):=by
 intro pins s E H xs L Q I r h;let#[p,ys,rfl,hq,q]:=h;let#[u,rfl,G]:=vals1 r;cases G;have fin:∀(its:List Value),Vals ys its->ys.length<=sizeLine->∀(f:Heap) (i:Nat),(∀b C,s.heap.get? b=some C->f.get? b=some C) ->
   f.get? s.heap.objs.size=some { cls:=.type "list",dict:=none,data:=.seq its.toArray i,slots:=[].toArray}->EP X pins E Q (.ref s.heap.objs.size) { s with heap:=f}:=λits g k f i j e =>
  #[.ref s.heap.objs.size,_,I.laid (t':=s.toks) j (B9 _) (show bu X.prog X.w _ f _ (.lst ys) from #[k,its,i,g,e]),rfl,q _ (I.aE.fresh (B9 _))]
 rcases hq with hq|hq
 .let#[its,g,x,k]:=I.list hq;have m:=g.length;let#[o,y,B,n,A]:=x.isList;exact call_list_seq p (.inl rfl) y B A (λf i j e=>fin its g k f i j e) (by simp only[E2] <;> omega)
 .let#[its,g,x,k]:=I.tuple hq;have m:=g.length;let#[o,y,B,n,A]:=x;exact call_list_seq p (.inr rfl) y B A (λf i j e=>fin its g k f i j e) (by simp only[E2] <;> omega)
def us0:bK X (.type "tuple") (λxs H Q=>∃p ys,xs=[.ref p]/\((eR X.K H p ys/\∀l,H l=none->Q (.ref l) (upd H l (.tup ys)))\/(eF X.K H p ys/\Q (.ref p) H))):=by
 intro pins s k H xs E Q I r h;let#[p,ys,rfl,h]:=h;let#[u,rfl,y]:=vals1 r;cases y;rcases h with⟨j,q⟩|⟨j,q⟩
 .let#[its,g,i,m]:=I.list j;have n:=g.length;apply call_tuple_list i.isList (λf A=>?_) (by simp only[E2] <;> omega);have t:Inv X pins k H { s with heap:=f}:=I.kept (t':=s.toks) A;have C:Inv X pins k (upd H f.objs.size (.tup ys)) { s with heap:=f.push { cls:=.type "tuple",data:=.seq its.toArray}}:=
   t.laid (t':=s.toks) (λb o e=>B8 _ e) (B9 _) (show bu X.prog X.w _ _ _ (.tup ys) from #[m,its,g,oP.new _ _])
  exact#[.ref f.objs.size,_,C,rfl,q _ (t.aE.fresh (B9 _))]
 .let#[its,g,i,m]:=I.tuple j;exact call_tuple_same i #[.ref p,H,I,rfl,q]
def Gz(K:W.Frag)(T:String)(x:V)(H:Hp):Prop:=match x with
 | .str _=>T = "str"| .int _=>T = "int"| .ref p=>(T = "list" /\ ∃xs,eR K H p xs)\/(T = "tuple" /\ ∃o,K.lookup p=some o/\o.cls=.type "tuple" /\ o.dict=none) \/
   (T = "dict" /\ ((∃kvs,H p=some (.dK kvs))\/∃kvs,H p=some (.dT kvs)))\/(T = "set" /\ ∃S n,H p=some (.set S n))
 | _=>False
def wt0(I:Inv X pins m H s)(r:RelV x v)(ty:Gz X.K T x H): s.TypeIs v T/\∀a,v=.ref a->∃ob,s.heap.get? a=some ob/\ob.dict=none:=by
 cases x with
 | str z =>let#[t,rfl]:=r;cases(show T = "str" from ty);exact#[Zy s z t,λ_ e=>nomatch e]
 | int i =>let#[t,rfl]:=r;cases(show T = "int" from ty);exact#[Zx s i t,λ_ e=>nomatch e]
 | ref p =>
  cases r;rcases ty with⟨rfl,xs,k⟩|⟨rfl,o,f,l,g⟩|⟨rfl,f⟩|⟨rfl,S,n,f⟩
  .let#[its,_,j,_]:=I.list k;apply#[j.isList.typeIs,λa e=>?_];cases e;let#[o,n,e,c,g,_]:=j;exact#[o,e,g]
  .apply#[#[o,I.i5 p o f,l],λa e=>?_];cases e;exact#[o,I.i5 _ o f,g]
  .have z:∃o,s.heap.get? p=some o/\o.ExactDict:=by
    rcases f with⟨kvs,f⟩|⟨kvs,f⟩
    .let#[_,_,_,_,o,_,_,e,ex,_]:=I.aE p _ f;exact#[o,e,ex]
    .let#[_,_,_,_,o,_,_,e,ex,_]:=I.aE p _ f;exact#[o,e,ex]
   let#[o,e,ex]:=z;apply#[#[o,e,ex.1],λa h=>?_];cases h;exact#[o,e,ex.2.1]
  .let#[o,_,_,_,e,ex,_]:=I.aE p _ f;apply#[#[o,e,ex.1],λa h=>?_];cases h;exact#[o,e,ex.2.1]
 | _=>exact Q2 ty
def tBM(K:W.Frag)(T:String)(r:V->List V->Hp->VK->Prop)(to:TE)(t:TA):TE:=λf H Q=>to f H λx g=>Gz K T x g/\t f g λxs h=>r x xs h Q
variable{o e:Expr}{es:List Expr}{to:TE}{t:TA}{name:Str}{apos aO:Pos}{T id:String}{r:V->List V->Hp->VK->Prop}
def RI(A:PlainAttrs T)(slot:Slot T name id)(g:typeOf (.builtin id)=pure (.type "method_descriptor"))(G:Aj X id r)(E:PE X o to)(J:PA X (e::es) t) (O:O2 o name X.env (eval o X.env)=eval o X.env:=by rfl)
  (B:((backTo aO (D1 (e::es) X.env)).all (λx=>!x.1)&&(X5 aO (P4 [] X.env)).all (λx=>x.1.isSome)
   && decide ((e::es).length+([]:List Keyword).length+(if([]:List Keyword).isEmpty then 0 else 1)<30))=true:=by rfl)
  (R:(apos.endLine==aO.line)=true:=by rfl) (C:D1 (e::es) X.env=(false,eval e X.env)::D1 es X.env:=by rfl) (N:(backTo aO (D1 es X.env)).any (·.1)=false:=by rfl):
  PE X (.Call (.Attribute o name apos) (e::es) [] aO) (tBM X.K T r to t):=by
 intro pins s f H Q I h
 (apply wpAny_Call_method_late O B R rfl (bg (E pins s f H _ I h) ?_);rintro v p ⟨x,Y,k,i,ty,y⟩)
 let#[M,L]:=wt0 k i ty;apply#[T,id,A,slot,g,M,L,?_];have j:=J aO pins p f Y _ k y;rw[C] at j⊢;apply V0 (by show(false||(backTo aO (D1 es X.env)).any (·.1))=false;rw[N] <;> rfl) (QO ?_)
 (apply bg j ?_;rintro m n ⟨l,U,S,q,u⟩;exact G pins n f U x l v m Q S i q u)
end
def MtM(X:Cx)(id:String)(r:V->List V->Hp->VK->Prop):Prop:=
 ∀(pins:List (Addr×Obj)) (s:Shared) (f:St) (H:Hp) (x:V) (xs:List V) (v:Value) (g:List Value) (Q:VK),Inv X pins f H s->RelV x v->Vals xs g->r x xs H Q ->
  wpAny (model X.prog X.w) X.A (call (.builtin id) (v::g)) (EP X pins f Q) X.xe s
def Vals.one(h:Vals [x] us):∃u,us=[u]/\RelV x u:=by cases h with|cons r t=>cases t;exact#[_,rfl,r]
def Vals.two(h:Vals [x,y] us):∃u v,us=[u,v]/\RelV x u/\RelV y v:=by cases h with|cons r t=>cases t with|cons q t=>cases t;exact#[_,_,rfl,r,q]
theorem Vals.reverse{xs:List V}{us:List Value}(h:Vals xs us):Vals xs.reverse us.reverse:=by
 induction h with
 | nil=>exact .nil| cons r t f=>rw[U4,U4];exact Vals.append f (.cons r .nil)
theorem Vals.rep(h:Vals xs us):∀k:Nat,Vals (D2 k xs).flatten (D2 k us).flatten
 | 0=>.nil| k+1=>by rw[K4,K4,L4,L4];exact Vals.append h (Vals.rep h k)
theorem foldl_rep(its:List Value):∀(k:Nat) (acc:List Value), ZD (λg f=>g++f) acc.toArray (D2 k its.toArray)=(acc++(D2 k its).flatten).toArray
 | 0,acc=>by simp| k+1,acc=>by
  have e:acc.toArray++its.toArray=(acc++its).toArray:=by simp
  have h:(acc++its)++(D2 k its).flatten=acc++(D2 (k+1) its).flatten:=by rw[K4,L4,D4]
  rw[<- h,<- foldl_rep its k (acc++its),<- e,K4,Z6]
section
variable{X:Cx}{pins:List (Addr×Obj)}{σ:St}{H:Hp}{s:Shared}{l b:Addr}{xs ys zs:List V}
def Inv.Je{its gP:List Value}(I:Inv X pins σ H s)(m:H l=some (.lst xs)) (e:s.heap.get? l=some { cls:=.type "list",data:=.seq its.toArray n}) (j:f its.toArray=gP.toArray) (h:Vals ys gP) (g:ys.length<=sizeLine): Inv X pins σ (upd H l (.lst ys)) { s with heap:=s.heap.update l (Mz f),toks:=t'}:=by
 have q:=D32 e f;rw[j] at q;apply I.write (x:=l) (e:=l) (by rw[m];exact trivial) (.inl rfl) (λb' u k i=>(B37 s.heap (Mz f) (D3 k)).trans i) #[_,q] ?_;exact#[g,gP,_,h,q]
def Inv.BY(I:Inv X pins σ H s)(g:Vals ys its)(f:ys.length<=sizeLine): Inv X pins σ (upd H s.heap.objs.size (.lst ys)) { s with heap:=s.heap.push { cls:=.type "list",data:=.seq its.toArray},toks:=t'}:=I.laid (λ_ _ q=>B8 _ q) (B9 _) #[f,its,0,g,E4 _ rfl]
theorem Inv.fresh(I:Inv X pins σ H s):H s.heap.objs.size=none:=I.aE.fresh (B9 _)
def Inv.sM(I:Inv X pins σ H s)(f:H l=some (.lst xs)):xs.length<=sizeLine/\∃(its:List Value) (n:Nat),Vals xs its/\xs.length=its.length/\s.heap.get? l=some { cls:=.type "list",data:=.seq its.toArray n}:=by let#[z,its,n,r,e]:=I.aE l _ f;exact#[z,its,n,r,r.length,e]
def v28(h:n<=sizeLine):X9 n=false:=by unfold X9;exact decide_eq_false ()
end
section
variable{X:Cx}
def wg2:V->List V->Hp->VK->Prop:=λx f H Q=>∃l xs y,x=.ref l/\f=[y]/\H l=some (.lst xs)/\xs.length<sizeLine/\Q .non (upd H l (.lst (xs++[y])))
def uu2:MtM X "list.append" wg2:=by intro pins s k H x m v o Q I g i h;let#[l,xs,y,rfl,rfl,f,p,q]:=h;cases g;let#[u,rfl,j]:=i.one;let#[z,its,n,r,t,e]:=I.sM f;apply Dt F.slot_list_append #[_,e,rfl] F.entry_list_append (F.args_list_append_2 _ _) (PySem.list_append l its.toArray n u (by rw[E2];omega)) #[e,?_];apply#[.non,_,I.Je (gP:=its++[u]) f e (by simp) (r.append (.cons j .nil)) ?_,rfl,q];rw[B4,O4];omega
def wg1:V->List V->Hp->VK->Prop:=λx g H Q=>∃l b xs f,x=.ref l/\g=[.ref b]/\H l=some (.lst xs)/\H b=some (.lst f)/\xs.length+f.length<=sizeLine/\Q .non (upd H l (.lst (xs++f)))
def vf0:MtM X "list.extend" wg1:=by
 intro pins s A H x E v G Q I j k h;let#[l,b,xs,B,rfl,rfl,g,t,J,q]:=h;cases j;let#[u,rfl,m]:=k.one;cases m;let#[z,its,n,r,L,e]:=I.sM g;let#[C,f,p,o,N,y]:=I.sM t;have hsz:its.toArray.size+f.toArray.size<=sizeLine:=by rw[E2,E2];omega
 have i:¬ (!its.toArray.isEmpty&&X9 (its.toArray.size+f.toArray.size))=true:=by rw[v28 hsz,Bool.and_false];exact C9
 apply Dt F.slot_list_extend #[_,e,rfl] F.entry_list_extend (F.args_list_extend_2 _ _)
  (AutoSeq1.list_extend_list_list_0 l its.toArray n b f.toArray p i (by rw[E2];omega) ()) #[e,y,?_]
 apply#[.non,_,I.Je (gP:=its++f) g e (by simp) (r.append o) ?_,rfl,q];rw[B4];omega
def Wq:R2:=λx y H Q=>∃l b xs f,x=.ref l/\y=.ref b/\H l=some (.lst xs)/\H b=some (.lst f)/\xs.length+f.length<=sizeLine/\∀p,H p=none->Q (.ref p) (upd H p (.lst (xs++f)))
def wz3:dg X (N0 .Add) Wq:=by
 intro pins s t H x y v u Q I i g h;let#[l,b,xs,A,rfl,rfl,k,m,G,q]:=h;cases i;cases g;let#[z,its,n,r,J,e]:=I.sM k;let#[B,f,E,j,L,p]:=I.sM m;apply PySem.P.add_list e p ?_ (by rw[E2,E2];omega);have o:its.toArray++f.toArray=(its++f).toArray:=by simp
 rw[o];exact#[.ref _,_,I.BY (t':=s.toks) (r.append j) (by rw[B4];omega),rfl,q _ I.fresh]
def Wn:R2:=λx y H Q=>∃l k xs,x=.ref l/\y=.int k/\H l=some (.lst xs)/\-(2^63)<=k/\k<2^63/\xs.length*k.toNat<=sizeLine /\
 ∀p,H p=none->Q (.ref p) (upd H p (.lst (D2 k.toNat xs).flatten))
def len_rep{f:Type}(xs:List f)(k:Nat):(D2 k xs).flatten.length=k*xs.length:=by
 induction k with
 | zero=>simp| succ k g=>rw[K4,L4,B4,g,W7,P0]
def wy8:dg X (N0 .Mult) Wn:=by
 intro pins s R H x y v u Q I C B h;let#[l,k,xs,rfl,rfl,G,L,J,j,q]:=h;cases C;let#[t,rfl]:=B;let#[z,its,n,r,E,e]:=I.sM G;have f:its.toArray.size*k.toNat<=sizeLine:=by rw[E2,<- E];exact j
 have N:¬ its.toArray.size*k.toNat>(2^63-1) / 8:=by have:(sizeLine:Nat)<=(2^63-1) / 8:=∅;omega
 have O:¬ (!Builtin.List.listFitsIndex k)=true:=by rw[fitsIndex_both L J];exact C9
 have o:¬ X9 (its.toArray.size*k.toNat)=true:=by rw[v28 f];exact C9
 have p:ZD (λi g=>i++g) [].toArray (D2 (if its.toArray.isEmpty=true then 0 else k.toNat) its.toArray)=(D2 k.toNat its).flatten.toArray:=by
  have M:∀m:Nat,ZD (λi g=>i++g) [].toArray (D2 m its.toArray)=(D2 m its).flatten.toArray:=λm=>by have:=foldl_rep its m [];rw[J6] at this;exact this
  rw[M];cases its with
  | nil=>simp| cons a Y=>rw[if_neg (by simp)]
 apply wpAny_binaryOp_repeat_ref (T:= "list") (U:= "int") ∅ #[_,e,rfl] (λA=>Zx A k t) noFill_list_mul F.fills_int_mul F.slot_int_rmul repeat_list F.slot_int_index.lookup
  (Dt F.slot_int_rmul (Zx s k t) F.entry_int_rmul (F.args_int_rmul_2 _ _) (int___rmul___int_list k t l its.toArray n)
   #[e,rfl,#[_,e,rfl],Dt F.slot_list_mul #[_,e,rfl] F.entry_list_mul (F.args_list_mul_2 _ _) (B92 l its.toArray n k t O N o) #[e,?_]])
 rw[p];exact#[.ref _,_,I.BY (t':=s.toks) (r.rep k.toNat) (by rw[len_rep,Qi];exact j),rfl,q _ I.fresh]
end
end L2
namespace Att
open PySem PySem.W PySem.Calls PyProof.Rows
def uj9{P:Params}:∀(ns:List Int) (vs:List Value),WellAll P h vs (ns.map D33)->wQ vs ns:=by
 intro ns;induction ns with
 | nil =>intro vs w;rw[Ff] at w;cases w;exact .nil
 | cons n ns f =>
  intro vs w;rw[C0] at w;cases w with
  | cons a b =>cases a;exact .cons _ _ (f _ b)
def vb9{l:PL}(A:l.most=some n){P:Params} (k:l.row.toRowW.claim.pre args=true) (o:WellAll P h f args): ∃a vs ns,f=[F0 a]/\args=[WData.list (ns.map D33)]/\h.get? a=some { cls:=.type "list",data:=.seq vs.toArray}/\wQ vs ns/\ns.length<=n:=by
 have G:WShape.hasAll [] args [.list .int]=true:=(pre_splitW k).1;have m:l.pre.holds [] { args:=args}=true:=(pre_splitW k).2;let#[d,r,rfl,E,C]:=hasAllW_cons G;obtain rfl:=hasAllW_nil C;let#[xs,rfl,B]:=hasW_list E;let#[ns,rfl]:=items_int B;have g:ns.length<=n:=by
  unfold PL.pre at m;have j:(WTm.not (.lt (.lit (.int (n:Int))) (.len (.arg 0)))).holds [] { args:=[.list (ns.map .int)]}=true:=by have j:=(holds_andW m).1;rw[A] at j;exact j
  have i:=condW_of j (w_not (w_lt w_lit (w_len_list (w_arg rfl))));rw[B0] at i;apply C08 λq=>?_;have x:(n:Int)<((ns.length:Nat):Int):=()
  first
   | (rw[decide_eq_true x] at i;exact absurd i ∅)
   | (simp at i;omega)
 cases o with
 | cons t p =>
  cases p;cases t with
  | list y u=>exact#[_,_,ns,rfl,rfl,y,uj9 ns _ u,g]
def vd0(l:PL)(args:List WData):l.row.toRowW.claim.post args (.bool true) args=true:=
 postW_of (r:=l.row.toRowW) (X:=(true==true))
  (show D22 [] (.bool true) .bool=true by first|rfl|decide|simp[D22,WShape.arms,WShape.armsAll])
  (show(WTm.eq .res (.lit (.bool true))).value [] { args:=args,res:=some (.bool true),after:=args}=some (.bool (true==true)) from w_eq_bool (w_res rfl) w_lit) rfl
def oN{l:PL}{d:DefRec} (I:l.most=some n) (JS:d.params.defaults=[]) (call:∀(w:World) (s₀ g:Shared) (mg t:Str->Option Value) (k:Addr) (o:Obj) (p cd doc:Value) (a:Addr) (vs:List Value) (ns:List Int), Ground q h [] X w s₀ mg t g.heap->U w g.heap -> g.heap.get? k=some o->o.data=.func (docDef d.name d.params d.body d.scope p cd doc)->g.heap.CodeRec cd d.name->mg d.name=some (.ref k) -> g.heap.get? a=some { cls:=.type "list",data:=.seq vs.toArray}->wQ vs ns->ns.length<=n->g.gens=[].toArray -> tD (model l.prog w) Dp (.call (.ref k) #[[.ref a],[]]) (λr m=>r=.ok (.ret (.bool true))/\OldK g.heap m.heap/\m.os=g.os/\zp m.gens) g): WalkO q h X U l.row.toRowW d [] (λf vs=>ZC f vs):=by
 intro w s₀ g mg t G Y k o p cd doc S kV H N A hD Z M args u as B y C x L;obtain rfl:S=.none:=Dflts.none hD JS;obtain rfl:kV=.none:=Dflts.noKw hD;let#[a,vs,ns,rfl,rfl,Cy,i,j]:=vb9 I B x;apply enter_call (Qf (call w s₀ g mg t k o p cd doc a vs ns G Y H (fd_plain N) A Z Cy i j M) λr m E=>?_);let#[rfl,R,Q,O]:=E;exact#[.inl #[.bool true,.bool true,[],rfl,λ_=>rfl,.bool true,vd0 l _,λ_=>#[D25,λ_ J=>(nomatch J)]],R,Q,O]
end Att
namespace L2
open PySem PySem.Spec PyProof.Rows
theorem Om:∀{vs:List Value} {ns:List Int},wQ vs ns->Vals (ns.map V.int) vs
 | _,_,.nil=>.nil| _,_,.cons n t h=>.cons #[t,rfl] (Om h)
def Only(H:Hp):Prop:=∀b,H b=none\/∃o xs,H b=some (.dG o (.lst xs))
def vu4{P:Program}{w:World}{K:W.Frag}{f:Shared}{vs:List Value} (Z:K.In f.heap) (N:f.heap.Ns J8 mg) (g:f.heap.Ns Qc O) (G:∀x:Str,x ≠ "__name__" -> O x=R5 x) (Ya:f.heap.NoLimit) (hg:f.gens=[].toArray) (B:f.heap.get? a=some { cls:=.type "list",data:=.seq vs.toArray}) (hi:wQ vs ns) (Q:ns.length<=sizeLine) (hr:aU k Dp) (F:∀base:Heap,K.In base->base.Ns J8 mg->bD P w K mg base CX k U fd [x] sp) (JW:∀(s:Shared) (u:Value),Dq s fd #[[u],[]] [(x,u)]) (Ck:∀H:Hp,Only H->eR K H a (ns.map V.int)->sp [.ref a] H (λv _=>v=.bl true) λ_ _ _=>False) (YH:∀H e i,CX [] H f (λ_ _ _=>False) e i->False): tD (model P w) Dp (.call (.ref U) #[[.ref a],[]]) (λr i=>r=.ok (.ret (.bool true))/\OldK f.heap i.heap/\i.os=f.os/\zp i.gens) f:=by
 have L:=Om hi;have Xd:=hi.length;have j:∀H:Hp,Only H->eR K H a (ns.map V.int)->gB P w H f.heap->(∀b,H b≠none->b=a)->(H a≠none->K.lookup a=none) ->
   tD (model P w) Dp (.call (.ref U) #[[.ref a],[]]) (λr i=>r=.ok (.ret (.bool true))/\OldK f.heap i.heap/\i.os=f.os/\zp i.gens) f:=by
  intro H R hS Y S hK;have M:∀{b:Addr} {o:Obj},f.heap.get? b=some o->H b=none->(ma f.heap H).get? b=some o:=λe n=>vu6 e n;have I_:∀{b:Addr} {o:Obj} {t:Array C80} {y:Nat},f.heap.get? b=some o->o.data=.dict t y->H b=none:=λ{b o t y} e d=>by
   cases q:H b with
   | none=>rfl| some u =>have I:b=a:=S b (by rw[q];simp);subst I;rw[B] at e;cases e;have d':Data.seq vs.toArray _=Data.dict t y:=d;cases d'
  have C:∀{b:Addr} {m:Str->Option Value},f.heap.Ns b m->(ma f.heap H).Ns b m:=λ{b m} ⟨o,t,y,e,d,r⟩=>#[o,t,y,M e (I_ e d),d,r];have p:K.In (ma f.heap H):=λb o e=>M (Z b o e) (by
   cases q:H b with
   | none=>rfl| some u =>have I:b=a:=S b (by rw[q];simp);subst I;rw[hK (by rw[q];simp)] at e;cases e)
  have hM:Mod K mg (ma f.heap H):=#[p,C N,#[O,C g,G],let ⟨mc,h1,h2⟩:=Ya;#[mc,C h1,h2]];have e0:ki P w K mg (ma f.heap H) Dp [] f H:=#[rfl,hM,λb o e=>wj4 e,C82 (vi6 _ _),trivial,λb g=>absurd (show b∈([]:List Addr) from g) (by simp),Y,.of_eq hg];apply Qf ((F _ p (C N)).run Dp [] f H #[[.ref a],[]] [.ref a] [.ref a] _ _ hr e0 (JW f (.ref a)) (.cons rfl .nil) (Ck H R hS)) λr i h=>?_;cases r with
  | error e=>exact(YH H e i h).elim| ok fl =>
   cases fl with
   | next=>exact Q2 h| brk=>exact Q2 h| cont=>exact Q2 h| ret u =>
    let#[v,H',os,A,J,XU,r',q]:=h;have q':v=.bl true:=q;subst q';obtain rfl:u=Qd true:=r';apply#[rfl,OldK.of_keep λb o e=>?_,os,A];cases q:H b with
    | none=>exact J.keep b o e q (by intro z;exact absurd (show b∈([]:List Addr) from z) (by simp)) (by simp)| some u =>
     rcases R b with z|⟨ob,xs,z⟩
     .rw[q] at z;cases z
     .have z2:=J.dY b ob ⟨_,by intro _ e;cases e⟩ z;let#[X,_]:=Y b _ z;let#[e2,_]:=XU b _ z2;rw[e] at X;cases X;exact e2
 cases E:K.lookup a with
 | some o =>have e:=Z a o E;rw[B] at e;cases e;apply j (λ_=>none) (λ_=>.inl rfl) (.inr #[_,vs.toArray,_,E,rfl,rfl,rfl,by rw[E2,Xd];exact Q,by simpa using L]) (λb u z=>by have l:(none:Option HO)=some u:=z;cases l) (λb z=>absurd rfl z) λz=>absurd rfl z
 | none =>
  apply j (λb=>if b=a then some (.dG { cls:=.type "list",data:=.seq vs.toArray} (.lst (ns.map V.int))) else none) (λb=>?_) (.inl (.inr #[{ cls:=.type "list",data:=.seq vs.toArray},if_pos rfl])) (λb u z=>?_) (λb z=>?_) λ_=>E
  .by_cases g:b=a
   .exact .inr #[_,_,if_pos g]
   .exact .inl (if_neg g)
  .by_cases g:b=a
   .have l:=(if_pos g).symm.trans z;cases l;subst g;exact#[B,by rw[B0];exact Q,vs,_,L,B]
   .have l:=(if_neg g).symm.trans z;cases l
  .by_cases g:b=a
   .exact g
   .exact absurd (if_neg g) z
abbrev vT{K:W.Frag}{h:Heap}(_:K.In h):W.Frag:=K
def xP{l:W.OpenLaw}{n k:Nat}{q:Program}{j:List Str}{U:(Str->Option Value)->Heap->Prop}{B:World->Heap->Prop}{d:DefRec}{K:Params->W.Frag}{CX:World->wO}{sp:World->Sp}{x:Str} (J:l.most=some n) (E:n<=sizeLine) (Z:d.params.defaults=[]) (I:aU k Dp) (N:∀(w:World) (h:Heap),B w h->(K w.params).In h) (F:∀(w:World) (mg:Str->Option Value) (r:Addr) (h:Heap),(K w.params).In h->h.Ns J8 mg->mg d.name=some (.ref r) -> ∃y:xI,(∀(s:Shared) (u:Value),Dq s y #[[u],[]] [(x,u)]) /\ ∀base:Heap,(K w.params).In base->base.Ns J8 mg->bD l.prog w (K w.params) mg base (CX w) k r y [x] (sp w)) (Ck:∀(w:World) (H:Hp) (a:Addr) (ns:List Int),ns.length<=n->Only H->eR (K w.params) H a (ns.map V.int)->sp w [.ref a] H (λv _=>v=.bl true) λ_ _ _=>False) (S:∀(w:World) (H:Hp) (s:Shared) (e:Value) (t:Shared),CX w [] H s (λ_ _ _=>False) e t->False): W.WalkO q j U B l.row.toRowW d [] (λf vs=>ZC f vs):=by
 apply Att.oN J Z λw A p mg mb r o pm cd doc a vs ns G Y ho hd tU X Cy m i L=>?_;have C:=N w _ Y;let#[y,M,R]:=F w mg r _ C G.T.g X;exact vu4 C G.T.g G.T.b G.T.builtins G.T.nolimit L Cy m (D5 i E) I R M (λH Q O=>Ck w H a ns i Q O) λH e t=>S w H p e t
end L2
namespace L2
open PySem PySem.Spec PyProof.Rows
def inClass(s:Stmt)(j:Nat):Stmt:=match s with
 | .ClassDef _ _ _ body _ _ _ _ _ _ _=>body.getD j (.Pass #[0,0,0,0])| _=>.Pass #[0,0,0,0]
def tJ(s:Stmt):Arguments:=match s with
 | .FunctionDef _ a _ _ _ _ _ _ _ _=>a| _=>{ posonlyargs:=[],args:=[],vararg:=none,kwonlyargs:=[],kw_defaults:=[],kwarg:=none,defaults:=[]}
def qT(s:Stmt):List Stmt:=match s with
 | .FunctionDef _ _ b _ _ _ _ _ _ _=>b| _=>[]
def bq(s:Stmt):Scope:=match s with
 | .FunctionDef _ _ _ _ _ _ h _ _ _=>h| _=>{ kind:=.function,names:=[],isGenerator:=false,isCoroutine:=false}
abbrev pK:wO:=λ_ _ _ _ _ _=>False
abbrev E0:XK:=λ_ _ _=>False
def qZ:Passes pK X E0:=λ_ _ _ _ _ _ _ h=>h.elim
def Ng(f:aU k A):A.units+1<cLine:=C8 (Nat.add_le_add_left (by decide:1<=64) _) f.units
section
variable{X:Cx}
def pv(i:Nat)(j:X.N[i]?=some x:=by rfl)(g:Kw X.env.scope x:=by first|exact AW rfl|exact xF (AW rfl)|exact xF (xF rfl))(h:(x==("__debug__" :Str))=false:=by decide)
  (f:(x==("__classdict__" :Str))=false:=by decide):PE X (.Name x pos) (BB i):=w24 j g h f
end
def wl5(I:Nat->Shared->Prop) (turn:∀n s,I n s->wpAny (model prog w) A (pyNext it) (λr f=>match r with
   | none=>R (.ok .next) f| some v=>wpAny (model prog w) A (Qw target it v) (λ_ f=>wpAny (model prog w) A (assign target env v) (λ_ i =>
     wpAny (model prog w) A (forIn t true λc r=>if r=true then do let ok <- isTrue c env (eval c env);pure (U8 ok) else pure (U8 r)) (λok g =>
      if ok=true then wpAny (model prog w) A (eval B env) (λx o =>
       wpAny (model prog w) A (call (.builtin "list.append") [acc,x]) (λ_ l=>∃m,m<n/\I m l) (λ_ _=>False) o) (λ_ _=>False) g
      else∃m,m<n/\I m g) (λ_ _=>False) i) (λ_ _=>False) f) (λ_ _=>False) f) (λ_ _=>False) s)
  (n:Nat) (h:I n s):
  tD (model prog w) A (.compLoop (.ListComp B [#[target,iter,t,0]] scope pos) 0 it acc env) R s:=by
 apply codeAny_loop rfl I (λn s C=>?_) n h;show wpAny _ A ((compTurn (.ListComp B [#[target,iter,t,0]] scope pos) 0 it acc env).onRaise (λx=>do noteFrame x env;theTreesLotGoes x)) _ _ s;apply wpAny_noted ?_;rw[compTurn_list];apply B5 (Qp (B5 (R6 (turn n s C) (λr f q=>?_) λ_ _ k=>k.elim)));cases r with
 | none=>exact C4 q| some v =>
  apply B5 (R6 q (λ_ i j=>?_) λ_ _ k=>k.elim);apply B5 (R6 j (λ_ i j=>B5 (R6 j (λok g p=>?_) λ_ _ k=>k.elim)) λ_ _ k=>k.elim);cases ok with
  | false=>exact C4 #[rfl,p]| true =>exact B5 (B5 (R6 p (λx o y=>B5 (R6 y (λ_ l u=>C4 (C4 #[rfl,u])) λ_ _ k=>k.elim)) λ_ _ k=>k.elim))
def i8(env:Env):List (Str×J1)->List (Str×Addr)->List (Str×Addr)
 | [],f=>f| (x,k)::r,f=>i8 env r (if(k == .free)=true then(x,(env.cells.lookup x).getD 0)::f else f)
def uz2{env:Env}(h:env.cells.lookup x=some c):cellOf env x=pure c:=by unfold cellOf;rw[h]
def un0{scope:Scope}{env:Env}(h:∀y∈scope.names,y.2=.free->∃c,env.cells.lookup y.1=some c):closureFor scope env=pure (i8 env scope.names []):=by
 have key:∀(l:List (Str×J1)) (f:List (Str×Addr)),(∀y∈l,y.2=.free->∃c,env.cells.lookup y.1=some c) ->
   (forIn l f λ(y:Str×J1) r=>if(y.2==F8)=true then do let c <- cellOf env y.1;pure (U8 ((y.1,c)::r)) else pure (U8 r):Sem (List (Str×Addr)))=pure (i8 env l f):=by
  intro l;induction l with
  | nil=>intro f _;rfl| cons y r j =>
   intro f i;let#[x,k]:=y;rw[MO];by_cases m:k=.free
   .subst m;let#[c,n]:=i (x,.free) C6 rfl;have e:((F8==F8):Bool)=true:=rfl;simp only[e,if_true,uz2 n,pure_bind];rw[j _ λz g=>i z (C2 _ g)];show _=pure (i8 env r (if(F8==F8)=true then _ else _));rw[e,if_pos rfl,n] <;> rfl
   .have e:(k==F8)=false:=by simpa using m
    simp only[e,L7,if_false,pure_bind];rw[j _ λz g=>i z (C2 _ g)];show _=pure (i8 env r (if(k==F8)=true then _ else _));rw[e,if_neg C9]
 have e:closureFor scope env=((forIn scope.names ([]:List (Str×Addr)) λ(y:Str×J1) r=>if(y.2==F8)=true then do let c <- cellOf env y.1;pure (U8 ((y.1,c)::r)) else pure (U8 r):Sem (List (Str×Addr))) >>= λf=>pure f):=rfl;rw[e,key scope.names [] h];rfl
theorem uk9{env:Env}:∀{l:List (Str×J1)} {cs:List (Str×Addr)},(∀y∈l,y.2=.free->∃c,env.cells.lookup y.1=some c)->(∀x c,cs.lookup x=some c->env.cells.lookup x=some c) -> (i8 env l cs).lookup x=some c->env.cells.lookup x=some c
 | [],_,_,h,e=>h x c e| (y,k)::r,cs,g,h,e=>by
  apply uk9 (l:=r) (λz m=>g z (C2 _ m)) (λx c e=>?_) e;by_cases i:k=.free
  .subst i;let#[d,j]:=g (y,.free) C6 rfl;rw[if_pos (show(F8==F8)=true from rfl),I0] at e;cases f:x==y with
   | true=>rw[f,j] at e;cases e;rw[eq_of_beq f];exact j
   | false=>rw[f] at e;exact h x c e
  .rw[if_neg (by simpa using i)] at e;exact h x c e
theorem Vg:∀{l:List (Str×J1)} {cs:List (Str×Addr)},((∃c,cs.lookup x=some c)\/(x,F8)∈l)->∃c,(i8 env l cs).lookup x=some c
 | [],_,h=>by
  rcases h with h|h
  .exact h
  .simp at h
 | (y,k)::r,cs,h=>by
  apply Vg (l:=r) ?_;rcases h with⟨c,h⟩|h
  .left;by_cases f:(k==F8)=true
   .rw[if_pos f,I0];cases j:x==y with
    | true=>exact#[_,rfl]| false=>exact#[c,h]
   .rw[if_neg f];exact#[c,h]
  .rcases D7.mp h with e|h
   .injection e with i g;subst i;subst g;left;rw[if_pos (show(F8==F8)=true from rfl),I0];simp
   .exact .inr h
def mU(X:Cx)(N':List Str)(scope:Scope)(C:Addr)(s:Shared)(H:Hp)(i:List Addr):Cx:={ X with N:=N',s₀:=s,H₀:=H,env:=Zs scope (i8 X.env scope.names []) C X.env,outer:=X.stack,ex:=i,fn:=λ_=>false,pn:=[],xe:=λ_ _=>False}
structure jO(X:Cx)(N':List Str)(ix:List (Option Nat))(scope:Scope):Prop where
 kind:scope.kind=.function
 uv:∀y∈scope.names,y.2≠.cell
 names:∀y∈scope.names,y.2=.local->scope.names.lookup y.1=some .local
 frees:∀y∈scope.names,y.2=.free->X.env.kindOf y.1=some .cell\/X.env.kindOf y.1=some .free
 len:ix.length=N'.length
 at_:∀(i j:Nat) (x:Str),N'[i]?=some x->ix[i]?=some (some j)->X.N[j]?=some x/\scope.names.lookup x=some .free
def inner(ix:List (Option Nat))(f:St):St:=ix.map λo=>o.bind λj=>(f[j]?).bind id
def TK(ix:List (Option Nat))(t:TI)(g:TG)(tc:TT)(te:TE):TE:=λn H Q=>t n H λJ r=>∀D,r D=none->∃W:Nat->Nat->St->Hp->Prop,(∃m,W 0 m (inner ix n) (upd r D (.lst [])))/\∀i m h H,W i m h H ->
 (J.stop i H/\Q (.ref D) H)\/(J.go i H/\∃N:St->Hp->Prop,(∀j k,N j k->∃o,o<m/\W (i+1) o j k)/\∀x k,J.qO i H x k->g x h k λf u=>tc f u λb q =>
  if b=true then te f q λv p=>∃l,p D=some (.lst l)/\l.length<sizeLine/\N f (upd p D (.lst (l++[v]))) else N f q)
theorem u79{env:Env}{x:Str}:∀{names:List (Str×J1)},names.lookup x=some .free->(env.kindOf x=some .cell\/env.kindOf x=some .free) -> (names.map λ(n,k)=>if(k==F8&&env.scope.kind == .function&&env.kindOf n==some .cell) then(n,P7) else(n,k)).lookup x=some .cell \/ (names.map λ(n,k)=>if(k==F8&&env.scope.kind == .function&&env.kindOf n==some .cell) then(n,P7) else(n,k)).lookup x=some .free
 | [],h,_=>by simp at h| (n,k)::r,h,j=>by
  cases f:x==n with
  | true =>
   simp only[I0,f] at h;cases h;by_cases g:(F8==F8&&env.scope.kind == .function&&env.kindOf n==some .cell)=true
   .left;show K0 x ((if(F8==F8&&env.scope.kind == .function&&env.kindOf n==some .cell)=true then(n,P7) else(n,.free))::_)=_;rw[if_pos g];simp only[I0,f]
   .right;show K0 x ((if(F8==F8&&env.scope.kind == .function&&env.kindOf n==some .cell)=true then(n,P7) else(n,.free))::_)=_;rw[if_neg g];simp only[I0,f]
  | false =>
   simp only[I0,f] at h;have i:=u79 (env:=env) h j;show K0 x ((if(k==F8&&env.scope.kind == .function&&env.kindOf n==some .cell)=true then(n,P7) else(n,k))::_)=_ \/
    K0 x ((if(k==F8&&env.scope.kind == .function&&env.kindOf n==some .cell)=true then(n,P7) else(n,k))::_)=_
   by_cases g:(k==F8&&env.scope.kind == .function&&env.kindOf n==some .cell)=true
   .rw[if_pos g];simp only[I0,f];exact i
   .rw[if_neg g];simp only[I0,f];exact i
theorem u80{env:Env}{x:Str}:∀{names:List (Str×J1)},(∀y∈names,y.2≠.cell) -> ((names.map λ(n,k)=>if(k==F8&&env.scope.kind == .function&&env.kindOf n==some .cell) then(n,P7) else(n,k)).lookup x=some .cell \/ (names.map λ(n,k)=>if(k==F8&&env.scope.kind == .function&&env.kindOf n==some .cell) then(n,P7) else(n,k)).lookup x=some .free)->(x,F8)∈names
 | [],_,h=>by simp at h| (n,k)::r,i,h=>by
  have h:K0 x ((if(k==F8&&env.scope.kind == .function&&env.kindOf n==some .cell)=true then(n,P7) else(n,k))::(r.map λ(n,k)=>if(k==F8&&env.scope.kind == .function&&env.kindOf n==some .cell) then(n,P7) else(n,k)))=some .cell \/
   K0 x ((if(k==F8&&env.scope.kind == .function&&env.kindOf n==some .cell)=true then(n,P7) else(n,k))::(r.map λ(n,k)=>if(k==F8&&env.scope.kind == .function&&env.kindOf n==some .cell) then(n,P7) else(n,k)))=some .free:=h
  cases g:x==n with
  | true =>
   have e:x=n:=eq_of_beq g;subst e;by_cases f:(k==F8&&env.scope.kind == .function&&env.kindOf x==some .cell)=true
   .have l:k=.free:=by simp only[O9,beq_iff_eq] at f;exact f.1.1
    subst l;exact C6
   .rw[if_neg f] at h;simp only[I0,g,D26] at h;rcases h with h|h
    .exact absurd h (i (x,k) C6)
    .subst h;exact C6
  | false =>
   apply C2 _ (u80 (env:=env) (λy j=>i y (C2 _ j)) ?_);by_cases f:(k==F8&&env.scope.kind == .function&&env.kindOf n==some .cell)=true
   .rw[if_pos f] at h;simp only[I0,g] at h;exact h
   .rw[if_neg f] at h;simp only[I0,g] at h;exact h
def mn(X:Cx)(g:List Expr)(t:TT):Prop:=
 ∀(pins:List (Addr×Obj)) (s:Shared) (f:St) (H:Hp) (Q:Bool->Hp->Prop),Inv X pins f H s->t f H Q ->
  wpAny (model X.prog X.w) X.A (forIn g true λc r=>if r=true then do let ok <- isTrue c X.env (eval c X.env);pure (U8 ok) else pure (U8 r)) (TP X pins f Q) X.xe s
def VY:TT:=λ_ H Q=>Q true H
section
variable{X:Cx}{pins:List (Addr×Obj)}{σ:St}{H:Hp}{s:Shared}
def vq2:mn X [] VY:=λ_ _ _ H _ I h=>wpAny_tests_nil #[H,I,h]
def vq1(h:PT X c t):mn X [c] t:=λpins s σ H Q I hw=>wpAny_tests_one (h pins s σ H Q I hw)
def Inv.jU{h1:Heap}(I:Inv X pins σ H s)(B:jO X N' ix scope)(f:∀b∈A,iN X pins H b)(R:∀b∈A,b<s.heap.objs.size) (ns:h1.Ns s.heap.objs.size (λ_=>none)) (old:∀b o,s.heap.get? b=some o->h1.get? b=some o): Inv (mU X N' scope s.heap.objs.size s H A) [] (inner ix σ) H { s with heap:=h1,toks:=tk}:=by
 have J:∀y∈scope.names,y.2=.free->∃c,X.env.cells.lookup y.1=some c:=λy L e=>I.ok.has y.1 (B.frees y L e);have n:∀x c,(i8 X.env scope.names []).lookup x=some c->X.env.cells.lookup x=some c:=λx c e=>uk9 J (λ_ _ z=>by cases z) e;have S:∀b∈A,b∉sU X.stack:=λb l z=>by
  rcases D7.mp (I.pS b z) with e|e
  .exact(f b l).2.1 e
  .exact(f b l).2.2.1 e
 apply⟨⟨I.ok.mod,B.kind,I.ok.glob,I.ok.blt,B9 _,λx y c h1 g=>I.ok.inj x y c (n x c h1) (n y c g),λx M=>?_,λx c h=>(by cases h),I.ok.hd,I.ok.frames,.inl rfl,λb l=>#[J7 (R b l),λx c e=>(f b l).2.2.2.2.1 x c (n x c e)],
   I.bs,D5 I.ok.uX I.sz,λb o e l=>?_,S,I.stack,I.qV⟩,rfl,I.bare,Un.kept old,⟨_,ns,λi x v h1 g Y=>?_⟩,λx c e=>?_,I.aE.fresh (B9 _),λx c e=>I.fY x c (n x c e),λp N=>absurd (show p∈([]:List (Addr×Obj)) from N) (by simp),I.aE.kept old,?_⟩
 .exact Vg (.inr (u80 B.uv M))
 .rcases(f b l).2.2.2.1 with z|z
  .exact I.ok.uu b o e z
  .exact absurd (C5 (D8 e) (D5 I.ok.uX z)) (Fj _)
 .have g:(ix.map λo=>o.bind λj=>(σ[j]?).bind id)[i]?=some (some v):=g;rw[F7] at g;cases k:ix[i]? with
  | none=>rw[k] at g;cases g
  | some o =>
   rw[k] at g;cases o with
   | none=>cases g
   | some j =>
    have g:(σ[j]?).bind id=some v:=E1 g;have g:σ[j]?=some (some v):=by
     cases E:σ[j]? with
     | none=>rw[E] at g;cases g
     | some w=>rw[E] at g;cases g;rfl
    let#[Q,q]:=B.at_ i j x h1 k;have hk:=B.frees (x,.free) (R7 q) rfl;let#[m,U,O]:=I.loc;let#[u,r,lk]:=O j x v Q g (hk.elim (λz=>.inr (.inl z)) λz=>.inr (.inr z));apply#[u,r,.inr ?_];rcases lk with⟨z,_⟩|⟨_,c,e,z⟩
    .rcases hk with hk|hk
     .exact absurd (hk.symm.trans z) ∅
     .exact absurd (hk.symm.trans z) ∅
    .let#[C,G]:=Vg (env:=X.env) (cs:=[]) (.inr (R7 q));have ec:C=c:=E1 ((n x C G).symm.trans e);subst ec;apply#[u79 q hk,C,G,?_];let#[o,k,t]:=z;exact#[o,old _ _ k,t]
 .let#[v,o,k,t]:=I.cell x c (n x c e);exact#[v,o,old _ _ k,t]
 .show(inner ix σ).length=N'.length;unfold inner;rw[B0];exact B.len
def vm5{elt tg iter:Expr}{ifs:List Expr}{scope:Scope}{pos:Pos}{N':List Str}{ix:List (Option Nat)}{g:TG}{tc:TT}{te:TE}{J:It}{G:List Addr}{it:Addr}{tn:Nat->Heap->Prop}(B:jO X N' ix scope) (hg:∀C s H G,PG (mU X N' scope C s H G) tg g) (hi:∀C s H G,mn (mU X N' scope C s H G) ifs tc) (he:∀C s H G,PE (mU X N' scope C s H G) elt te) (hc:X.calm=true) (I:Inv X pins σ H s) (T:Turn X.prog X.w X.K tg J G it tn) (st:tn 0 s.heap) (f:∀b∈G,iN X pins H b) {Q:VK} {E:Value->Shared->Prop} (w:∃W:Nat->Nat->St->Hp->Prop,(∃m,W 0 m (inner ix σ) (upd H s.heap.objs.size (.lst [])))/\∀i m L H,W i m L H -> (J.stop i H/\Q (.ref s.heap.objs.size) H)\/(J.go i H/\∃N:St->Hp->Prop,(∀σ' O,N σ' O->∃m',m'<m/\W (i+1) m' σ' O)/\∀x O,J.qO i H x O->g x L O λσ2 H2=>tc σ2 H2 λb H3 => if b=true then te σ2 H3 λv H4=>∃ys,H4 s.heap.objs.size=some (.lst ys)/\ys.length<sizeLine/\N σ2 (upd H4 s.heap.objs.size (.lst (ys++[v]))) else N σ2 H3)) {RR:Value->Addr->Result->Shared->Prop} (hRR:∀C O s' m,Inv X pins σ O s'->iN X pins O C->s'.heap.Ns C m->Q (.ref s.heap.objs.size) O->RR (.ref s.heap.objs.size) C (.ok .next) s'): wpAny (model X.prog X.w) X.A (newList []) (λacc s₃=>wpAny (model X.prog X.w) X.A (newFunctionEnv scope X.env.globals (i8 X.env scope.names []) [] X.env.qual none .none (some X.env)) (λKp s₄ => tD (model X.prog X.w) X.A (.compStart (.ListComp elt [#[tg,iter,ifs,0]] scope pos) 0 (.ref it) acc { Kp with scope:=relabel scope X.env}) (RR acc Kp.locals) s₄) E s₃) E s:=by
 let#[W,#[m0,w0],turn]:=w;have xx:∀b∈G,b<s.heap.objs.size:=λb h=>by let#[o,ho,_]:=T.obj 0 _ st b h;exact D8 ho
 have I3:Inv X pins σ (upd H s.heap.objs.size (.lst [])) { s with heap:=s.heap.push { cls:=.type "list",data:=.seq ([]:List Value).toArray},toks:=s.toks}:=I.BY .nil (J4 _);have Pf:∀b∈G,(upd H s.heap.objs.size (.lst [])) b=none:=λb h=>by rw[c_ (J7 (xx b h))];exact(f b h).1
 have f3:∀b∈G,iN X pins (upd H s.heap.objs.size (.lst [])) b:=λb h=>#[Pf b h,(f b h).2];apply U6 (wpAny_newFunctionEnv B.uv (by intro y hy;simp at hy) (λl M R=>?_) B.kind);dsimp only at M R⊢;generalize hH3:s.heap.push { cls:=.type "list",data:=.seq ([]:List Value).toArray}=h3 at M R I3⊢;obtain⟨j,e3⟩:∃j:Shared,j={ s with heap:=h3}:=#[_,rfl];obtain rfl:h3=j.heap:=by rw[e3]
 have I3:Inv X pins σ (upd H s.heap.objs.size (.lst [])) j:=by have e:j={ s with heap:=j.heap,toks:=s.toks}:=e3;rw[e];exact I3
 have eT:j.toks=s.toks:=by rw[e3]
 have eS:({ s with heap:=l,toks:=s.toks+([]:List (Str×Value)).length}:Shared)={ j with heap:=l,toks:=j.toks+([]:List (Str×Value)).length}:=by rw[e3]
 rw[eS];have hz3:j.heap.objs.size=s.heap.objs.size+1:=by rw[<- hH3];exact T8 _ _
 have old:∀b o,j.heap.get? b=some o->l.get? b=some o:=λb o e=>R.extBut b o (J7 (D8 e)) (B8 _ e);have Oy:tn 0 j.heap:=T.keep _ _ _ st λb h o e=>by rw[<- hH3];exact B8 _ e
 have st4:tn 0 l:=T.keep _ _ _ Oy λb _ o e=>old b o e;have I4:=I3.jU (tk:=j.toks+([]:List (Str×Value)).length) B f3 (λb h=>C5 (xx b h) (by rw[hz3];exact V2 _)) (show l.Ns j.heap.objs.size (λ_=>none) from M) old;generalize Pl:mU X N' scope j.heap.objs.size j (upd H s.heap.objs.size (.lst [])) G=k at I4;have eX:k.prog=X.prog/\k.w=X.w/\k.K=X.K/\k.A=X.A/\k.calm=X.calm/\k.env=Zs scope (i8 X.env scope.names []) j.heap.objs.size X.env/\k.ex=G/\k.outer=X.stack/\k.s₀=j/\k.H₀=upd H s.heap.objs.size (.lst [])/\k.pn=[]/\k.xe=(λ_ _=>False):=by rw[<- Pl];exact#[rfl,rfl,rfl,rfl,rfl,rfl,rfl,rfl,rfl,rfl,rfl,rfl]
 have hg':PG k tg g:=Pl▸hg _ _ _ _;have Yh:mn k ifs tc:=Pl▸hi _ _ _ _;have he':PE k elt te:=Pl▸he _ _ _ _;let#[e1,e2,e3,e4,e5,e6,e7,e8,e9,e10,e11,Py]:=eX;have pT:∀{O:Hp},(∀b∈G,O b=none)->∀b∈G,iN k [] O b:=λ{O} hn b h=>by
  have q:=I4.ok.YM b (by rw[e7];exact h);apply#[hn b h,q.1,?_,.inl (by rw[e7];exact h),q.2,λp hp=>?_]
  .exact I4.ok.uS b (by rw[e7];exact h)
  .rw[e11] at hp;simp at hp
 have loop:tD (model X.prog X.w) X.A (.compLoop (.ListComp elt [#[tg,iter,ifs,0]] scope pos) 0 (.ref it) (.ref s.heap.objs.size) (Zs scope (i8 X.env scope.names []) j.heap.objs.size X.env))
   (RR (.ref s.heap.objs.size) j.heap.objs.size) { j with heap:=l,toks:=j.toks+([]:List (Str×Value)).length}:=by
  apply wl5 (λn s'=>∃i L Hi,Inv k [] L Hi s'/\tn i s'.heap/\(∀b∈G,Hi b=none)/\W i n L Hi) ?_ m0 #[0,_,_,I4,st4,Pf,w0];rintro n s5 ⟨i,Z,H5,I5,Ej,Pu,w5⟩;rcases turn i n Z H5 w5 with⟨stop,qn⟩|⟨go,N,hN,step⟩
  .have d:=T.done k e1 e2 e3 (by rw[e5];exact hc) i [] s5 Z H5 (λ_ _=>False) I5 (pT Pu) Ej stop;rw[e4] at d
   (apply bg d ?_;rintro r s6 ⟨hr,I6⟩)
   subst hr;have u:=I6.base;rw[e7,e9,e10] at u;have u:Un (sU k.outer) G (upd H s.heap.objs.size (.lst [])) H5 j.heap s6.heap:=u;rw[e8] at u;have ok6:=I6.aE;rw[e1,e2] at ok6;have I7:Inv X pins σ H5 s6:=I3.Kq (ch:=G) (by have:=I6.os;rw[e9] at this;exact this) u ok6 I6.bare λb h=>#[(f b h).2.2.2.1,(f b h).2.1,(f b h).2.2.2.2.1,(f b h).2.2.2.2.2];have jy:=I6.free;let#[m,hm,_]:=I6.loc;rw[e6] at jy hm;exact hRR _ H5 s6 m I7 (I3.qD (B9 _) jy) hm qn
  .have d:=T.item k e1 e2 e3 (by rw[e5];exact hc) i [] s5 Z H5 (λ_ _=>False) I5 (pT Pu) Ej go;rw[e4] at d
   (apply bg d ?_;rintro r s6 ⟨u,hr,h6⟩)
   subst hr
   (apply bg h6 ?_;rintro _ s7 ⟨x,H7,I7,r7,y7,V',fr7⟩)
   have I7':=I7.pinned (pT fr7) (T.obj _ _ V');have a:=hg' _ s7 Z H7 x u _ I7' r7 (step x H7 y7);rw[e1,e2,e4,e6,Py] at a
   (apply bg a ?_;rintro _ s8 ⟨Y,H8,I8,q8⟩)
   have t:=Yh _ s8 Y H8 _ I8 q8;rw[e1,e2,e4,e6,Py] at t;have again:∀{U:St} {H9:Hp} {s9:Shared},Inv k ([]++FT G s7.heap) U H9 s9->N U H9->∃m,m<n/\∃i L Hi,Inv k [] L Hi s9/\tn i s9.heap/\(∀b∈G,Hi b=none)/\W i m L Hi:=λ{U H9 s9} I9 n9=>by let#[m',hm,w9]:=hN U H9 n9;apply#[m',hm,i+1,U,H9,I9.gG,T.keep _ _ _ V' λb h o e=>(I9.pin (b,o) (M7 _ (M7 _ (Ot h e)))).1,λb h=>?_,w9];let#[o,e,d]:=T.obj _ _ V' b h;exact(I9.pin (b,o) (M7 _ (M7 _ (Ot h e)))).2.1
   (apply bg t ?_;rintro ok s9 ⟨H9,I9,q9⟩)
   cases ok with
   | false =>rw[if_neg C9] at q9⊢;exact again I9 q9| true =>
    rw[if_pos rfl] at q9⊢;have v:=he' _ s9 Y H9 _ I9 q9;rw[e1,e2,e4,e6,Py] at v
    (apply bg v ?_;rintro y s10 ⟨z,H10,I10,r10,ys,hD,hz,q10⟩)
    have ap:=uu2 _ s10 Y H10 (.ref s.heap.objs.size) [z] (.ref s.heap.objs.size) [y] (λ_ O=>N Y O) I10 rfl (.cons r10 .nil) #[_,ys,z,rfl,rfl,hD,hz,q10];rw[e1,e2,e4,Py] at ap
    (apply bg ap ?_;rintro _ s11 ⟨_,H11,I11,_,OD⟩;exact again I11 OD)
 exact codeAny_compStart_list loop (T.self _ _ _ _ _ st4 loop)
variable{elt tg iter:Expr}{ifs:List Expr}{scope:Scope}{pos:Pos}{N':List Str}{ix:List (Option Nat)}{wi:TI}{g:TG}{tc:TT}{te:TE}
def wi3(B:jO X N' ix scope)(L:X.calm=true)(hw:PI X tg iter wi) (E:∀C s H f,PG (mU X N' scope C s H f) tg g) (hi:∀C s H f,mn (mU X N' scope C s H f) ifs tc) (G:∀C s H f,PE (mU X N' scope C s H f) elt te) (u:∀x,X4 iter X.env x=pure x:=by intro _;rfl):
  PE X (.ListComp elt [#[tg,iter,ifs,0]] scope pos) (TK ix wi g tc te):=by
 intro pins s σ H Q I h;rw[eval_ListComp];apply wpAny_comprehension_free (use:=none) rfl u (un0 λy t e=>I.ok.has y.1 (B.frees y t e)) B.kind B.names ?_;apply bg (hw pins s σ H _ I h) λv Z O=>bg O λOT l N=>?_;let#[it,f,U,J,H2,e,j,T,r,f2,p]:=N;subst e;apply vm5 B E hi G L j T r f2 (Q:=Q) (p _ j.fresh) λC S n m R i A q=>?_;apply#[m,A,λh' k=>#[.ref l.heap.objs.size,S,?_,rfl,q]];exact R.turned (t':=n.toks) (it:=C) (λb o M e=>k.extBut b o M e) i.1 i.2.1 i.2.2.2.1 i.2.2.2.2.1 i.2.2.2.2.2
def xi0(i:Nat)(t:TE):TS:=λD σ H=>t σ H λx f=>D.nx (σ.set i (some x)) f
def wg8{k t:Pos}(B:jO X N' ix scope)(hc:X.calm=true)(hN:X.N.Nodup)(n:X.N[i]?=some y)(U:Loc X.env.scope y)(hw:PI X tg iter wi) (Y:∀C s H j,PG (mU X N' scope C s H j) tg g) (hi:∀C s H j,mn (mU X N' scope C s H j) ifs tc) (he:∀C s H j,PE (mU X N' scope C s H j) elt te) (XC:Y8 (.ListComp elt [#[tg,iter,ifs,0]] scope pos) (some (.Name y k)) t.line X.env=pure true:=by rfl)
  (Z:X.fn y=true\/X.env.scope.names.lookup y=some .local:=by first|exact .inl rfl|exact .inr rfl|assumption)
  (O:∀x,X4 iter X.env x=pure x:=by intro _;rfl):
  PS X (.Assign [.Name y k] (.ListComp elt [#[tg,iter,ifs,0]] scope pos) t) (xi0 i (TK ix wi g tc te)):=by
 intro pins s σ H D I h;rw[exec_Assign_Name_used _ _ _ _ XC];apply B5 (Qp (B5 ?_));show wpAny _ X.A (do let _ <- comprehension (.ListComp elt [⟨tg,iter,ifs,0⟩] scope pos) scope X.env _ (newList []) false (eval iter X.env) (some (assign (.Name y k) X.env))) _ _ s;apply B5 (R6 (wpAny_comprehension_free (use:=some (assign (.Name y k) X.env)) (Q:=λ_ l=>SP X pins D .next l) rfl O (un0 λy n e=>I.ok.has y.1 (B.frees y n e)) B.kind B.names
  (bg (hw pins s σ H _ I h) λv s1 h1=>bg h1 λOT u h2=>?_)) (λ_ l R=>C4 (C4 R)) λ_ _ e=>e)
 let#[it,j,tn,J,H2,e,E,T,M,f2,L]:=h2;subst e;apply vm5 B Y hi he hc E T M f2 (Q:=λx H1=>D.nx (σ.set i (some x)) H1) (L _ E.fresh) λC H' l m I' f S q=>?_;show wpAny _ _ (assign (.Name y k) X.env (.ref u.heap.objs.size)) _ _ _
 (apply wpAny_assign_Name (ut1 I' hN n U (v:=.ref u.heap.objs.size) rfl (?_) Z);rintro GX r ⟨a,Ju,ha⟩)
 have p:C≠a:=by
  rcases ha with z|z
  .rw[z];exact f.2.1
  .intro e;exact f.2.2.2.2.1 _ _ z e.symm
 apply#[m,S.sameBut Ju p,λh' G=>#[_,H',?_,q]];exact r.turned (t':=GX.toks) (it:=C) (λb o hb e=>G.extBut b o hb e) f.1 f.2.1 f.2.2.2.1 f.2.2.2.2.1 f.2.2.2.2.2
end
section
variable{X:Cx}{pos:Pos}
def YJ(K:W.Frag)(n:Nat)(t:Dj):TG:=λv f H Q=>∃a xs,v=.ref a/\eR K H a xs/\xs.length=n/\t xs f H Q
def wh8(y:X.calm=true)(h:Ah X f t) (q:(T7 f X.env).length=n:=by rfl) (j:(T7 f X.env).findIdx? (·.1)=none:=by rfl):PG X (.Tuple f k pos) (YJ X.K n t):=by
 intro pins s g H v u Q I r hw;let#[a,xs,B,p,x,hw]:=hw;subst B;cases r;let#[its,i,m,G]:=I.list p;rw[C59];apply B5 (Qp ?_);unfold unpack;have hsz:(T7 f X.env).length=its.toArray.size:=by simp[q,<- x,i.length]
 rw[hsz,j];apply B5 (N5 (W.kun_itemsOf (I.ok.hd y) m.isList λA l=>?_));have C:Inv X pins g H { s with heap:=A}:=I.kept (t':=s.toks) λb o e=>l b o (J7 (D8 e)) e;exact h pins _ g H xs _ Q C (by simpa using i) hw
def xj0(h:PG X tg t)(h':PG X tg t'):PG X tg (λv f H Q=>t v f H Q\/t' v f H Q):=by
 intro pins s f H v u Q I r q;rcases q with q|q
 .exact h pins s f H v u Q I r q
 .exact h' pins s f H v u Q I r q
def Xv(K:W.Frag)(h:TE):TI:=λg H R=>h g H λx f=>∃a,x=.ref a/\(((∃xs,eR K f a xs)/\R (Zk K a) f)\/((∃xs,eF K f a xs)/\R (Zj K a) f))
def ww9(B:PE X l r):PI X tg l (Xv X.K r):=by
 intro pins s n H R I h
 (apply bg (B pins s n H _ I h) ?_;rintro v f ⟨x,m,g,k,y⟩)
 obtain⟨a,e,⟨⟨xs,i⟩,q⟩|⟨⟨xs,i⟩,q⟩⟩:=y
 .subst e;cases k;let#[its,u,p,A]:=g.list i;apply X6 p.isList ?_;apply#[f.heap.objs.size,[f.heap.objs.size],_,_,m,rfl,g.kept (t':=f.toks) λb o e=>B8 _ e,va4 a _,#[_,E4 _ rfl,rfl,rfl],λb j=>?_,q];have e:b=f.heap.objs.size:=by simpa using j
  subst e;exact g.qD (B9 _) (g.aE.fresh (B9 _))
 .subst e;cases k;let#[its,u,p,A]:=g.tuple i;apply Z4 (show f.heap.IsTuple a its.toArray from p) ?_;apply#[f.heap.objs.size,[f.heap.objs.size],_,_,m,rfl,g.kept (t':=f.toks) λb o e=>B8 _ e,v59 a _,#[_,E4 _ rfl,rfl,rfl],λb j=>?_,q];have e:b=f.heap.objs.size:=by simpa using j
  subst e;exact g.qD (B9 _) (g.aE.fresh (B9 _))
def ve0:dg X (L6 .IsNot) (λx y H Q=>∃b,y=.bl b/\Q (.bl (!decide (x=.bl b))) H):=by
 intro pins s i H x y v u Q I f g h;let#[b,rfl,q]:=h;cases g;apply wpAny_isNot_plain ?_ (fM I q ?_)
 .cases x <;> first
   | (cases f;rfl)
   | (let#[t,rfl]:=f;rfl)
 .cases x <;> first
   | (let#[t,rfl]:=f;rfl)
   | (cases f;cases b <;> rfl)
   | (cases f;rename_i c;cases b <;> cases c <;> rfl)
def vw3(t:X.calm=true):bK X (.builtin "sum") (λxs H Q=>∃(p:Addr) (ns:List Int),xs=[.ref p]/\eR X.K H p (ns.map V.int)/\Q (.int ns.sum) H):=by
 intro pins s A H xs B Q I r h;let#[p,ns,rfl,n,q]:=h;let#[u,rfl,j]:=vals1 r;cases j;let#[its,k,l,G]:=I.list n;let#[m,F]:=I.fr;have hi:wQ its ns:=intsAre_of k;let#[f,g]:=hi.allInts.items;have i:s.heap.IsList p (Zr f):=g▸l.isList;apply sum_intListG (I.ok.hd t) i λJ C E o=>?_;have y:ns=f.toList.map (·.1):=by rw[<- ZT,<- g];exact(show numsOf its.toArray.toList=ns from hi.numsOf).symm
 have x:preSum (numAt f) f.size=ns.sum:=by rw[preSum_eq,Z2 (by simp),y]
 rw[x];exact#[.int ns.sum,H,I.kept o,#[_,rfl],q]
def wl8(K:W.Frag)(H:Hp):V->String->Prop
 | .non,n=>n = "NoneType"| .bl _,n=>n = "bool"| .int _,n=>n = "int"| .str _,n=>n = "str"| .ref a,n=>(n = "list" /\ ((∃xs,H a=some (.lst xs))\/∃o xs,H a=some (.dG o (.lst xs))))\/(n = "tuple" /\ ∃xs,H a=some (.tup xs))\/(n = "dict" /\ ∃xs,H a=some (.dK xs))| _,_=>False
def sH(n T:String):Bool:=n==T||(n == "bool" && T == "int")
def zE{K:W.Frag}{n T:String}(f:n = "NoneType" \/ n = "bool" \/ n = "int" \/ n = "str" \/ n = "list" \/ n = "tuple" \/ n = "dict")(g:T = "int" \/ T = "str" \/ T = "bool" \/ T = "list" \/ T = "tuple" \/ T = "dict"):W.kitOne K (.type n) (.type T)=some (sH n T):=by rcases f with rfl|rfl|rfl|rfl|rfl|rfl|rfl <;> rcases g with rfl|rfl|rfl|rfl|rfl|rfl <;> rfl
def uz4:bK X (.builtin "isinstance") (λxs H Q=>∃x n T,xs=[x,.ty T]/\wl8 X.K H x n/\(T = "int" \/ T = "str" \/ T = "bool" \/ T = "list" \/ T = "tuple" \/ T = "dict")/\Q (.bl (sH n T)) H):=by
 intro pins s p H xs y Q I r h;let#[x,n,T,rfl,k,g,q]:=h;let#[u,w,rfl,f,t]:=vals2 r;cases t;have fin:∀l,EP X pins p Q (.bool (sH n T)) { s with toks:=l}:=λl=>#[.bl (sH n T),H,I.tok l,rfl,q];cases x with
 | non=>cases(show n = "NoneType" from k);exact zI I f .non (zE (by simp) g) fin
 | bl b=>cases(show n = "bool" from k);exact zI I f (.bl b) (zE (by simp) g) fin
 | int i=>cases(show n = "int" from k);exact zI I f (.int i) (zE (by simp) g) fin
 | str i=>cases(show n = "str" from k);exact zI I f (.str i) (zE (by simp) g) fin
 | ref a =>
  rcases(show(n = "list" /\ ((∃xs,H a=some (.lst xs))\/∃o xs,H a=some (.dG o (.lst xs))))\/(n = "tuple" /\ ∃xs,H a=some (.tup xs))\/(n = "dict" /\ ∃xs,H a=some (.dK xs)) from k) with⟨e,⟨xs,j⟩|⟨o,xs,j⟩⟩|⟨e,xs,j⟩|⟨e,xs,j⟩
  .cases e;exact zI I f (.lst j) (zE (by simp) g) fin
  .cases e;exact zI I f (.dG j) (zE (by simp) g) fin
  .cases e;exact zI I f (.tup j) (zE (by simp) g) fin
  .cases e;exact zI I f (.dK j) (zE (by simp) g) fin
 | _=>exact(show False from k).elim
end
end L2
namespace L2
open PySem
def XH(a C:Addr)(g:Option Addr)(h:Heap):Prop:=∃o f,h.get? a=some o/\o.cls=.ref C/\o.dict=g/\o.data=.fields f
def rJ(H:Hp):Option Addr->List (Str×V)->Prop
 | none,f=>f=[]| some d,f=>∃o,H d=some (.dG o (.xd f))
end L2
namespace L3
open PySem L2
inductive D where
 | non|bl (b:Bool)|int (i:Int)|str (x:Str)|tup (xs:List D)|ref (a:Addr)|ty (n:String)
inductive DO where
 | lst (xs:List D)|sV (xs:List D)|bM (kvs:List (Key×D))|Kh (kvs:List (List Key×D))|rC (kvs:List ((List Key×List Key)×D))|ins (C:Addr) (f:List (Str×D))|exc (C:Addr) (f:List (Str×D))|qC (o:Obj) (kvs:List (Key×D))|tb (g:Str) (h:Addr)
abbrev Gp:=Addr->Option DO
def aH(G:Gp)(a:Addr)(o:DO):Gp:=λb=>if b=a then some o else G b
def aG:aH G a o a=some o:=by unfold aH;rw[if_pos rfl]
def aB(h:b≠a):aH G a o b=G b:=by unfold aH;rw[if_neg h]
def ip:aH (aH G a o) a u=aH G a u:=by funext b;unfold aH;split <;> rfl
def aL{G:Gp}{a b:Addr}{o:DO}(h:G a=some o)(h':G b=none):a≠b:=by intro e;subst e;rw[h] at h';cases h'
structure Le(H H':Hp):Prop where
 fO:∀b xs,H b=some (.tup xs)->H' b=some (.tup xs)
 dY:∀b o (u:NK),H b=some (.dG o u.1)->H' b=some (.dG o u.1)
def Le.refl(H:Hp):Le H H:=#[λ_ _ h=>h,λ_ _ _ h=>h]
def Le.trans{H g f:Hp}(a:Le H g)(b:Le g f):Le H f:=#[λc xs h=>b.fO c xs (a.fO c xs h),λc o u h=>b.dY c o u (a.dY c o u h)]
def Le.GR(l:Le H f)(h:eF K H a xs):eF K f a xs:=by
 rcases h with(h|⟨o,h⟩)|h
 .exact .inl (.inl (l.fO _ _ h))
 .exact .inl (.inr ⟨o,l.dY _ _ ⟨_,by intro _ e;cases e⟩ h⟩)
 .exact .inr h
def Le.fresh(h:H p=none):Le H (upd H p o):=⟨λb xs q=>by rw[c_ (yh q h)];exact q,λb o u q=>by rw[c_ (yh q h)];exact q⟩
mutual
def ae(K:W.Frag)(H:Hp):D->V->Prop
 | .non,v=>v=.non| .bl b,v=>v=.bl b| .int i,v=>v=.int i| .str x,v=>v=.str x| .ref a,v=>v=.ref a| .ty n,v=>v=.ty n| .tup f,v=>∃a xs,v=.ref a/\eF K H a xs/\ag K H f xs
def ag(K:W.Frag)(H:Hp):List D->List V->Prop
 | [],xs=>xs=[]| d::f,xs=>∃x r,xs=x::r/\ae K H d x/\ag K H f r
end
section
variable{K:W.Frag}{H H':Hp}
mutual
theorem ae.le(l:Le H H'):∀{d:D} {v:V},ae K H d v->ae K H' d v
 | .non,_,h=>by simpa[ae] using h| .bl _,_,h=>by simpa[ae] using h| .int _,_,h=>by simpa[ae] using h| .str _,_,h=>by simpa[ae] using h| .ref _,_,h=>by simpa[ae] using h| .ty _,_,h=>by simpa[ae] using h| .tup f,_,h=>by rw[ae] at h⊢;let#[a,xs,e,s,r]:=h;exact#[a,xs,e,l.GR s,ag.le l r]
theorem ag.le(l:Le H H'):∀{ds:List D} {xs:List V},ag K H ds xs->ag K H' ds xs
 | [],_,h=>by simpa[ag] using h| d::ds,_,h=>by rw[ag] at h⊢;let#[x,r,e,g,f]:=h;exact#[x,r,e,ae.le l g,ag.le l f]
end
def ag.nil:ag K H [] []:=by rw[ag]
def ag.cons{d:D}{ds:List D}{x:V}{xs:List V}(h:ae K H d x)(t:ag K H ds xs):ag K H (d::ds) (x::xs):=by rw[ag];exact#[x,xs,rfl,h,t]
def ag.a_{xs:List V}(h:ag K H [] xs):xs=[]:=by rw[ag] at h;exact h
def ag.ay{d:D}{ds:List D}{xs:List V}(h:ag K H (d::ds) xs):∃x r,xs=x::r/\ae K H d x/\ag K H ds r:=by rw[ag] at h;exact h
theorem ag.length:∀{ds:List D} {xs:List V},ag K H ds xs->ds.length=xs.length
 | [],_,h=>by rw[h.a_];rfl| _::_,_,h=>by let#[x,r,e,_,t]:=h.ay;rw[e,C1,C1,t.length]
theorem ag.get:∀{ds:List D} {xs:List V} {i:Nat} {d:D},ag K H ds xs->ds[i]?=some d->∃x,xs[i]?=some x/\ae K H d x
 | [],_,_,_,_,e=>by simp at e| _::_,_,0,_,h,e=>by let#[x,r,rfl,f,t]:=h.ay;simp at e;subst e;exact#[x,rfl,f]| _::_,_,i+1,d,h,e=>by let#[x,r,rfl,f,t]:=h.ay;let#[y,j,g]:=ag.get (i:=i) t (by simpa using e);exact#[y,by simpa using j,g]
theorem ag.of:∀{ds:List D} {xs:List V},ds.length=xs.length->(∀(i:Nat) d x,ds[i]?=some d->xs[i]?=some x->ae K H d x)->ag K H ds xs
 | [],[],_,_=>.nil| [],_::_,h,_=>by simp at h| _::_,[],h,_=>by simp at h| d::ds,x::xs,h,f=>.cons (f 0 d x rfl rfl) (ag.of (by simpa using h) λi d x a b=>f (i+1) d x (by simpa using a) (by simpa using b))
theorem ag.append:∀{ds f:List D} {xs ys:List V},ag K H ds xs->ag K H f ys->ag K H (ds++f) (xs++ys)
 | [],_,_,_,h,t=>by rw[h.a_];exact t| _::_,_,_,_,h,t=>by let#[x,r,rfl,i,g]:=h.ay;exact .cons i (g.append t)
theorem ag.set(q:ae K H d x):∀{ds:List D} {xs:List V} (i:Nat),ag K H ds xs->ag K H (ds.set i d) (xs.set i x)
 | [],_,_,h=>by rw[h.a_];exact .nil| _::_,_,0,h=>by let#[x,r,rfl,g,f]:=h.ay;exact .cons q f| _::_,_,i+1,h=>by let#[x,r,rfl,g,f]:=h.ay;exact .cons g (f.set q i)
theorem ag.take:∀{ds:List D} {xs:List V} (n:Nat),ag K H ds xs->ag K H (ds.take n) (xs.take n)
 | _,_,0,_=>by simpa using ag.nil| [],_,_+1,h=>by rw[h.a_];exact .nil| _::_,_,n+1,h=>by let#[x,r,rfl,g,f]:=h.ay;exact .cons g (f.take n)
theorem ag.drop:∀{ds:List D} {xs:List V} (n:Nat),ag K H ds xs->ag K H (ds.drop n) (xs.drop n)
 | _,_,0,h=>by simpa using h| [],_,_+1,h=>by rw[h.a_];exact .nil| _::_,_,n+1,h=>by let#[x,r,rfl,g,f]:=h.ay;exact f.drop n
theorem ag.reverse:∀{ds:List D} {xs:List V},ag K H ds xs->ag K H ds.reverse xs.reverse
 | [],_,h=>by rw[h.a_];exact .nil| _::_,_,h=>by let#[x,r,rfl,g,f]:=h.ay;rw[U4,U4];exact f.reverse.append (.cons g .nil)
theorem ag.rep(h:ag K H ds xs):∀k:Nat,ag K H (D2 k ds).flatten (D2 k xs).flatten
 | 0=>.nil| k+1=>by rw[K4,K4,L4,L4];exact h.append (h.rep k)
def aF{κ:Type}(K:W.Frag)(H:Hp)(ps:List (κ×D))(qs:List (κ×V)):Prop:=ps.map (·.1)=qs.map (·.1)/\ag K H (ps.map (·.2)) (qs.map (·.2))
theorem aF.le{κ:Type}(l:Le H H'){ps:List (κ×D)}{qs:List (κ×V)}(h:aF K H ps qs):aF K H' ps qs:=#[h.1,ag.le l h.2]
end
def Ze(H:Hp)(i:Str)(ps:Array Value):Prop:=TriplesOk ps.toList/\∀pos g,codeAmong pos ps.toList=some g->∃(c:Addr) (o:Obj) (f:Array Value) (t:Tok),g=.ref c/\o.data=.fields f/\f[1]?=some (.str i t)/\H c=some (.dG o (.ext λh=>h.get? c=some o))
def ZO(H:Hp)(f:Addr):Prop:=∃o:Obj,H f=some (.dG o (.ext λh=>h.get? f=some o))/\o.cls=.type "module" /\ o.dict=some Qc/\o.data=.plain
def qN(K:W.Frag)(H:Hp)(a:Addr):DO->Prop
 | .lst i=>∃xs,H a=some (.lst xs)/\ag K H i xs| .sV i=>∃o xs,H a=some (.dG o (.lst xs))/\ag K H i xs| .bM kvs=>∃f,H a=some (.dK f)/\aF K H kvs f| .Kh kvs=>∃f,H a=some (.dT f)/\aF K H kvs f| .rC kvs=>∃f,H a=some (.dN K f)/\aF K H kvs f| .ins C h=>∃g f,H a=some (.ins C g f)/\aF K H h f| .exc C h=>∃g f,H a=some (.ext (XH a C g))/\rJ H g f/\aF K H h f| .qC o kvs=>∃f,H a=some (.dG o (.dK f))/\aF K H kvs f| .tb k l=>∃j,H a=some (.zJ j)/\Ze H k j/\ZO H l
def _root_.L2.rJ.le{H g:Hp}(l:Le H g){f:Option Addr}{ys:List (Str×V)}(h:rJ H f ys):rJ g f ys:=by
 cases f with
 | none=>exact h| some d=>let#[o,e]:=h;exact#[o,l.dY _ _ #[_,by intro _ e;cases e] e]
def bY(K:W.Frag)(G:Gp)(H:Hp):Prop:=∀a o,G a=some o->qN K H a o
section
variable{K:W.Frag}{G:Gp}{H H':Hp}{a p:Addr}{o:DO}
theorem qN.some(h:qN K H a o):∃u,H a=some u:=by
 cases o with
 | lst f=>let#[xs,e,_]:=h;exact#[_,e]| sV f=>let#[_,xs,e,_]:=h;exact#[_,e]| bM f=>let#[xs,e,_]:=h;exact#[_,e]| Kh f=>let#[xs,e,_]:=h;exact#[_,e]| rC f=>let#[xs,e,_]:=h;exact#[_,e]| ins C f=>let#[_,xs,e,_]:=h;exact#[_,e]| exc C f=>let#[_,xs,e,_]:=h;exact#[_,e]| qC o f=>let#[xs,e,_]:=h;exact#[_,e]| tb g i=>let#[_,e,_]:=h;exact#[_,e]
def qN.gq(h:qN K H a o)(l:Le H H')(e:H' a=H a):qN K H' a o:=by
 cases o with
 | lst f=>let#[xs,q,r]:=h;exact#[xs,e.trans q,ag.le l r]| sV f=>let#[o,xs,q,r]:=h;exact#[o,xs,e.trans q,ag.le l r]| bM f=>let#[xs,q,r]:=h;exact#[xs,e.trans q,r.le l]| Kh f=>let#[xs,q,r]:=h;exact#[xs,e.trans q,r.le l]| rC f=>let#[xs,q,r]:=h;exact#[xs,e.trans q,r.le l]| ins C f=>let#[g,xs,q,r]:=h;exact#[g,xs,e.trans q,r.le l]| exc C f=>let#[g,xs,q,z,r]:=h;exact#[g,xs,e.trans q,z.le l,r.le l]| qC o f=>let#[xs,q,r]:=h;exact#[xs,e.trans q,r.le l]| tb I J=>let#[y,q,#[x,u],o,E,B]:=h;exact#[y,e.trans q,#[x,λpos A z=>let ⟨c,o,n,t,m,k,j,i⟩:=u pos A z;#[c,o,n,t,m,k,j,l.dY _ _ #[_,by intro _ e;cases e] i]],o,l.dY _ _ #[_,by intro _ e;cases e] E,B]
def bY.fresh(c:bY K G H)(h:H p=none):G p=none:=by
 cases e:G p with
 | none=>rfl| some o=>let#[u,q]:=(c p o e).some;rw[h] at q;cases q
theorem bY.gq(c:bY K G H)(l:Le H H')(e:∀a o,G a=some o->H' a=H a):bY K G H':=λa o q=>(c a o q).gq l (e a o q)
def bY.side(c:bY K G H)(h:H p=none):bY K G (upd H p u):=c.gq (Le.fresh h) λa o q=>by let#[u,e]:=(c a o q).some;exact c_ (yh e h)
def bY.put{u:HO}(c:bY K G H)(l:Le H (upd H p u))(n:qN K (upd H p u) p o):bY K (aH G p o) (upd H p u):=λb q e=>by
 by_cases f:b=p
 .subst f;rw[aG] at e;cases e;exact n
 .rw[aB f] at e;exact(c b q e).gq l (c_ f)
theorem Le.lst{xs ys:List V}(h:H p=some (.lst xs)):Le H (upd H p (.lst ys)):=
  ⟨fun b zs q => by by_cases e: b = p
                    · subst e;rw[h] at q;cases q
                    · rw[c_ e];exact q,
   fun b o u q => by by_cases e: b = p
                     · subst e;rw[h] at q;cases q
                     · rw[c_ e];exact q⟩
theorem Le.dK(h:H p=some (.dK xs)):Le H (upd H p (.dK ys)):=
  ⟨fun b zs q => by by_cases e: b = p
                    · subst e;rw[h] at q;cases q
                    · rw[c_ e];exact q,
   fun b o u q => by by_cases e: b = p
                     · subst e;rw[h] at q;cases q
                     · rw[c_ e];exact q⟩
theorem Le.ins{C dx C' uT:Addr}{xs ys:List (Str×V)}(h:H p=some (.ins C dx xs)):Le H (upd H p (.ins C' uT ys)):=
  ⟨fun b zs q => by by_cases e: b = p
                    · subst e;rw[h] at q;cases q
                    · rw[c_ e];exact q,
   fun b o u q => by by_cases e: b = p
                     · subst e;rw[h] at q;cases q
                     · rw[c_ e];exact q⟩
def bY.cP(c:bY K G H)(h:H p=none)(r:ag K H ds xs):bY K (aH G p (.lst ds)) (upd H p (.lst xs)):=c.put (Le.fresh h) #[xs,iq,ag.le (Le.fresh h) r]
def bY.lY(c:bY K G H)(h:H p=some (.lst ys))(r:ag K H ds xs):bY K (aH G p (.lst ds)) (upd H p (.lst xs)):=c.put (Le.lst h) #[xs,iq,ag.le (Le.lst h) r]
end
abbrev dR:=List (Option D)
def bJ(K:W.Frag)(H:Hp)(f:dR)(g:St):Prop:=f.length=g.length/\∀(i:Nat) d,f[i]?=some (some d)->∃v,g[i]?=some (some v)/\ae K H d v
theorem bJ.le{K:W.Frag}{H j:Hp}{f:dR}{g:St}(h:bJ K H f g)(l:Le H j):bJ K j f g:=#[h.1,λi d e=>let ⟨v,a,b⟩:=h.2 i d e;#[v,a,ae.le l b]]
theorem bJ.set(h:bJ K H f k)(i:Nat)(r:ae K H d v):bJ K H (f.set i (some d)) (k.set i (some v)):=by
 apply#[by rw[J9,J9];exact h.1,λj e q=>?_];rw[B98] at q;split at q
 .rename_i g;subst g;split at q
  .rename_i l;cases q;exact#[v,by rw[A40 (by rw[<- h.1];exact l)],r]
  .cases q
 .rename_i g;let#[w,a,b]:=h.2 j e q;exact#[w,by rw[A68 g];exact a,b]
abbrev DK:=D->Gp->Prop
abbrev bC:=dR->Gp->DK->Prop
abbrev ja:=dR->Gp->(Bool->Gp->Prop)->Prop
abbrev eW:=dR->Gp->(List D->Gp->Prop)->Prop
structure ig where
 nx:dR->Gp->Prop
 rt:DK
 bk:dR->Gp->Prop:=λ_ _=>False
 ct:dR->Gp->Prop:=λ_ _=>False
abbrev ic:=ig->dR->Gp->Prop
def jM(K:W.Frag)(H:Hp)(q:DK)(Q:VK):Prop:=∀d g v f,ae K f d v->bY K g f->Le H f->q d g->Q v f
def Zo(K:W.Frag)(H:Hp)(q:Bool->Gp->Prop)(Q:Bool->Hp->Prop):Prop:=∀b g f,bY K g f->Le H f->q b g->Q b f
def Zp(K:W.Frag)(H:Hp)(q:List D->Gp->Prop)(Q:List V->Hp->Prop):Prop:=∀h i g f,ag K f h g->bY K i f->Le H f->q h i->Q g f
def mq(K:W.Frag)(H:Hp)(q:dR->Gp->Prop)(Q:St->Hp->Prop):Prop:=∀f i h g,bJ K g f h->bY K i g->Le H g->q f i->Q h g
def jM.le{K:W.Frag}{H g:Hp}{q:DK}{Q:VK}(f:jM K H q Q)(l:Le H g):jM K g q Q:=λd G v i r c h=>f d G v i r c (l.trans h)
def mq.le{K:W.Frag}{H g:Hp}{q:dR->Gp->Prop}{Q:St->Hp->Prop}(f:mq K H q Q)(l:Le H g):mq K g q Q:=λd G v i r c h=>f d G v i r c (l.trans h)
structure zm(K:W.Frag)(H:Hp)(d:ig)(D:Ends):Prop where
 nx:mq K H d.nx D.nx
 rt:jM K H d.rt D.rt
 bk:mq K H d.bk D.bk
 ct:mq K H d.ct D.ct
theorem zm.le{K:W.Frag}{H g:Hp}{d:ig}{D:Ends}(f:zm K H d D)(l:Le H g):zm K g d D:=#[f.nx.le l,f.rt.le l,f.bk.le l,f.ct.le l]
inductive aJ(K:W.Frag)(t:bC)(g:St)(H:Hp)(Q:VK):Prop
 | mk (f:dR) (G:Gp) (q:DK) (_:bJ K H f g) (_:bY K G H) (_:t f G q) (_:jM K H q Q):aJ K t g H Q
inductive d_(K:W.Frag)(t:ja)(g:St)(H:Hp)(Q:Bool->Hp->Prop):Prop
 | mk (f:dR) (G:Gp) (q:Bool->Gp->Prop) (_:bJ K H f g) (_:bY K G H) (_:t f G q) (_:Zo K H q Q):d_ K t g H Q
inductive eh(K:W.Frag)(t:eW)(g:St)(H:Hp)(Q:List V->Hp->Prop):Prop
 | mk (f:dR) (G:Gp) (q:List D->Gp->Prop) (_:bJ K H f g) (_:bY K G H) (_:t f G q) (_:Zp K H q Q):eh K t g H Q
inductive dP(K:W.Frag)(t:ic)(D:Ends)(g:St)(H:Hp):Prop
 | mk (f:dR) (G:Gp) (d:ig) (_:bJ K H f g) (_:bY K G H) (_:t d f G) (_:zm K H d D):dP K t D g H
abbrev R3:=D->D->Gp->DK->Prop
inductive j3(K:W.Frag)(r:R3)(x y:V)(H:Hp)(Q:VK):Prop
 | mk (d e:D) (G:Gp) (q:DK) (_:ae K H d x) (_:ae K H e y) (_:bY K G H) (_:r d e G q) (_:jM K H q Q):j3 K r x y H Q
abbrev U3:=D->Gp->DK->Prop
inductive uA(K:W.Frag)(r:U3)(x:V)(H:Hp)(Q:VK):Prop
 | mk (d:D) (G:Gp) (q:DK) (_:ae K H d x) (_:bY K G H) (_:r d G q) (_:jM K H q Q):uA K r x H Q
abbrev C3:=List D->Gp->DK->Prop
inductive BX(K:W.Frag)(r:C3)(xs:List V)(H:Hp)(Q:VK):Prop
 | mk (ds:List D) (G:Gp) (q:DK) (_:ag K H ds xs) (_:bY K G H) (_:r ds G q) (_:jM K H q Q):BX K r xs H Q
def dD(i:Nat):bC:=λf G q=>match f[i]? with|some (some d)=>q d G|_=>False
def dC(d:D):bC:=λ_ G q=>q d G
def CT(r:R3)(g tb:bC):bC:=λf G q=>g f G λx i=>tb f i λy h=>r x y h q
def Pz(r:U3)(g:bC):bC:=λf G q=>g f G λx h=>r x h q
def eQ:eW:=λ_ G q=>q [] G
def mQ(h:bC)(g:eW):eW:=λf G q=>h f G λx j=>g f j λxs i=>q (x::xs) i
def sY(t:eW):bC:=λf G q=>t f G λxs g=>xs.length<=sizeLine/\q (.tup xs) g
def zb(t:eW):bC:=λg G q=>t g G λxs f=>xs.length<=sizeLine/\∀p,f p=none->q (.ref p) (aH f p (.lst xs))
def dB(t:bC):ja:=λf G q=>t f G λx g=>match x with|.bl c=>q c g|_=>False
def CW(t u:ja):ja:=λf G q=>t f G λc g=>if c=true then u f g q else q false g
def YT(t u:ja):ja:=λf G q=>t f G λc g=>if c=true then q true g else u f g q
def CU(t:ja):ja:=λf G q=>t f G λc g=>q (!c) g
def Rx(h tb:bC):bC:=λf G q=>h f G λx g=>match x with|.bl c=>if c=true then tb f g q else q (.bl false) g|_=>False
def CS(h tb:bC):bC:=λf G q=>h f G λx g=>match x with|.bl c=>if c=true then q (.bl true) g else tb f g q|_=>False
def RA(g:bC):bC:=λf G q=>g f G λx h=>match x with|.bl c=>q (.bl (!c)) h|_=>False
def YU(t:ja)(h tb:bC):bC:=λf G q=>t f G λc g=>if c=true then h f g q else tb f g q
section
variable{K:W.Frag}{σ:St}{H:Hp}{Q:VK}
def wk2(h:aJ K (dD i) σ H Q):BB i σ H Q:=by
 let#[g,G,q,j,c,t,f]:=h;unfold dD at t;split at t
 .rename_i d e;let#[v,k,r]:=j.2 i d e;exact#[v,k,f d G v H r c (Le.refl H) t]
 .exact t.elim
def FG(r:∀H,ae K H d v)(h:aJ K (dC d) σ H Q):tC v σ H Q:=by let#[g,G,q,i,c,t,f]:=h;exact f d G v H (r H) c (Le.refl H) t
def Nt(h:aJ K (CT r l tb) σ H Q):GH (j3 K r) (aJ K l) (aJ K tb) σ H Q:=by let#[g,G,q,i,c,t,f]:=h;exact#[g,G,_,i,c,t,λd y v B p c1 k n=>#[g,y,_,i.le k,c1,n,λe x u A o c2 j m=>#[d,e,x,q,ae.le j p,o,c2,m,f.le (k.trans j)]]]
def x84(h:aJ K (Pz r i) σ H Q):tUn (uA K r) (aJ K i) σ H Q:=by let#[g,G,q,k,c,t,f]:=h;exact#[g,G,_,k,c,t,λd n v o l c1 m j=>#[d,n,q,l,c1,j,f.le m]]
def vg2{Q:List V->Hp->Prop}(h:eh K eQ σ H Q):yk σ H Q:=by let#[g,G,q,i,c,t,f]:=h;exact f [] G [] H .nil c (Le.refl H) t
def vt8{j:bC}{i:eW}{Q:List V->Hp->Prop}(h:eh K (mQ j i) σ H Q):TL (aJ K j) (eh K i) σ H Q:=by let#[g,G,q,k,c,t,f]:=h;exact#[g,G,_,k,c,t,λd B v C u c1 m p=>#[g,B,_,k.le m,c1,p,λx A n y r c2 l o=>f (d::x) A (v::n) y (.cons (ae.le l u) r) c2 (m.trans l) o]]
def wk4(h:aJ K (sY m) σ H Q):GC (eh K m) σ H Q:=by let#[g,G,q,n,c,t,f]:=h;apply#[g,G,_,n,c,t,λr u l x k c1 o j=>#[by rw[<- k.length];exact j.1,λp i=>?_]];apply f (.tup r) u (.ref p) _ ?_ (c1.side i) (o.trans (Le.fresh i)) j.2;rw[ae];exact#[p,l,rfl,eF.of iq,ag.le (Le.fresh i) k]
def wk9(h:aJ K (zb l) σ H Q):GJ (eh K l) σ H Q:=by let#[g,G,q,m,c,t,f]:=h;apply#[g,G,_,m,c,t,λr x o u k c1 n j=>#[by rw[<- k.length];exact j.1,λp i=>?_]];exact f (.ref p) _ (.ref p) _ (by rw[ae]) (c1.cP i k) (n.trans (Le.fresh i)) (j.2 p (c1.fresh i))
def ae.cb(h:ae K H (.bl c) v):v=.bl c:=by rw[ae] at h;exact h
def vu3{t u:ja}{Q:Bool->Hp->Prop}(h:d_ K (CW t u) σ H Q):GP (d_ K t) (d_ K u) σ H Q:=by
 let#[g,G,q,k,c,t,f]:=h;apply#[g,G,_,k,c,t,λb p r c1 j i=>?_];cases b with
 | true=>rw[if_pos rfl] at i⊢;exact#[g,p,q,k.le j,c1,i,λb o n c2 m l=>f b o n c2 (j.trans m) l]| false=>rw[if_neg C9] at i⊢;exact f _ _ _ c1 j i
def wk8{t u:ja}{Q:Bool->Hp->Prop}(h:d_ K (YT t u) σ H Q):tOr (d_ K t) (d_ K u) σ H Q:=by
 let#[g,G,q,k,c,t,f]:=h;apply#[g,G,_,k,c,t,λb p r c1 j i=>?_];cases b with
 | false=>rw[if_neg C9] at i⊢;exact#[g,p,q,k.le j,c1,i,λb o n c2 m l=>f b o n c2 (j.trans m) l]| true=>rw[if_pos rfl] at i⊢;exact f _ _ _ c1 j i
def vt0{t:ja}{Q:Bool->Hp->Prop}(h:d_ K (CU t) σ H Q):GI (d_ K t) σ H Q:=by let#[g,G,q,j,c,t,f]:=h;exact#[g,G,_,j,c,t,λb m l c1 k i=>f _ _ _ c1 k i]
def x87(h:aJ K (YU t m tb) σ H Q):tIf (d_ K t) (aJ K m) (aJ K tb) σ H Q:=by
 let#[g,G,q,k,c,t,f]:=h;apply#[g,G,_,k,c,t,λb l n c1 j i=>?_];cases b with
 | true=>rw[if_pos rfl] at i⊢;exact#[g,l,q,k.le j,c1,i,f.le j]| false=>rw[if_neg C9] at i⊢;exact#[g,l,q,k.le j,c1,i,f.le j]
end
def Rz:ic:=λE f G=>E.nx f G
def Go(k:dR->Gp->Prop)(f:dR)(G:Gp):Prop:=k f G
def fz(t u:ic):ic:=λE f G=>t { E with nx:=Go (u E)} f G
def Bm(te:bC):ic:=λE f G=>te f G λ_ g=>E.nx f g
def j9(te:bC):ic:=λE f G=>te f G E.rt
def RC:ic:=λE _ G=>E.rt .non G
def uV(c:ja)(t u:ic):ic:=λE f G=>c f G λb g=>if b=true then t E f g else u E f g
abbrev pH:=D->dR->Gp->(dR->Gp->Prop)->Prop
abbrev qL:=List D->dR->Gp->(dR->Gp->Prop)->Prop
inductive lowG(K:W.Frag)(t:pH)(v:V)(g:St)(H:Hp)(Q:St->Hp->Prop):Prop
 | mk (d:D) (f:dR) (G:Gp) (q:dR->Gp->Prop) (_:ae K H d v) (_:bJ K H f g) (_:bY K G H) (_:t d f G q) (_:mq K H q Q):lowG K t v g H Q
inductive nj(K:W.Frag)(t:qL)(vs:List V)(g:St)(H:Hp)(Q:St->Hp->Prop):Prop
 | mk (ds:List D) (f:dR) (G:Gp) (q:dR->Gp->Prop) (_:ag K H ds vs) (_:bJ K H f g) (_:bY K G H) (_:t ds f G q) (_:mq K H q Q):nj K t vs g H Q
def tF(i:Nat):pH:=λd f G q=>q (f.set i (some d)) G
def yI:qL:=λg f G q=>g=[]/\q f G
def FF(t:pH)(u:qL):qL:=λh g G q=>match h with|d::r=>t d g G λf i=>u r f i q|[]=>False
abbrev rK:=D->D->D->Gp->(Gp->Prop)->Prop
inductive lZ(K:W.Frag)(t:rK)(o i v:V)(H:Hp)(Q:Hp->Prop):Prop
 | mk (d e x:D) (G:Gp) (q:Gp->Prop) (_:ae K H d o) (_:ae K H e i) (_:ae K H x v) (_:bY K G H) (_:t d e x G q) (_:∀g f,bY K g f->Le H f->q g->Q f):lZ K t o i v H Q
def Ca(to g:bC)(t:rK):pH:=λd f G q=>to f G λo k=>g f k λi j=>t o i d j λh=>q f h
def hJ(te:bC)(g:pH):ic:=λE f G=>te f G λx h=>g x f h E.nx
section
variable{K:W.Frag}{σ:St}{H:Hp}{E:Ends}
def vt1(h:dP K Rz E σ H):wt6 E σ H:=by let#[g,G,d,i,c,t,f]:=h;exact f.nx _ _ _ _ i c (Le.refl H) t
def wk5(h:dP K (fz t u) E σ H):GD (dP K t) (dP K u) E σ H:=by let#[i,G,d,l,c,t,f]:=h;exact#[i,G,_,l,c,t,λg p j q o n m k=>#[g,p,d,o,n,k,f.le m],f.rt,f.bk,f.ct]
def vt7(h:dP K (Bm te) E σ H):wu0 (aJ K te) E σ H:=by let#[g,G,d,i,c,t,f]:=h;exact#[g,G,_,i,c,t,λx n v m l c1 j k=>f.nx _ _ _ _ (i.le j) c1 j k]
def wk6(h:dP K (j9 te) E σ H):GF (aJ K te) E σ H:=by let#[g,G,d,i,c,t,f]:=h;exact#[g,G,_,i,c,t,f.rt]
def vs6(h:dP K RC E σ H):wt3 E σ H:=by let#[g,G,d,i,c,t,f]:=h;exact f.rt .non _ .non _ (by rw[ae]) c (Le.refl H) t
def wl0(h:dP K (uV tc t u) E σ H):GK (d_ K tc) (dP K t) (dP K u) E σ H:=by
 let#[g,G,d,k,c,t,f]:=h;apply#[g,G,_,k,c,t,λb l m c1 j i=>?_];cases b with
 | true=>rw[if_pos rfl] at i⊢;exact#[g,l,d,k.le j,c1,i,f.le j]| false=>rw[if_neg C9] at i⊢;exact#[g,l,d,k.le j,c1,i,f.le j]
def vg3(h:lowG K (tF i) v σ H Q):RG i v σ H Q:=by let#[d,g,G,q,r,j,c,t,f]:=h;exact f _ _ _ _ (j.set i r) c (Le.refl H) t
def vt4(h:nj K yI vs σ H Q):Kb vs σ H Q:=by let#[j,g,G,q,r,i,c,#[e,t],f]:=h;subst e;exact#[r.a_,f _ _ _ _ i c (Le.refl H) t]
def vg4(h:nj K (FF t u) vs σ H Q):xa8 (lowG K t) (nj K u) vs σ H Q:=by
 let#[j,i,G,q,r,n,c,t,f]:=h;cases j with
 | nil=>exact t.elim| cons d j =>let#[x,xs,rfl,p,o]:=r.ay;exact#[x,xs,rfl,d,i,G,_,p,n,c,t,λg B l C A y k m=>#[j,g,B,q,ag.le k o,A,y,m,f.le k]]
def vt3(h:lowG K (Ca to n t) v σ H Q):Ka (aJ K to) (aJ K n) (lZ K t) v σ H Q:=by
 let#[d,g,G,q,r,l,c,t,f]:=h;exact#[g,G,_,l,c,t,λo I J O A c1 k x=>#[g,I,_,l.le k,c1,x,λi C L N y c2 j u=>#[o,i,d,C,_,ae.le j A,y,ae.le (k.trans j) r,c2,u,λR M B m p =>
  f _ _ _ _ (l.le (k.trans (j.trans m))) B (k.trans (j.trans m)) p]]]
def wl4(h:dP K (hJ te g) E σ H):BD (aJ K te) (lowG K g) E σ H:=by let#[i,G,d,j,c,t,f]:=h;exact#[i,G,_,j,c,t,λx n v o m c1 k l=>#[x,i,n,_,m,j.le k,c1,l,f.nx.le k]]
end
def Bi(c:ja)(tb:ic)(E:ig):Nat->dR->Gp->Prop
 | 0,_,_=>False| n+1,f,G=>c f G λb g=>if b=true then tb { E with nx:=Bi c tb E n,ct:=Bi c tb E n,bk:=E.nx} f g else E.nx f g
def Ub(c:ja)(tb:ic):ic:=λE f G=>∃n,Bi c tb E n f G
def vf8(h:dP K (Ub c tb) E N H):vx8 (d_ K c) (dP K tb) E N H:=by
 let#[u,G,d,O,Q,#[n,t],f]:=h;apply#[λm j l=>∃g q,Le H l/\bJ K l g j/\bY K q l/\Bi c tb d m g q,#[n,u,G,Le.refl H,O,Q,t],?_];rintro m M Y ⟨k,U,p,C,c1,L⟩;cases m with
 | zero=>exact L.elim| succ m =>
  apply#[k,U,_,C,c1,L,λb S X c2 o r=>?_];cases b with
  | true =>
   rw[if_pos rfl] at r⊢;apply#[λj l=>∃g q,Le H l/\bJ K l g j/\bY K q l/\Bi c tb d m g q,λj l w=>#[m,S9 m,w],k,S,_,C.le o,c2,r,?_,?_,?_,?_]
   .exact λi J x R I B A y=>#[i,J,p.trans (o.trans A),I,B,y]
   .exact f.rt.le (p.trans o)
   .exact f.nx.le (p.trans o)
   .exact λi J x R I B A y=>#[i,J,p.trans (o.trans A),I,B,y]
  | false =>rw[if_neg C9] at r⊢;exact f.nx _ _ _ _ (C.le o) c2 (p.trans o) r
structure IT where
 items:List D
 ok:Gp->Prop
structure jJ(K:W.Frag)(H0:Hp)(it:IT)(J:It):Prop where
 go:∀(i:Nat) G H,Le H0 H->bY K G H->it.ok G->i<it.items.length->J.go i H
 stop:∀(i:Nat) G H,Le H0 H->bY K G H->it.ok G->it.items.length<=i->J.stop i H
 qO:∀(i:Nat) G H x H',Le H0 H->bY K G H->it.ok G->i<it.items.length->J.qO i H x H'->bY K G H'/\Le H H'/\∃d,it.items[i]?=some d/\ae K H' d x
abbrev tX:=dR->Gp->(IT->Gp->Prop)->Prop
inductive ni(K:W.Frag)(t:tX)(h:St)(H:Hp)(R:It->Hp->Prop):Prop
 | mk (f:dR) (G:Gp) (r:IT->Gp->Prop) (_:bJ K H f h) (_:bY K G H) (_:t f G r) (_:∀it J i g,jJ K g it J->bY K i g->Le H g->r it i->R J g):ni K t h H R
def forL(ok:Gp->Prop)(g:pH)(tb:ic)(E:ig):List D->dR->Gp->Prop
 | [],h,G=>ok G/\E.nx h G| x::r,h,G=>ok G/\g x h G λf i=>tb { E with nx:=forL ok g tb E r,ct:=forL ok g tb E r,bk:=E.nx} f i
def sZ(h:tX)(g:pH)(tb:ic):ic:=λE f G=>h f G λit i=>forL it.ok g tb E it.items f i
def wl1(h:dP K (sZ wi g tb) E σ H):GL (ni K wi) (lowG K g) (dP K tb) E σ H:=by
 let#[u,G,d,O,cc,t,f]:=h;apply#[u,G,_,O,cc,t,λit J G1 C ir c1 B t1=>?_];apply#[λi m k l=>∃j n,Le C l/\bJ K l j k/\bY K n l/\i+m=it.items.length/\forL it.ok g tb d (it.items.drop i) j n,#[it.items.length,u,G1,Le.refl _,O.le B,c1,(),by rw[Z_];exact t1],?_];rintro i m σ2 M ⟨r,I,A,S,c2,e2,o⟩;by_cases hi:i<it.items.length
 .rw[N7 hi] at o;let#[U,o]:=o;apply .inr #[ir.go i I M A c2 U hi,λk l=>∃j n,Le C l/\bJ K l j k/\bY K n l/\forL it.ok g tb d (it.items.drop (i+1)) j n,?_,?_]
  .rintro k l ⟨j,n,a1,a2,a3,a4⟩;exact#[m-1,(),j,n,a1,a2,a3,(),a4]
  .intro x H3 y;let#[c3,Q,e,R,r3]:=ir.qO i I M x H3 A c2 U hi y;rw[B6 hi] at R;cases R;apply#[_,r,I,_,r3,S.le Q,c3,o,λq G4 Z X Ek c4 l4 t4=>?_];have N:Le C X:=A.trans (Q.trans l4);have key:mq K X (forL it.ok g tb d (it.items.drop (i+1))) (λk l=>∃j n,Le C l/\bJ K l j k/\bY K n l/\forL it.ok g tb d (it.items.drop (i+1)) j n):=
    λp G5 Y H5 L c5 l5 t5=>#[p,G5,N.trans l5,L,c5,t5]
   exact#[q,G4,_,Ek,c4,t4,key,f.rt.le (B.trans N),f.nx.le (B.trans N),key]
 .rw[B40 ()] at o;exact .inl #[ir.stop i I M A c2 o.1 (),f.nx _ _ _ _ S c2 (B.trans A) o.2]
def ag.at_{K:W.Frag}{H:Hp}{ds:List D}{xs:List V}{i:Nat}{x:V}(h:ag K H ds xs)(e:xs[i]?=some x):∃d,ds[i]?=some d/\ae K H d x:=by
 have g:i<ds.length:=by rw[h.length];exact(L8.mp e).1
 let#[y,f,r]:=h.get (B6 g);rw[e] at f;cases f;exact#[_,B6 g,r]
def vi0{K:W.Frag}{f:Hp}{a:Addr}{ds:List D}{xs:List V}(s:eF K f a xs)(r:ag K f ds xs):jJ K f #[ds,λ_=>True] (Zj K a) where
 go:=λi G H l c _ hi=>#[xs,xs[i]'(by rw[<- r.length];exact hi),l.GR s,B6 _]
 stop:=λi G H l c _ hi=>#[xs,l.GR s,by rw[<- r.length];exact hi]
 qO:=λi G H x k l c _ hi y=>by let#[e,y]:=y;subst e;have g:=y xs (l.GR s);let#[d,h,rd]:=(ag.le l r).at_ g;exact#[c,Le.refl _,d,h,rd]
def bB:Option DO->Option (List D)
 | some (.lst xs)=>some xs| some (.sV xs)=>some xs| _=>none
def e_(c:bY K G H)(h:bB (G a)=some ds):∃xs,eR K H a xs/\ag K H ds xs:=by
 cases e:G a with
 | none=>rw[e] at h;cases h
 | some o =>
  rw[e] at h;have q:=c a o e;cases o with
  | lst xs=>cases h;let#[f,q,r]:=q;exact#[f,.inl (.inl q),r]
  | sV xs=>cases h;let#[o,f,q,r]:=q;exact#[f,.inl (.inr #[o,q]),r]
  | bM _=>cases h
  | Kh _=>cases h
  | rC _=>cases h
  | ins _ _=>cases h
  | exc _ _=>cases h
  | qC _ _=>cases h
  | tb _ _=>cases h
def v75{K:W.Frag}{g:Hp}{a:Addr}{ds:List D}:jJ K g #[ds,λG=>bB (G a)=some ds] (Zk K a) where
 go:=λi G H l c ok hi=>by let#[xs,s,r]:=e_ c ok;exact#[xs,xs[i]'(by rw[<- r.length];exact hi),s,B6 _]
 stop:=λi G H l c ok hi=>by let#[xs,s,r]:=e_ c ok;exact#[xs,s,by rw[<- r.length];exact hi]
 qO:=λi G H x j l c ok hi y=>by let#[e,y]:=y;subst e;let#[xs,s,r]:=e_ c ok;let#[d,f,rd]:=r.at_ (y xs s);exact#[c,Le.refl _,d,f,rd]
def b_(lo:Int)(n:Nat):List D:=(E6 n).map λ(i:Nat)=>.int (lo+i)
def uj8:jJ K g #[b_ lo n,λ_=>True] (KD lo n) where
 go:=λi G H l c _ hi=>by
  have:i<n:=by simpa[b_] using hi
  exact this
 stop:=λi G H l c _ hi=>by
  have:n<=i:=by simpa[b_] using hi
  exact this
 qO:=λi G H x h l c _ hi y=>by
  let#[e,y]:=y;subst e;subst y;apply#[c,Le.refl _,.int (lo+i),?_,by rw[ae]];have:i<n:=by simpa[b_] using hi
  simp[b_,this]
abbrev gi:=List D->Gp->DK->Prop
inductive cJ(K:W.Frag)(S:gi)(vs:List V)(H:Hp)(Q:VK)(X:XK):Prop
 | mk (ds:List D) (G:Gp) (R:DK) (_:ag K H ds vs) (_:bY K G H) (_:S ds G R) (_:jM K H R Q):cJ K S vs H Q X
def iT(S:gi)(h:List D)(t:eW):bC:=λg G q=>t g G λi j=>∃R,S (i++h) j R/\∀d f,R d f->q d f
def qS(C:Addr)(m:Str)(S:gi)(j:List D)(i:bC)(t:eW):bC:=λf G q=>i f G λx g=>match x with
 | .ref a=>(match g a with
  | some (.ins o k)=>o=C/\k.lookup m=none/\t f g λl n=>∃R,S (.ref a::(l++j)) n R/\∀d h,R d h->q d h| _=>False)
 | _=>False
def Fx(C:Addr)(S:gi)(i:List D)(t:eW):bC:=λh G q=>t h G λj f=>∀x,f x=none ->
 ∃R,S (.ref x::(j++i)) (aH f x (.ins C [])) R/\∀d g,R d g->d=.non/\q (.ref x) g
def putD(f:Str)(v:D):List (Str×D)->List (Str×D)
 | []=>[(f,v)]| (g,u)::r=>if g=f then(g,v)::r else(g,u)::putD f v r
def CV(C:Addr)(i:bC)(f:Str):bC:=λh G q=>i h G λx g=>match x with
 | .ref a=>(match g a with
  | some (.ins k j)=>k=C/\(match j.lookup f with|some d=>q d g|none=>False)
  | _=>False)
 | _=>False
def RD(C:Addr)(k j:bC)(f:Str):ic:=λE g G=>j g G λy l=>k g l λx i=>match x with
 | .ref a=>(match i a with
  | some (.ins m h)=>m=C/\h.length<1000/\E.nx g (aH i a (.ins C (putD f y h)))| _=>False)
 | _=>False
def Ry(C:Addr)(l k:bC)(r:R3)(f:Str):ic:=λE g G=>l g G λx j=>match x with
 | .ref a=>(match j a with
  | some (.ins p m)=>p=C/\(match m.lookup f with
   | some d=>k g j λy o=>r d y o λz i=>(match i a with
    | some (.ins n h)=>n=C/\h.length<1000/\E.nx g (aH i a (.ins C (putD f z h)))| _=>False)
   | none=>False)
  | _=>False)
 | _=>False
section
variable{K:W.Frag}{σ:St}{H:Hp}{Q:VK}{E:Ends}
def vt9(x:∀H,ag K H p eP)(h:aJ K (iT S p t) σ H Q):wu5 (cJ K S) eP XE (eh K t) σ H Q:=by let#[g,G,q,m,c,t,f]:=h;exact#[g,G,_,m,c,t,λI B C A o c1 u ⟨R,l,k⟩=>#[_,B,R,o.append (x A),c1,l,λd i v y n c2 r j=>f d i v y n c2 (u.trans r) (k d i j)]]
def ae.fe:ae K H (.ref a) (.ref a):=by rw[ae]
def ae.ar{a:Addr}{v:V}(h:ae K H (.ref a) v):v=.ref a:=by rw[ae] at h;exact h
theorem aF.lookup_none{κ:Type}[BEq κ]{k:κ}:∀{ps:List (κ×D)} {qs:List (κ×V)},aF K H ps qs->ps.lookup k=none->qs.lookup k=none
 | [],qs,h,_=>by
  cases qs with
  | nil=>rfl| cons _ _=>have:=h.1;simp at this
 | (g,d)::ps,qs,h,e=>by
  cases qs with
  | nil=>have:=h.1;simp at this| cons q qs =>
   let#[m,v]:=q;have f:=h.1;simp only[C0,V9] at f;let#[rfl,f]:=f;let#[x,r,l,_,j]:=(show ag K H (d::ps.map (·.2)) (v::qs.map (·.2)) from h.2).ay;cases l;rw[I0] at e⊢;cases i:k==g with
   | true=>rw[i] at e;cases e
   | false=>rw[i] at e;exact aF.lookup_none #[f,j] e
theorem aF.lookup{κ:Type}[BEq κ]{k:κ}{d:D}:∀{ps:List (κ×D)} {qs:List (κ×V)},aF K H ps qs->ps.lookup k=some d->∃v,qs.lookup k=some v/\ae K H d v
 | [],qs,h,e=>by cases e
 | (g,n)::ps,qs,h,e=>by
  cases qs with
  | nil=>have:=h.1;simp at this| cons q qs =>
   let#[o,v]:=q;have f:=h.1;simp only[C0,V9] at f;let#[rfl,f]:=f;let#[x,r,m,j,l]:=(show ag K H (n::ps.map (·.2)) (v::qs.map (·.2)) from h.2).ay;cases m;rw[I0] at e⊢;cases i:k==g with
   | true=>rw[i] at e;cases e;exact#[v,rfl,j]
   | false=>rw[i] at e;exact aF.lookup #[f,l] e
theorem aF.nil{κ:Type}:aF (κ:=κ) K H [] []:=#[rfl,.nil]
theorem aF.cons{κ:Type}{k:κ}{d:D}{v:V}{ps:List (κ×D)}{qs:List (κ×V)}(r:ae K H d v)(h:aF K H ps qs):aF K H ((k,d)::ps) ((k,v)::qs):=#[by simp[h.1],.cons r h.2]
theorem aF.ay{κ:Type}{k:κ}{d:D}{ps:List (κ×D)}{qs:List (κ×V)}(h:aF K H ((k,d)::ps) qs):∃v r,qs=(k,v)::r/\ae K H d v/\aF K H ps r:=by
 cases qs with
 | nil=>have:=h.1;simp at this| cons q qs =>let#[l,v]:=q;have f:=h.1;simp only[C0,V9] at f;let#[rfl,f]:=f;let#[x,r,j,g,i]:=(show ag K H (d::ps.map (·.2)) (v::qs.map (·.2)) from h.2).ay;cases j;exact#[v,qs,rfl,g,f,i]
def aF.a_{κ:Type}{qs:List (κ×V)}(h:aF K H [] qs):qs=[]:=by
 cases qs with
 | nil=>rfl| cons _ _=>have:=h.1;simp at this
theorem aF.cX{f:Str}{d:D}{v:V}(r:ae K H d v):∀{ps:List (Str×D)} {qs:List (Str×V)},aF K H ps qs->aF K H (putD f d ps) (L2.cX f v qs)
 | [],qs,h=>by rw[h.a_];exact aF.cons r aF.nil| (g,l)::ps,qs,h=>by
  let#[u,i,rfl,k,j]:=h.ay;show aF K H (if g=f then(g,d)::ps else(g,l)::putD f d ps) (if g=f then(g,v)::i else(g,u)::L2.cX f v i);split
  .exact aF.cons r j
  .exact aF.cons k (aF.cX r j)
theorem aF.length{κ:Type}{ps:List (κ×D)}{qs:List (κ×V)}(h:aF K H ps qs):ps.length=qs.length:=by have:=h.2.length;simpa using this
def v35(O:∀H,ag K H M eP)(h:aJ K (qS C m S M u t) σ H Q):TN C m (cJ K S) eP XE (aJ K u) (eh K t) σ H Q:=by
 let#[i,G,q,j,c,t,f]:=h;apply#[i,G,_,j,c,t,λx G1 v H1 k c1 o g=>?_];split at g
 .rename_i a;split at g
  .rename_i C' fs e;let#[rfl,n,g]:=g;let#[X,r,U,I]:=c1 _ _ e;apply#[a,X,r,k.ar,U,I.lookup_none n,i,G1,_,j.le o,c1,g,λds G2 vs H2 L c2 l ⟨R,B,A⟩=>?_];exact#[_,G2,R,.cons (ae.le l k) (L.append (O H2)),c2,B,λd p v Z J Y N y=>f d p v Z J Y (o.trans (l.trans N)) (A d p y)]
  .exact g.elim
 .exact g.elim
def bY.Cc(c:bY K G H)(h:H x=none)(h':H f=none)(ne:f≠x):bY K (aH G x (.ins C [])) (upd (upd H f (.own x)) x (.ins C f []))/\Le H (upd (upd H f (.own x)) x (.ins C f [])):=by
 have c1:=c.side (u:=.own x) h';have g:upd H f (.own x) x=none:=by rw[c_ (D3 ne)];exact h
 exact#[c1.put (Le.fresh g) #[f,[],iq,aF.nil],(Le.fresh h').trans (Le.fresh g)]
def vt2(I:∀H,ag K H y eP)(h:aJ K (Fx C S y t) σ H Q):wt8 C (cJ K S) eP XE (eh K t) σ H Q:=by let#[g,G,q,r,c,t,f]:=h;apply#[g,G,_,r,c,t,λO Y M X u c1 B i x N m j ne=>?_];let#[R,p,i]:=i x (c1.fresh m);let#[c2,l]:=c1.Cc (C:=C) m j ne;apply#[_,_,R,.cons ae.fe ((ag.le l u).append (I _)),c2,p,λd L v U k J A o=>?_];let#[rfl,n]:=i d L o;exact#[by rw[ae] at k;exact k,f _ _ _ _ ae.fe J (B.trans (l.trans A)) n]
def wl2{C:Addr}{j:bC}{f:Str}(J:jN K C)(o:bI K C f)(h:aJ K (CV C j f) σ H Q):GN K (aJ K j) f σ H Q:=by
 let#[i,G,q,l,c,t,u]:=h;apply#[i,G,_,l,c,t,λx M v L n c1 p g=>?_];split at g
 .rename_i a;split at g
  .rename_i O N e;let#[rfl,g]:=g;let#[I,k,B,m]:=c1 _ _ e;split at g
   .rename_i d A;let#[w,y,r]:=m.lookup A;exact#[a,_,I,k,w,n.ar,B,J,o,y,u d M w L r c1 p g]
   .exact g.elim
  .exact g.elim
 .exact g.elim
def vs5{C:Addr}{u r:bC}{f:Str}(S:jN K C)(M:bI K C f)(h:dP K (RD C u r f) E σ H):GW K (aJ K u) (aJ K r) f E σ H:=by
 let#[i,G,d,l,c,t,O]:=h;apply#[i,G,_,l,c,t,λy U v Z L c1 n I=>#[i,U,_,l.le n,c1,I,λx G2 w Y J c2 m g=>?_]];split at g
 .rename_i a;split at g
  .rename_i q R e;let#[rfl,N,g]:=g;let#[p,k,B,A]:=c2 _ _ e;apply#[a,_,p,k,J.ar,B,S,M,by rw[<- A.length];exact N,?_];have j:=Le.ins (C':=q) (uT:=p) (ys:=L2.cX f v k) B;exact O.nx _ _ _ _ (l.le (n.trans (m.trans j))) (c2.put (o:=.ins q (putD f y R)) j #[p,_,iq,aF.le j (A.cX (ae.le m L))]) (n.trans (m.trans j)) g
  .exact g.elim
 .exact g.elim
def vu1{C:Addr}{B A:bC}{r:R3}{f:Str}(cl:jN K C)(na:bI K C f)(h:dP K (Ry C B A r f) E σ H):vc2 K (aJ K B) (aJ K A) (j3 K r) f E σ H:=by
 let#[i,G,d,m,c,t,fu]:=h;apply#[i,G,_,m,c,t,λx G1 v H1 Z c1 J g=>?_];split at g
 .rename_i a;split at g
  .rename_i C' fs e;let#[rfl,g]:=g;let#[dx,q,e2,U]:=c1 _ _ e;split at g
   .rename_i d0 el;let#[w,ew,jY]:=U.lookup el;apply#[a,_,dx,q,w,Z.ar,e2,cl,na,ew,i,G1,_,m.le J,c1,g,λy G2 u H2 Y c2 I S=>?_];apply#[d0,y,G2,_,ae.le I jY,Y,c2,S,λz G3 R H3 X M l3 j=>?_];split at j
    .rename_i N ft e';let#[rfl,hl,j]:=j;let#[l,p,L,k]:=M _ _ e';apply#[l,p,L,by rw[<- k.length];exact hl,?_];have n:=Le.ins (C':=N) (uT:=l) (ys:=L2.cX f R p) L;have O:=J.trans (I.trans (l3.trans n));exact fu.nx _ _ _ _ (m.le O) (M.put (o:=.ins N (putD f z ft)) n #[l,_,iq,aF.le n (k.cX X)]) O j
    .exact j.elim
   .exact g.elim
  .exact g.elim
 .exact g.elim
def xk3{te:bC}{Q:Bool->Hp->Prop}(h:d_ K (dB te) σ H Q):tB (aJ K te) σ H Q:=by
 let#[g,G,q,j,c,t,f]:=h;apply#[g,G,_,j,c,t,λx o v n l c1 m i=>?_];split at i
 .rename_i k;exact#[k,l.cb,f _ _ _ c1 m i]
 .exact i.elim
def vu2(h:aJ K (Rx m tb) σ H Q):wu7 (aJ K m) (aJ K tb) σ H Q:=by
 let#[i,G,q,l,c,t,f]:=h;apply#[i,G,_,l,c,t,λx o v p n c1 j g=>?_];split at g
 .rename_i k;apply#[k,n.cb,?_];cases k with
  | true=>rw[if_pos rfl] at g⊢;exact#[i,o,q,l.le j,c1,g,f.le j]| false=>rw[if_neg C9] at g⊢;exact f _ _ _ _ (by rw[ae]) c1 j g
 .exact g.elim
def wk7(h:aJ K (CS m tb) σ H Q):GG (aJ K m) (aJ K tb) σ H Q:=by
 let#[i,G,q,l,c,t,f]:=h;apply#[i,G,_,l,c,t,λx o v p n c1 j g=>?_];split at g
 .rename_i k;apply#[k,n.cb,?_];cases k with
  | false=>rw[if_neg C9] at g⊢;exact#[i,o,q,l.le j,c1,g,f.le j]| true=>rw[if_pos rfl] at g⊢;exact f _ _ _ _ (by rw[ae]) c1 j g
 .exact g.elim
def vs9(h:aJ K (RA j) σ H Q):wt5 (aJ K j) σ H Q:=by
 let#[g,G,q,l,c,t,f]:=h;apply#[g,G,_,l,c,t,λx p v o m c1 n i=>?_];split at i
 .rename_i k;exact#[k,m.cb,f _ _ _ _ (by rw[ae]) c1 n i]
 .exact i.elim
def zc(i:Nat)(te:bC)(r:R3):ic:=λE σ G=>match σ[i]? with
 | some (some x)=>te σ G λy g=>r x y g λz f=>E.nx (σ.set i (some z)) f| _=>False
def wl3(h:dP K (zc i te r) E σ H):GO i (aJ K te) (j3 K r) E σ H:=by
 let#[f,G,d,g,c,t,A]:=h;unfold zc at t;split at t
 .rename_i x e;let#[v,q,p]:=g.2 i x e;apply#[v,q,f,G,_,g,c,t,λy B u J o c1 j m=>?_];exact#[x,y,B,_,ae.le j p,o,c1,m,λz L C I n c2 k l=>A.nx _ _ _ _ ((g.le (j.trans k)).set i n) c2 (j.trans k) l]
 .exact t.elim
abbrev EV:=dR->Gp->(Option Int->Gp->Prop)->Prop
inductive qv(K:W.Frag)(t:EV)(σ:St)(H:Hp)(Q:Option Int->Hp->Prop):Prop
 | mk (f:dR) (G:Gp) (q:Option Int->Gp->Prop) (_:bJ K H f σ) (_:bY K G H) (_:t f G q) (_:∀o h g,bY K h g->Le H g->q o h->Q o g):qv K t σ H Q
def FX:EV:=λ_ G q=>q none G
def Dz(t:bC):EV:=λσ G q=>t σ G λx f=>match x with|.int i=>q (some i) f|_=>False
def v72{Q:Option Int->Hp->Prop}(h:qv K FX σ H Q):va9 σ H Q:=by let#[g,G,q,i,c,t,f]:=h;exact f _ _ _ c (Le.refl H) t
def vs8{t:bC}{Q:Option Int->Hp->Prop}(h:qv K (Dz t) σ H Q):wt4 (aJ K t) σ H Q:=by
 let#[g,G,q,l,c,t,f]:=h;apply#[g,G,_,l,c,t,λx o v n j c1 m i=>?_];split at i
 .rename_i k;rw[ae] at j;exact#[k,j,f _ _ _ c1 m i]
 .exact i.elim
abbrev PD:=D->Option Int->Option Int->Gp->DK->Prop
inductive rl(K:W.Frag)(r:PD)(x:V)(l u:Option Int)(H:Hp)(Q:VK):Prop
 | mk (d:D) (G:Gp) (q:DK) (_:ae K H d x) (_:bY K G H) (_:r d l u G q) (_:jM K H q Q):rl K r x l u H Q
def Km(r:PD)(te:bC)(f g:EV):bC:=λσ G q=>te σ G λx j=>f σ j λl i=>g σ i λu h=>r x l u h q
def x85(h:aJ K (Km r te m n) σ H Q):tSl (rl K r) (aJ K te) (qv K m) (qv K n) σ H Q:=by
 let#[g,G,q,i,c,t,f]:=h;exact#[g,G,_,i,c,t,λx L v O B c1 k A=>#[g,L,_,i.le k,c1,A,λo J N c2 j y=>#[g,J,_,i.le (k.trans j),c2,y,λu I M C l p =>
  #[x,I,q,ae.le (j.trans l) B,C,p,f.le (k.trans (j.trans l))]]]]
def PB(r:C3)(t:eW):bC:=λσ G q=>t σ G λf g=>r f g q
def w35(h:aJ K (PB r t) σ H Q):VZ (BX K r) (eh K t) σ H Q:=by let#[g,G,q,j,c,t,f]:=h;exact#[g,G,_,j,c,t,λm n o p k c1 l i=>#[m,n,q,k,c1,i,f.le l]]
abbrev M3:=D->List D->Gp->DK->Prop
inductive uB(K:W.Frag)(r:M3)(x:V)(xs:List V)(H:Hp)(Q:VK):Prop
 | mk (d:D) (ds:List D) (G:Gp) (q:DK) (_:ae K H d x) (_:ag K H ds xs) (_:bY K G H) (_:r d ds G q) (_:jM K H q Q):uB K r x xs H Q
def lE(G:Gp)(T:String):D->Prop
 | .str _=>T = "str"| .int _=>T = "int"| .ref a=>match G a with
  | some (.lst _)=>T = "list"| some (.sV _)=>T = "list"| some (.bM _)=>T = "dict"| _=>False
 | _=>False
def EM(T:String)(r:M3)(to:bC)(t:eW):bC:=λσ G q=>to σ G λx f=>lE f T x/\t σ f λg h=>r x g h q
def YV(T:String)(r:M3)(to:bC):bC:=λσ G q=>to σ G λx f=>lE f T x/\r x [] f q
def Uh(ty:∀G H x v,bY K G H->ae K H x v->lE G T x->Gz K T v H)(h:aJ K (EM T r to t) σ H Q):tBM K T (uB K r) (aJ K to) (eh K t) σ H Q:=by let#[g,G,q,i,c,t,f]:=h;exact#[g,G,_,i,c,t,λx m v A j c1 l ⟨y,o⟩=>#[ty m A x v c1 j y,g,m,_,i.le l,c1,o,λu B C I p c2 k n=>#[x,u,B,q,ae.le k j,p,c2,n,f.le (l.trans k)]]]
end
end L3
namespace L3
open PySem PySem.Spec PyProof.Rows L2
section
variable{X:Cx}
def dX(h:PE X e t)(w:∀f H Q,t' f H Q->t f H Q):PE X e t':=λpins s f H Q I q=>h pins s f H Q I (w _ _ _ q)
def Nj(h:PT X e t)(w:∀f H Q,t' f H Q->t f H Q):PT X e t':=λpins s f H Q I q=>h pins s f H Q I (w _ _ _ q)
def wr8(h:PW X e t)(w:∀f H Q,t' f H Q->t f H Q):PW X e t':=λg pins s f H Q I q=>h g pins s f H Q I (w _ _ _ q)
def ws3(h:PA X e t)(w:∀f H Q,t' f H Q->t f H Q):PA X e t':=λpos pins s f H Q I q=>h pos pins s f H Q I (w _ _ _ q)
def pN(h:PS X e t)(w:∀D f H,t' D f H->t D f H):PS X e t':=λpins s f H D I q=>h pins s f H D I (w _ _ _ q)
def vx3(h:pJ X e t)(w:∀D f H,t' D f H->t D f H):pJ X e t':=λpins s f H D I q=>h pins s f H D I (w _ _ _ q)
def TR(h:PG X e t)(w:∀v f H Q,t' v f H Q->t v f H Q):PG X e t':=λpins s f H v u Q I r q=>h pins s f H v u Q I r (w _ _ _ _ q)
def vx4(h:Ah X e t)(w:∀v f H Q,t' v f H Q->t v f H Q):Ah X e t':=λpins s f H v u Q I r q=>h pins s f H v u Q I r (w _ _ _ _ q)
def w63(h:tq X t)(w:∀o i v H Q,t' o i v H Q->t o i v H Q):tq X t':=λpins s f H o i v l m u Q I k j g q=>h pins s f H o i v l m u Q I k j g (w _ _ _ _ _ q)
def DH(h:PI X tg e t)(w:∀f H R,t' f H R->t f H R):PI X tg e t':=λpins s f H R I q=>h pins s f H R I (w _ _ _ q)
def tH(h:dg X f r)(w:∀x y H Q,r' x y H Q->r x y H Q):dg X f r':=λpins s g H x y v u Q I a b q=>h pins s g H x y v u Q I a b (w _ _ _ _ q)
def vx2(h:zg X f r)(w:∀x H Q,r' x H Q->r x H Q):zg X f r':=λpins s g H x v Q I a q=>h pins s g H x v Q I a (w _ _ _ q)
def pP(h:bK X f r)(w:∀x H Q,r' x H Q->r x H Q):bK X f r':=λpins s g H x v Q I a q=>h pins s g H x v Q I a (w _ _ _ q)
def Ux{id:String}{r r':V->List V->Hp->VK->Prop}(h:Aj X id r)(w:∀x xs H Q,r' x xs H Q->r x xs H Q):Aj X id r':=λpins s f H x xs v g Q I a b q=>h pins s f H x xs v g Q I a b (w _ _ _ _ q)
def ws1(h:tw X r)(w:∀x y H Q,r' x y H Q->r x y H Q):tw X r':=λg i pins s f H x y v u Q I a b q=>h g i pins s f H x y v u Q I a b (w _ _ _ _ q)
def wr9(h:ve X r)(w:∀x l u H Q,r' x l u H Q->r x l u H Q):ve X r':=by
 intro pins s f H x lo hi
 intros
 apply h <;> first|assumption|(apply w;assumption)
def ws0(h:PO X e t)(w:∀f H Q,t' f H Q->t f H Q):PO X e t':=by intro pins s f H Q I q;exact h pins s f H Q I (w _ _ _ q)
def w64(h:mn X e t)(w:∀f H Q,t' f H Q->t f H Q):mn X e t':=λpins s f H Q I q=>h pins s f H Q I (w _ _ _ q)
end
def E3(X:Cx)(e:Expr)(t:bC):Prop:=PE X e (aJ X.K t)
def T3(X:Cx)(e:Expr)(t:ja):Prop:=PT X e (d_ X.K t)
def W3(X:Cx)(e:Expr)(t:ja):Prop:=PW X e (d_ X.K t)
def A3(X:Cx)(f:List Expr)(t:eW):Prop:=PA X f (eh X.K t)
def S3(X:Cx)(st:Stmt)(t:ic):Prop:=PS X st (dP X.K t)
def xD(X:Cx)(f:List Stmt)(t:ic):Prop:=pJ X f (dP X.K t)
def J3(X:Cx)(e:Expr)(t:pH):Prop:=PG X e (lowG X.K t)
def PF(X:Cx)(f:List Expr)(t:qL):Prop:=Ah X f (nj X.K t)
def I3(X:Cx)(tg e:Expr)(t:tX):Prop:=PI X tg e (ni X.K t)
def O3(X:Cx)(e:Option Expr)(t:EV):Prop:=PO X e (qv X.K t)
def zk(X:Cx)(f:List Expr)(t:ja):Prop:=mn X f (d_ X.K t)
abbrev fT(X:Cx)(f:Value->Value->Sem Value)(r:R3):Prop:=dg X f (j3 X.K r)
abbrev Call3(X:Cx)(f:Value)(r:C3):Prop:=bK X f (BX X.K r)
section
variable{X:Cx}{a b c e o:Expr}{es:List Expr}{pos apos aO p p2:Pos}{ta tb tc te:bC}{t u:ja}{ts us:eW}
def ev(i:Nat)(j:X.N[i]?=some x:=by rfl)(g:Kw X.env.scope x:=by first|exact AW rfl|exact xF (AW rfl)|exact xF (xF rfl))(h:(x==("__debug__" :Str))=false:=by decide)
  (f:(x==("__classdict__" :Str))=false:=by decide):E3 X (.Name x pos) (dD i):=dX (w24 j g h f) λ_ _ _=>wk2
def ao{i j pos}:E3 X (.Constant (.int i) j pos) (dC (.int i)):=dX wx8 λ_ _ _=>FG λ_=>by rw[ae]
def dq{i j pos}:E3 X (.Constant (.bool i) j pos) (dC (.bl i)):=dX xj5 λ_ _ _=>FG λ_=>by rw[ae]
def aV{x j pos}:E3 X (.Constant (.str x) j pos) (dC (.str x)):=dX wx4 λ_ _ _=>FG λ_=>by rw[ae]
def xb6(g:Gl X x)(f:X.mg x=some w)(r:RelV v w)(rd:∀H,ae X.K H d v)(h:(x==("__debug__" :Str))=false:=by decide):E3 X (.Name x pos) (dC d):=dX (wi1 g f r h) λ_ _ _=>FG rd
def aQ(f:fT X (N0 op) r)(h:E3 X a ta)(g:E3 X b tb):E3 X (.BinOp a op b pos) (CT r ta tb):=dX (xj3 f h g) λ_ _ _=>Nt
def sW(f:zg X (EX op) (uA X.K r))(g:E3 X a ta):E3 X (.UnaryOp op a pos) (Pz r ta):=dX (xj1 f g) λ_ _ _=>x84
def wW(f:fT X (L6 op) r)(i:E3 X a ta)(h:E3 X b tb)(g:Fh op b=false):E3 X (.Compare a [op] [b] pos) (CT r ta tb):=dX (wi4 f i h g) λ_ _ _=>Nt
def bE(n:fT X (L6 op) r)(B:E3 X a ta)(A:E3 X b tb)(y:Fh op b=false):T3 X (.Compare a [op] [b] pos) (dB (CT r ta tb)):=
 Nj (wg4 n B A y) λC H Q h=>by
  let#[g,G,q,j,c,t,f]:=h;exact Nt (K:=X.K) #[g,G,_,j,c,t,λx I v E l c1 m i=>by
   split at i
   .rename_i k;exact#[k,l.cb,f _ _ _ c1 m i]
   .exact i.elim]
def mS(h:E3 X e te)(g:∀f,isTrue e X.env f=(do let v <- f;xG e.pos;holding [v] (truthy v)):=by intro _;rfl):T3 X e (dB te):=Nj (ww0 h g) λ_ _ _=>xk3
def wY(f:T3 X a t):W3 X (.BoolOp .And [a] pos) t:=wg3 f
def DG(f:T3 X a t):W3 X (.BoolOp .Or [a] pos) t:=wv8 f
def w_and{rest:List Expr}(g:T3 X a t)(f:W3 X (.BoolOp .And (b::rest) pos) u):W3 X (.BoolOp .And (a::b::rest) pos) (CW t u):=wr8 (wv9 g f) λ_ _ _=>vu3
def w_or{rest:List Expr}(g:T3 X a t)(f:W3 X (.BoolOp .Or (b::rest) pos) u):W3 X (.BoolOp .Or (a::b::rest) pos) (YT t u):=wr8 (xi7 g f) λ_ _ _=>wk8
def pB(h:W3 X e t):T3 X e t:=PW.pt h
def FI(f:T3 X a t):T3 X (.UnaryOp .Not a pos) (CU t):=Nj (ww1 f) λ_ _ _=>vt0
def FD{op}(h:E3 X a ta):E3 X (.BoolOp op [a] pos) ta:=wx5 h
def Nd{rest:List Expr}(g:E3 X a ta)(f:E3 X (.BoolOp .And (b::rest) pos) tb):E3 X (.BoolOp .And (a::b::rest) pos) (Rx ta tb):=dX (wy0 g f) λ_ _ _=>vu2
def YQ{rest:List Expr}(g:E3 X a ta)(f:E3 X (.BoolOp .Or (b::rest) pos) tb):E3 X (.BoolOp .Or (a::b::rest) pos) (CS ta tb):=dX (xj2 g f) λ_ _ _=>wk7
def Nf(f:E3 X a ta):E3 X (.UnaryOp .Not a pos) (RA ta):=dX (wx6 f) λ_ _ _=>vs9
def qH(f:T3 X c t)(h:E3 X a ta)(g:E3 X b tb):E3 X (.IfExp c a b pos) (YU t ta tb):=dX (vq8 f h g) λ_ _ _=>x87
def mO:A3 X [] eQ:=ws3 w26 λ_ _ _=>vg2
def w50(h:E3 X e te)(g:A3 X es ts)(f:D1 (e::es) X.env=(false,eval e X.env)::D1 es X.env:=by rfl):A3 X (e::es) (mQ te ts):=ws3 (vd6 h g f) λ_ _ _=>vt8
def bp{f}(h:A3 X es ts):E3 X (.Tuple es f pos) (sY ts):=dX (wx3 h) λ_ _ _=>wk4
def dS(h:A3 X es ts):E3 X (.List es pos) (zb ts):=dX (wx7 h) λ_ _ _=>wk9
def aj(g:tw X (j3 X.K r))(i:E3 X a ta)(h:E3 X b tb)(f:vn2 b:=by exact λ_ _=>rfl):E3 X (.Subscript a b pos) (CT r ta tb):=dX (xj4 g i h f) λ_ _ _=>Nt
def Up:O3 X none FX:=ws0 wh3 λ_ _ _=>v72
def DT(h:E3 X e te):O3 X (some e) (Dz te):=ws0 (wh2 h) λ_ _ _=>vs8
def za{r:PD}{lo hi:Option Expr}{f g:EV}(i:ve X (rl X.K r))(k:E3 X e te)(j:O3 X lo f)(h:O3 X hi g):E3 X (.Subscript e (.Slice lo hi none p2) pos) (Km r te f g):=dX (vq6 i k j h) λ_ _ _=>x85
end
section
variable{X:Cx}{a b c e o value:Expr}{es:List Expr}{st:Stmt}{Eh GQ:List Stmt}{pos pos' sI pQ:Pos}{te ta tv:bC}{t:ja}{s1 s2:ic}{g:pH}
def cw:xD X [] Rz:=vx3 wg7 λ_ _ _=>vt1
def az(h1:S3 X st s1)(f:xD X Eh s2):xD X (st::Eh) (fz s1 s2):=vx3 (vp6 h1 f) λ_ _ _=>wk5
def aC(h1:S3 X st s1):xD X [st] s1:=wg6 h1
def dU(h:E3 X e te)(f:Y8 e none pos.line X.env=pure false:=by rfl):S3 X (.Expr e pos) (Bm te):=pN (wh0 h f) λ_ _ _=>vt7
def aY(f:E3 X e te):S3 X (.Return (some e) pos) (j9 te):=pN (ww4 f) λ_ _ _=>wk6
def wv4:S3 X (.Return none pos) RC:=pN wg9 λ_ _ _=>vs6
def aK(f:T3 X c t)(i:xD X Eh s1)(h:xD X GQ s2):S3 X (.If c Eh GQ pos) (uV t s1 s2):=pN (xi8 f i h) λ_ _ _=>wl0
def xc4:ic:=λ_ _ _=>False
def UU:S3 X st xc4:=pN vp8 λ_ _ _ h=>by let#[_,_,_,_,_,h,_]:=h;exact h.elim
def cL(i:Nat)(j:X.N.Nodup)(hi:X.N[i]?=some x:=by rfl)(f:Loc X.env.scope x:=by first|exact AW rfl|exact xF rfl)(h:X.fn x=true\/X.env.scope.names.lookup x=some .local:=by first|exact .inl rfl|exact .inr rfl|assumption):J3 X (.Name x pos) (tF i):=TR (wh7 j hi f h) λ_ _ _ _=>vg3
def xZ:PF X [] yI:=vx4 wh6 λ_ _ _ _=>vt4
def jW{t:pH}{u:qL}(h1:J3 X e t)(h:PF X es u)(f:(T7 (e::es) X.env).map (·.2)=assign e X.env::(T7 es X.env).map (·.2):=by rfl):PF X (e::es) (FF t u):=vx4 (vq5 h1 h f) λ_ _ _ _=>vg4
def zy{i:Expr}{to j:bC}{t:rK}(l:E3 X o to)(hi:E3 X i j)(k:tq X (lZ X.K t))
  (m:∀v,assign (.Subscript o i pos) X.env v=(do
   let f <- holding [v] (eval o X.env);let h <- holding [v,f] (eval i X.env)
   xG pos
   holding [v,f,h] (PQ f h v)
   release [v,f,h] []):=by intro _;rfl):J3 X (.Subscript o i pos) (Ca to j t):=TR (wx2 l hi k m) λ_ _ _ _=>vt3
def tG(i:E3 X e te)(h:J3 X tg g)(f:swapsWithSole [tg] e pos.line X.env=pure false:=by rfl)(hw:swappedStores [tg] e X.env=pure none:=by rfl)
  (h1:(T7 [tg] X.env).map (·.2)=[assign tg X.env]:=by rfl):S3 X (.Assign [tg] e pos) (hJ te g):=pN (ww8 i h f hw h1) λ_ _ _=>wl4
def aR(i:Nat)(A:X.N.Nodup)(y:E3 X e te)(hi:X.N[i]?=some x:=by rfl)(p:Loc X.env.scope x:=by first|exact AW rfl|exact xF rfl)(r:Y8 e (some (.Name x pos')) pos.line X.env=pure false:=by rfl)
  (u:X.fn x=true\/X.env.scope.names.lookup x=some .local:=by first|exact .inl rfl|exact .inr rfl|assumption):S3 X (.Assign [.Name x pos'] e pos) (hJ te (tF i)):=
 pN (ww3 A hi p y r u) λD B H h=>by let#[j,G,q,k,c,t,f]:=h;exact#[j,G,_,k,c,t,λx E v C n c1 l m=>f.nx _ _ _ _ ((k.le l).set i n) c1 l m]
def FH(i:Nat)(l:X.N.Nodup)(k:E3 X e te)(h:fT X (zr op) r)(hi:X.N[i]?=some x:=by rfl)(f:Loc X.env.scope x:=by first|exact AW rfl|exact xF rfl)
  (j:X.fn x=true\/X.env.scope.names.lookup x=some .local:=by first|exact .inl rfl|exact .inr rfl|assumption):S3 X (.AugAssign (.Name x pos') op e pos) (zc i te r):=pN (ww7 l hi f k h j) λ_ _ _=>wl3
def Gh(h:T3 X c t)(i:xD X body s1)(f:Qk (model X.prog X.w) X.A X.env X.xe:=by exact C28):S3 X (.While c body [] pos) (Ub t s1):=pN (vp7 f h i) λ_ _ _=>vf8
def lC(hi:I3 X tg iter f)(j:J3 X tg g)(l:xD X body s1)(k:X.calm=true:=by rfl)(i:Qk (model X.prog X.w) X.A X.env X.xe:=by exact C28)
  (h:∀x,X4 iter X.env x=pure x:=by intro _;rfl):S3 X (.For tg iter body [] pos) (sZ f g s1):=pN (ww5 i k hi j l h) λ_ _ _=>wl1
def fV(k:jN X.K C)(h:bI X.K C f)(i:E3 X e te)(j:O2 e f X.env (eval e X.env)=eval e X.env:=by rfl):E3 X (.Attribute e f pos) (CV C te f):=dX (wx9 i j) λ_ _ _=>wl2 k h
def xU(l:jN X.K C)(h:bI X.K C f)(k:E3 X o ta)(i:E3 X value tv)(j:Y8 value (some (.Attribute o f pos')) pos.line X.env=pure false:=by rfl):S3 X (.Assign [.Attribute o f pos'] value pos) (RD C ta tv f):=pN (ww6 k i j) λ_ _ _=>vs5 l h
def FV(l:jN X.K C)(h:bI X.K C f)(k:E3 X o ta)(i:E3 X value tv)(j:fT X (zr op) r):S3 X (.AugAssign (.Attribute o f pQ) op value pos) (Ry C ta tv r f):=pN (vc8 k i j) λ_ _ _=>vu1 l h
end
def vg0{K:W.Frag}{i:L2.St}{H:Hp}{l:eW}{R:It->Hp->Prop}(h:ni K (λi G r=>l i G λds G1=>match ds with|[.int j]=>(-(2^62)<=j/\j<2^62)/\r #[b_ 0 j.toNat,λ_=>True] G1|_=>False) i H R):xa5 (eh K l) i H R:=by
 let#[k,G,q,n,c,t,f]:=h;apply#[k,G,_,n,c,t,λds G1 y A p c1 u g=>?_];split at g
 .rename_i j;let#[x,r,rfl,m,o]:=p.ay;rw[ae] at m;subst m;rw[o.a_];exact#[j,rfl,g.1.1,g.1.2,f _ _ _ _ uj8 c1 u g.2]
 .exact g.elim
def vf9{K:W.Frag}{g:L2.St}{H:Hp}{m:eW}{R:It->Hp->Prop}(h:ni K (λg G r=>m g G λds G1=>match ds with|[.int i,.int j]=>(-(2^62)<=i/\i<2^62/\-(2^62)<=j/\j<2^62)/\r #[b_ i (j-i).toNat,λ_=>True] G1|_=>False) g H R):xa4 (eh K m) g H R:=by
 let#[l,G,q,u,c,t,f]:=h;apply#[l,G,_,u,c,t,λds G1 E J B c1 C k=>?_];split at k
 .rename_i i j;let#[x,r,rfl,o,A]:=B.ay;let#[y,I,rfl,n,p]:=A.ay;rw[ae] at o n;subst o n;rw[p.a_];exact#[i,j,rfl,k.1,f _ _ _ _ uj8 c1 C k.2]
 .exact k.elim
def ws6(g:eW):tX:=λf G r=>g f G λh i=>match h with|[.int j]=>(-(2^62)<=j/\j<2^62)/\r #[b_ 0 j.toNat,λ_=>True] i|_=>False
def ws5(g:eW):tX:=λf G r=>g f G λh k=>match h with|[.int i,.int j]=>(-(2^62)<=i/\i<2^62/\-(2^62)<=j/\j<2^62)/\r #[b_ i (j-i).toNat,λ_=>True] k|_=>False
section
variable{X:Cx}{a b e o tg:Expr}{es:List Expr}{p pos apos aO:Pos}{ta:bC}{ts:eW}
def xY(h:Gl X "range")(g:X.mg "range" = none)(i:A3 X [a] ts)(f:D1 [a] X.env=[(false,eval a X.env)]:=by rfl):I3 X tg (.Call (.Name "range" p) [a] [] pos) (ws6 ts):=DH (vd4 h g i f) λ_ _ _=>vg0
def w39(h:Gl X "range")(g:X.mg "range" = none)(i:A3 X [a,b] ts)(f:D1 [a,b] X.env=[(false,eval a X.env),(false,eval b X.env)]:=by rfl)(j:D1 [b] X.env=[(false,eval b X.env)]:=by rfl):
  I3 X tg (.Call (.Name "range" p) [a,b] [] pos) (ws5 ts):=DH (vd3 h g i f j) λ_ _ _=>vf9
variable{k:Nat}{f C:Addr}{fd:xI}{ps:List Str}{S:gi}{lb:List D}{eP:List V}{ds:List Value}{x m:Str}
def xb8(F:bD X.prog X.w X.K X.mg X.base pK k f fd ps (cJ X.K S))(h:aU k X.A)(l:Gl X x)(i:X.mg x=some (.ref f))(j:W.keepIn X.K (.ref f)=true)(r:Binds X.K fd ps ds)(q:Vals eP ds)(y:∀H,ag X.K H lb eP) (t:A3 X (e::es) ts) (g:(x==("__debug__" :Str))=false:=by decide) (n:D1 (e::es) X.env=(false,eval e X.env)::D1 es X.env:=by rfl) (u:(backTo pos (D1 es X.env)).any (·.1)=false:=by rfl):
  E3 X (.Call (.Name x p) (e::es) [] pos) (iT S lb ts):=dX (wi5 F h l i j r q qZ t g n u) λ_ _ _=>vt9 y
def xb4(l:E3 X o ta)(c:jN X.K C)(j:Meth X.K C m f)(F:bD X.prog X.w X.K X.mg X.base pK k f fd ps (cJ X.K S))(i:aU k X.A)(q:Binds X.K fd ps ds)(n:Vals eP ds)(y:∀H,ag X.K H lb eP)(r:A3 X (e::es) ts) (u:D1 (e::es) X.env=(false,eval e X.env)::D1 es X.env:=by rfl) (t:(backTo pos (D1 es X.env)).any (·.1)=false:=by rfl)
  (h:eval (.Call (.Attribute o m apos) (e::es) [] pos) X.env=(do
   let g <- eval o X.env
   xG apos.atName
   let (f,first) <- holding [g] (A_ g m pl)
   EY pos f first (backTo pos (D1 (e::es) X.env)) (X5 pos (P4 [] X.env))):=by rfl):E3 X (.Call (.Attribute o m apos) (e::es) [] pos) (qS C m S lb ta ts):=
 dX (wh9 l c j F i q n qZ r u t h) λ_ _ _=>v35 y
def wm9(I:E3 X o ta)(c:jN X.K C)(E:Meth X.K C m f)(F:bD X.prog X.w X.K X.mg X.base pK k f fd ps (cJ X.K S))(B:aU k X.A)(L:Binds X.K fd ps ds)(J:Vals eP ds)(CJ:∀H,ag X.K H lb eP)
  (y:eval (.Call (.Attribute o m apos) [] [] pos) X.env=(do
   let i <- eval o X.env
   xG apos.atName
   let (f,first) <- holding [i] (A_ i m pl)
   EY pos f first (backTo pos (D1 [] X.env)) (X5 pos (P4 [] X.env))):=by rfl):E3 X (.Call (.Attribute o m apos) [] [] pos) (qS C m S lb ta eQ):=
 dX (vq7 I c E F B L J qZ y) λσ H Q h=>by let#[g,G,q,l,Z,t,N]:=v35 (XE:=E0) CJ h;apply#[g,G,q,l,Z,t,λd G1 v H1 n c1 u j=>?_];let#[a,Y,M,U,R,O,r]:=N d G1 v H1 n c1 u j;exact#[a,Y,M,U,R,O,vg2 r]
def w44(M:Mk X.K C f)(F:bD X.prog X.w X.K X.mg X.base pK k f fd ps (cJ X.K S))(h:aU (k+1) X.A)(j:Gl X x)(i:X.mg x=some (.ref C))(q:Binds X.K fd ps ds)(n:Vals eP ds)(u:∀H,ag X.K H lb eP) (r:A3 X (e::es) ts) (g:(x==("__debug__" :Str))=false:=by decide) (l:D1 (e::es) X.env=(false,eval e X.env)::D1 es X.env:=by rfl) (t:(backTo pos (D1 es X.env)).any (·.1)=false:=by rfl):
  E3 X (.Call (.Name x p) (e::es) [] pos) (Fx C S lb ts):=dX (wi0 M F h j i q n qZ r g l t) λ_ _ _=>vt2 u
variable{id T:String}{r:C3}{rm:M3}{name:Str}
def dz(q:Call3 X (.builtin id) r)(l:Gl X x)(j:X.mg x=none)(h:R5 x=some (.builtin id))(t:A3 X (e::es) ts)(i:x ≠ "__name__" := by decide)(g:(x==("__debug__" :Str))=false:=by decide)
  (n:D1 (e::es) X.env=(false,eval e X.env)::D1 es X.env:=by rfl) (u:(backTo pos (D1 es X.env)).any (·.1)=false:=by rfl):E3 X (.Call (.Name x p) (e::es) [] pos) (PB r ts):=
 dX (vr5 q l j h t i g n u) λ_ _ _=>w35
def qU(q:Call3 X (.type T) r)(l:Gl X x)(j:X.mg x=none)(h:R5 x=some (.type T))(t:A3 X (e::es) ts)(i:x ≠ "__name__" := by decide)(g:(x==("__debug__" :Str))=false:=by decide)
  (n:D1 (e::es) X.env=(false,eval e X.env)::D1 es X.env:=by rfl) (u:(backTo pos (D1 es X.env)).any (·.1)=false:=by rfl):E3 X (.Call (.Name x p) (e::es) [] pos) (PB r ts):=
 dX (uu0 q l j h t i g n u) λ_ _ _=>w35
end
def DQ(ix:List (Option Nat))(f:dR):dR:=ix.map λo=>o.bind λj=>(f[j]?).bind id
def xR(ok:Gp->Prop)(g:pH)(tc:ja)(te:bC)(p:Addr)(q:DK):List D->dR->Gp->Prop
 | [],_,G=>ok G/\q (.ref p) G| x::r,k,G=>ok G/\g x k G λf l=>tc f l λb j =>
  if b=true then te f j λd i=>(match i p with|some (.lst h)=>h.length<sizeLine/\xR ok g tc te p q r f (aH i p (.lst (h++[d])))|_=>False)
  else xR ok g tc te p q r f j
def Nb(ix:List (Option Nat))(i:tX)(g:pH)(tc:ja)(te:bC):bC:=λf G q=>i f G λit h=>∀p,h p=none->xR it.ok g tc te p q it.items (DQ ix f) (aH h p (.lst []))
def bJ.inn{K:W.Frag}{H:Hp}{f:dR}{g:L2.St}(h:bJ K H f g)(ix:List (Option Nat)):bJ K H (DQ ix f) (L2.inner ix g):=by
 apply#[by unfold DQ L2.inner;rw[B0,B0],λi d e=>?_];unfold DQ at e;unfold L2.inner;rw[F7] at e⊢;cases l:ix[i]? with
 | none=>rw[l] at e;cases e
 | some o =>
  rw[l] at e;cases o with
  | none=>cases e
  | some j =>
   have e:(f[j]?).bind id=some d:=E1 e;have e:f[j]?=some (some d):=by
    cases k:f[j]? with
    | none=>rw[k] at e;cases e
    | some w=>rw[k] at e;cases e;rfl
   let#[v,m,r]:=h.2 j d e;exact#[v,by show some ((g[j]?).bind id)=_;rw[m];rfl,r]
def v36{K:W.Frag}{ix:List (Option Nat)}{Z:tX}{g:pH}{tc:ja}{te:bC}{Y:L2.St}{H:Hp}{Q:VK}(h:aJ K (Nb ix Z g tc te) Y H Q):TK ix (ni K Z) (lowG K g) (d_ K tc) (aJ K te) Y H Q:=by
 let#[B,G,q,rs,cc,t,f]:=h;apply#[B,G,_,rs,cc,t,λit J G1 u ir c1 l1 R=>?_];intro p X;have R:=R p (c1.fresh X);have c2:bY K (aH G1 p (.lst [])) (upd u p (.lst [])):=c1.cP X .nil;have l2:Le u (upd u p (.lst [])):=Le.fresh X;apply#[λi m l n=>∃j r,Le (upd u p (.lst [])) n/\bJ K n j l/\bY K r n/\i+m=it.items.length/\xR it.ok g tc te p q (it.items.drop i) j r,
  #[it.items.length,DQ ix B,_,Le.refl _,(rs.le (l1.trans l2)).inn ix,c2,(),by rw[Z_];exact R],?_]
 rintro i m σ2 M ⟨A,N,U,OA,c2,e2,o⟩;have L:Le u M:=l2.trans U;by_cases hi:i<it.items.length
 .rw[N7 hi] at o;let#[IV,o]:=o;apply .inr #[ir.go i N M L c2 IV hi,λl n=>∃j r,Le (upd u p (.lst [])) n/\bJ K n j l/\bY K r n/\xR it.ok g tc te p q (it.items.drop (i+1)) j r,?_,?_]
  .rintro l n ⟨j,r,a1,a2,a3,a4⟩;exact#[m-1,(),j,r,a1,a2,a3,(),a4]
  .intro x H3 y;let#[c3,S,e,he,r3]:=ir.qO i N M x H3 L c2 IV hi y;rw[B6 hi] at he;cases he;apply#[_,A,N,_,r3,OA.le S,c3,o,λk G4 σ4 H4 O c4 l5 t4=>?_];apply#[k,G4,_,O,c4,t4,λb G5 H5 c5 C I=>?_];cases b with
   | false =>rw[if_neg C9] at I⊢;exact#[k,G5,U.trans (S.trans (l5.trans C)),O.le C,c5,I]| true =>
    rw[if_pos rfl] at I⊢;apply#[k,G5,_,O.le C,c5,I,λd G6 v H6 r6 c6 l7 E=>?_];split at E
    .rename_i ys eg;let#[xs,ex,rx]:=c6 p _ eg;have l8:=Le.lst (ys:=xs++[v]) ex;exact#[xs,ex,by rw[<- rx.length];exact E.1,k,_,U.trans (S.trans (l5.trans (C.trans (l7.trans l8)))),O.le (C.trans (l7.trans l8)),c6.lY ex (rx.append (.cons r6 .nil)),E.2]
    .exact E.elim
 .rw[B40 ()] at o;exact .inl #[ir.stop i N M L c2 o.1 (),f _ _ _ _ ae.fe c2 (l1.trans L) o.2]
def Kl:ja:=λ_ G q=>q true G
section
variable{X:Cx}{elt tg iter:Expr}{ifs:List Expr}{scope:Scope}{pos:Pos}{N':List Str}{ix:List (Option Nat)}{wi:tX}{g:pH}{tc:ja}{te:bC}
def mV:zk X [] Kl:=w64 vq2 λj H Q h=>by let#[i,G,q,k,c,t,f]:=h;exact f _ _ _ c (Le.refl H) t
def UO(h:T3 X c tc):zk X [c] tc:=vq1 h
def pq(B:jO X N' ix scope)(hw:I3 X tg iter wi)(i:∀C s H f,J3 (mU X N' scope C s H f) tg g)(hi:∀C s H f,zk (mU X N' scope C s H f) ifs tc)(j:∀C s H f,E3 (mU X N' scope C s H f) elt te) (k:X.calm=true:=by rfl) (h:∀x,X4 iter X.env x=pure x:=by intro _;rfl):E3 X (.ListComp elt [#[tg,iter,ifs,0]] scope pos) (Nb ix wi g tc te):=dX (wi3 (g:=lowG X.K g) (tc:=d_ X.K tc) (te:=aJ X.K te) B k hw i hi j h) λ_ _ _=>v36
def Ny(i:Nat){y:Str}{n l:Pos}(M:X.N.Nodup)(B:jO X N' ix scope)(hw:I3 X tg iter wi)(E:∀C s H j,J3 (mU X N' scope C s H j) tg g)(hi:∀C s H j,zk (mU X N' scope C s H j) ifs tc)(J:∀C s H j,E3 (mU X N' scope C s H j) elt te) (r:X.N[i]?=some y:=by rfl) (A:Loc X.env.scope y:=by first|exact AW rfl|exact xF rfl)
  (L:X.calm=true:=by rfl) (O:Y8 (.ListComp elt [#[tg,iter,ifs,0]] scope pos) (some (.Name y n)) l.line X.env=pure true:=by rfl)
  (I:X.fn y=true\/X.env.scope.names.lookup y=some .local:=by first|exact .inl rfl|exact .inr rfl|assumption)
  (u:∀x,X4 iter X.env x=pure x:=by intro _;rfl):S3 X (.Assign [.Name y n] (.ListComp elt [#[tg,iter,ifs,0]] scope pos) l) (hJ (Nb ix wi g tc te) (tF i)):=
 pN (wg8 (g:=lowG X.K g) (tc:=d_ X.K tc) (te:=aJ X.K te) B L M r A hw E hi J O I u) λD Q H h=>by let#[k,G,d,m,c,t,f]:=h;exact v36 (K:=X.K) #[k,G,_,m,c,t,λx S v R q c1 o p=>f.nx _ _ _ _ ((m.le o).set i q) c1 o p]
end
def mN:R3:=λx y G q=>match x,y with
 | .int i,.int j=>q (.int (i+j)) G| .str a,.str b=>a.length+b.length<=sizeLine/\q (.str (a++b)) G| .tup a,.tup b=>a≠[]/\a.length+b.length<=sizeLine/\q (.tup (a++b)) G| .ref a,.ref b=>(match G a,G b with
  | some (.lst xs),some (.lst f)=>xs.length+f.length<=sizeLine/\∀p,G p=none->q (.ref p) (aH G p (.lst (xs++f)))| _,_=>False)
 | _,_=>False
def mM(f:Int->Int->Int):R3:=λx y G q=>match x,y with|.int i,.int j=>q (.int (f i j)) G|_,_=>False
def zA(C:Int->Int->Prop)(f:Int->Int->Int):R3:=λx y G q=>match x,y with|.int i,.int j=>C i j/\q (.int (f i j)) G|_,_=>False
def Bd:R3:=mM λi j=>i-j
def xN:R3:=λx y G q=>match x,y with
 | .int i,.int j=>jb i j/\q (.int (i*j)) G| .ref a,.int k=>(match G a with
  | some (.lst xs)=>(-(2^63)<=k/\k<2^63/\xs.length*k.toNat<=sizeLine)/\∀p,G p=none->q (.ref p) (aH G p (.lst (D2 k.toNat xs).flatten))| _=>False)
 | _,_=>False
def MX(_ j:Int):Prop:=0<j/\j<18446744073709551616
def Fv:R3:=zA MX λi j=>i / j
def Ft:R3:=zA (λ_ j=>0<j) λi j=>i%j
def Fs:R3:=zA kj λi j=>i^j.toNat
def Fq:R3:=zA kj λi j=>i*2^j.toNat
def Fp:R3:=zA (λ_ j=>0<=j) λi j=>i / 2^j.toNat
def Fw:R3:=mM P6
def xOr:R3:=mM ML
def Fo:R3:=mM MM
def Rp:R3:=λx y G q=>match x,y with|.int i,.int j=>q (.bl (decide (i<j))) G|.str a,.str b=>q (.bl (decide (a.cps.toList<b.cps.toList))) G|_,_=>False
def xLe:R3:=λx y G q=>match x,y with|.int i,.int j=>q (.bl (decide (i<=j))) G|_,_=>False
def xGt:R3:=λx y G q=>match x,y with|.int i,.int j=>q (.bl (decide (j<i))) G|_,_=>False
def xGe:R3:=λx y G q=>match x,y with|.int i,.int j=>q (.bl (decide (j<=i))) G|_,_=>False
section
variable{X:Cx}{K:W.Frag}{H:Hp}
def ae.int_inv(h:ae K H (.int i) v):v=.int i:=by rw[ae] at h;exact h
def ae.str_inv(h:ae K H (.str i) v):v=.str i:=by rw[ae] at h;exact h
def ae.d9(h:ae K H .non v):v=.non:=by rw[ae] at h;exact h
def ae.aS(h:ae K H (.tup ds) v):∃a xs,v=.ref a/\eF K H a xs/\ag K H ds xs:=by rw[ae] at h;exact h
def ae.de:ae K H (.int i) (.int i):=by rw[ae]
def ae.BE:ae K H (.str i) (.str i):=by rw[ae]
def ae.mI:ae K H (.bl i) (.bl i):=by rw[ae]
def ae.yD:ae K H .non .non:=by rw[ae]
def DI(h:dg X f (ql λi j=>.int (g i j))):fT X f (mM g):=tH h λx y H Q ⟨d,e,G,q,l,k,c,t,f⟩=>by
 unfold mM at t;split at t
 .exact#[_,_,l.int_inv,k.int_inv,f _ _ _ _ ae.de c (Le.refl H) t]
 .exact t.elim
def FW(h:dg X f (rI C λi j=>.int (g i j))):fT X f (zA C g):=tH h λx y H Q ⟨d,e,G,q,l,k,c,t,f⟩=>by
 unfold zA at t;split at t
 .exact#[_,_,l.int_inv,k.int_inv,t.1,f _ _ _ _ ae.de c (Le.refl H) t.2]
 .exact t.elim
def gI:fT X (N0 .Sub) Bd:=DI wy5
def vr6:dg X (N0 .FloorDiv) (rI MX λi j=>.int (i / j)):=Eo λi j _ _ _ _ _ f q=>by
 have h:j.natAbs.log2<9000:=by
  have l:=f.1;have k:=f.2;have g:j.natAbs≠0:=()
  have:j.natAbs.log2<64:=(Nat.log2_lt g).mpr ();omega
 apply floordiv_int (by have:=f.1;omega) ?_ (.inl (PyProof.noPylong_of_log2 h));rw[A01 i (by have:=f.1;omega)];exact q
def wr4:fT X (N0 .FloorDiv) Fv:=FW vr6
def uc:fT X (N0 .Mod) Ft:=FW wz1
def xh4:fT X (N0 .Pow) Fs:=FW wy9
def Bo:fT X (N0 .LShift) Fq:=FW wy7
def wr0:fT X (N0 .RShift) Fp:=FW wy6
def Nk:fT X (N0 .BitAnd) Fw:=DI wz4
def Rn:fT X (N0 .BitOr) xOr:=DI xj7
def xh3:fT X (N0 .BitXor) Fo:=DI wy4
def wr3:fT X (zr .Sub) Bd:=DI wm1
def x6:fT X (zr .Add) (mM λi j=>i+j):=DI wm2
def cz:fT X (N0 .Add) mN:=tH (BN.or (qm.or (q_.or wz3))) <| by
 rintro x y H Q ⟨d,e,G,q,l,k,c,t,f⟩;unfold mN at t;cases d <;> cases e <;> first|exact t.elim|dsimp only at t
 .exact .inl ⟨_,_,l.int_inv,k.int_inv,f _ _ _ _ ae.de c (Le.refl H) t⟩
 .exact .inr (.inl ⟨_,_,l.str_inv,k.str_inv,t.1,f _ _ _ _ ae.BE c (Le.refl H) t.2⟩)
 .let#[a,xs,rfl,n,g]:=l.aS;let#[b,m,rfl,A,j]:=k.aS;apply .inr (.inr (.inl #[a,b,xs,m,rfl,rfl,n,A,λz=>t.1 ?_,by rw[<- g.length,<- j.length];exact t.2.1,λz=>?_,λ_ p i=>?_]))
  .have:=g.length;rw[z] at this;exact E8 this
  .apply f (.tup _) G (.ref a) _ ?_ c (Le.refl _) t.2.2;rw[ae];subst z;have e:∀{o:List D},ag X.K H o []->o=[]:=λh=>E8 h.length;rw[e j,D9];exact#[a,_,rfl,n,g]
  .apply f (.tup _) G (.ref p) _ ?_ (c.side i) (Le.fresh i) t.2.2;rw[ae];exact#[p,_,rfl,eF.of iq,ag.le (Le.fresh i) (g.append j)]
 .rename_i a b;split at t
  .rename_i xs m I E;let#[u,C,g]:=c _ _ I;let#[r,B,j]:=c _ _ E;exact .inr (.inr (.inr #[a,b,u,r,l.ar,k.ar,C,B,by rw[<- g.length,<- j.length];exact t.1,λp i=>f _ _ _ _ ae.fe (c.cP i (g.append j)) (Le.fresh i) (t.2 p (c.fresh i))]))
  .exact t.elim
def mT:fT X (N0 .Mult) xN:=tH (BM.or wy8) <| by
 rintro x y H Q ⟨d,e,G,q,i,h,c,t,f⟩;unfold xN at t;cases d <;> cases e <;> first|exact t.elim|dsimp only at t
 .exact .inl ⟨_,_,i.int_inv,h.int_inv,t.1,f _ _ _ _ ae.de c (Le.refl H) t.2⟩
 .rename_i a k;split at t
  .rename_i xs n;let#[l,m,j]:=c _ _ n;apply .inr #[a,k,l,i.ar,h.int_inv,m,t.1.1,t.1.2.1,by rw[<- j.length];exact t.1.2.2,?_];intro p g;exact f _ _ _ _ ae.fe (c.cP g (j.rep _)) (Le.fresh g) (t.2 p (c.fresh g))
  .exact t.elim
def Uz{f:Value->Value->Sem Value}{g:Int->Int->Bool}(h:dg X f (ql λi j=>.bl (g i j))):fT X f (λx y G q=>match x,y with|.int i,.int j=>q (.bl (g i j)) G|_,_=>False):=tH h λx y H Q ⟨d,e,G,q,l,k,c,t,f⟩=>by
 try dsimp only at t
 split at t
 .exact#[_,_,l.int_inv,k.int_inv,f _ _ _ _ ae.mI c (Le.refl H) t]
 .exact t.elim
def t7:fT X (L6 .LtE) xLe:=Uz xj8
def pL:fT X (L6 .Gt) xGt:=Uz xj9
def Ro:fT X (L6 .GtE) xGe:=Uz xk0
def lB:fT X (L6 .Lt) Rp:=tH (IS.or vd9) <| by
 rintro x y H Q ⟨d,e,G,q,h,g,c,t,f⟩;unfold Rp at t;cases d <;> cases e <;> first|exact t.elim|dsimp only at t
 .exact .inl ⟨_,_,h.int_inv,g.int_inv,f _ _ _ _ ae.mI c (Le.refl H) t⟩
 .exact .inr ⟨_,_,h.str_inv,g.str_inv,f _ _ _ _ ae.mI c (Le.refl H) t⟩
def ae.yC(h:ae K H d v)(n:d≠.non):v≠.non:=by
 cases d with
 | non=>exact absurd rfl n| bl _=>rw[h.cb];exact λz=>nomatch z| int _=>rw[h.int_inv];exact λz=>nomatch z| str _=>rw[h.str_inv];exact λz=>nomatch z| ref _=>rw[h.ar];exact λz=>nomatch z| ty _=>rw[ae] at h;rw[h];exact λz=>nomatch z| tup _=>let#[a,xs,e,_]:=h.aS;rw[e];exact λz=>nomatch z
def xM:U3:=λx G q=>match x with|.int i=>q (.int (-i)) G|_=>False
def FN:zg X (EX .USub) (uA X.K xM):=vx2 ws8 <| by
 rintro x H Q ⟨d,G,q,g,c,t,f⟩;unfold xM at t;split at t
 .exact#[_,g.int_inv,f _ _ _ _ ae.de c (Le.refl H) t]
 .exact t.elim
def Bf:R3:=λx y G q=>match x,y with
 | .tup f,.int i=>(match dE f i with|some d=>q d G|none=>False)
 | .ref a,.int i=>(match bB (G a) with|some f=>(match dE f i with|some d=>q d G|none=>False)|none=>False)
 | .str z,.int i=>z.length<=sizeLine/\(match dE z.cps.toList i with|some c=>q (.str #[[c].toArray]) G|none=>False)
 | _,_=>False
theorem ag.dE(h:ag K H ds xs)(e:L2.dE ds i=some d):∃v,L2.dE xs i=some v/\ae K H d v:=by
 rw[Dy] at e⊢;rw[<- h.length];cases f:i6 ds.length i with
 | none=>rw[f] at e;cases e
 | some j =>rw[f] at e;exact h.get e
def ai:tw X (j3 X.K Bf):=ws1 x98 <| by
 rintro x y H Q ⟨d,e,G,q,l,k,c,t,f⟩;unfold Bf at t;cases d <;> cases e <;> first|exact t.elim|dsimp only at t
 .rename_i z i;let#[o,t]:=t;split at t
  .rename_i w g;exact .inr (.inr #[z,i,w,l.str_inv,k.int_inv,o,g,f _ _ _ _ ae.BE c (Le.refl H) t])
  .exact t.elim
 .rename_i r i;let#[a,xs,rfl,h,m]:=l.aS;split at t
  .rename_i w g;let#[v,n,j]:=m.dE g;exact .inr (.inl #[a,xs,i,v,rfl,k.int_inv,h,n,f _ _ _ _ j c (Le.refl H) t])
  .exact t.elim
 .rename_i a i;split at t
  .rename_i r p;let#[xs,h,m]:=e_ c p;split at t
   .rename_i w g;let#[v,n,j]:=m.dE g;exact .inl #[a,xs,i,v,l.ar,k.int_inv,h,n,f _ _ _ _ j c (Le.refl H) t]
   .exact t.elim
  .exact t.elim
def cutD{f:Type}(xs:List f)(lo hi:Option Int):List f:=(xs.drop (HT.bU xs.length 0 lo)).take (HT.bU xs.length xs.length hi-HT.bU xs.length 0 lo)
def ag.cut(h:ag K H ds xs)(lo hi:Option Int):ag K H (cutD ds lo hi) (oK xs lo hi):=by unfold cutD oK;rw[h.length];exact(h.drop _).take _
def Be:rK:=λo i v G q=>match o,i with
 | .ref a,.int k=>(match G a with|some (.lst f)=>(match i6 f.length k with|some j=>q (aH G a (.lst (f.set j v)))|none=>False)|_=>False)
 | _,_=>False
def zB:tq X (lZ X.K Be):=w63 set_list <| by
 rintro o i v H Q ⟨d,e,x,G,q,n,m,l,c,t,f⟩;unfold Be at t;split at t
 .rename_i a k;split at t
  .rename_i u r;let#[xs,g,h]:=c _ _ r;split at t
   .rename_i j p;exact#[a,xs,k,j,n.ar,m.int_inv,g,by rw[<- h.length];exact p,f _ _ (c.lY g (h.set l j)) (Le.lst g) t]
   .exact t.elim
  .exact t.elim
 .exact t.elim
end
inductive Sn where
 | non|bl (b:Bool)|int (i:Int)|str (x:Str)|tup (xs:List Sn)|lst (xs:List Sn)
def snap(G:Gp):Nat->D->Option Sn
 | _,.non=>some .non| _,.bl b=>some (.bl b)| _,.int i=>some (.int i)| _,.str x=>some (.str x)| n+1,.tup f=>(f.mapM (snap G n)).map .tup| n+1,.ref a=>(bB (G a)).bind λf=>(f.mapM (snap G n)).map .lst| _,_=>none
def gH:Sn->Bool
 | .non=>true|.bl _=>true|.int _=>true|.str _=>true|_=>false
def EL:Sn->Sn->Bool
 | .non,.non=>true| .bl a,.bl b=>a==b| .bl a,.int b=>(if a then 1 else 0)==b| .int a,.bl b=>a==(if b then 1 else 0)| .int a,.int b=>a==b| .str a,.str b=>a==b| _,_=>false
def eV:Nat->Sn->Sn->Option Bool
 | n+1,.tup xs,.tup f=>if xs.length=f.length then((xs.zip f).mapM λp=>eV n p.1 p.2).map λg=>g.all id else none| n+1,.lst xs,.lst f=>if xs.length=f.length then((xs.zip f).mapM λp=>eV n p.1 p.2).map λg=>g.all id else some false| _,x,y=>if(gH x&&gH y)=true then some (EL x y) else none
theorem uh{l k:Type}{f:l->Option k}:∀{xs:List l} {ys:List k},xs.mapM f=some ys->xs.length=ys.length/\∀(i:Nat) x,xs[i]?=some x->∃y,ys[i]?=some y/\f x=some y
 | [],ys,h=>by
  have:ys=[]:=by simpa using h.symm
  subst this;exact#[rfl,λi x e=>by simp at e]
 | x::xs,ys,h=>by
  rw[Y5] at h;cases g:f x with
  | none=>rw[g] at h;cases h
  | some y =>
   rw[g] at h;cases j:xs.mapM f with
   | none=>rw[j] at h;cases h
   | some r =>
    rw[j] at h;have e:y::r=ys:=E1 h;subst e;let#[n,m]:=uh j;apply#[by simp[n],λi z e=>?_];cases i with
    | zero=>cases(show x=z from E1 e);exact#[y,rfl,g]
    | succ i=>exact m i z e
def Nl{bs:List Bool}{e:Nat->Bool}{n:Nat}(j:bs.length=n)(h:∀(i:Nat) b,bs[i]?=some b->e i=b):(E6 n).all e=bs.all id:=by
 rw[U7,V4,V4];constructor
 .intro q b f;let#[i,hi,g]:=B62.mp f;have:=q i (L0.mpr ());rw[h i b (by rw[B6 hi,g])] at this;exact this
 .intro q i hi;have hi:=L0.mp hi;rw[h i bs[i] (B6 ())];exact q _ (M5 _)
section
variable{X:Cx}{pins:List (Addr×Obj)}{σ:L2.St}{H:Hp}{s:Shared}{G:Gp}
def UM{u:Value}(h:snap G n d=some sd)(fl:gH sd=true)(r:ae X.K H d x):ub x=true/\∀(e:D) (se:Sn) (y:V),snap G n e=some se->gH se=true->ae X.K H e y->y0 x y=EL sd se:=by
  have key:∀(d:D) (sd:Sn) (x:V),snap G n d=some sd->gH sd=true->ae X.K H d x->(sd=.non/\x=.non)\/(∃b,sd=.bl b/\x=.bl b)\/(∃i,sd=.int i/\x=.int i)\/(∃z,sd=.str z/\x=.str z):=by
    intro d sd x h fl r;cases d with
    | non => have e: Sn.non = sd:= by cases n <;> exact Option.some.inj h
             subst e;exact .inl ⟨rfl,r.d9⟩
    | bl b => have e: Sn.bl b = sd:= by cases n <;> exact Option.some.inj h
              subst e;exact .inr (.inl ⟨b,rfl,r.cb⟩)
    | int b => have e: Sn.int b = sd:= by cases n <;> exact Option.some.inj h
               subst e;exact .inr (.inr (.inl ⟨b,rfl,r.int_inv⟩))
    | str b => have e: Sn.str b = sd:= by cases n <;> exact Option.some.inj h
               subst e;exact .inr (.inr (.inr ⟨b,rfl,r.str_inv⟩))
    | tup ds =>
      cases n with
      | zero=>cases h
      | succ n =>have h:(ds.mapM (snap G n)).map Sn.tup=some sd:=h;let#[a,_,rfl]:=F6.mp h;cases fl
    | ref a =>
      cases n with
      | zero=>cases h
      | succ n =>have h:((bB (G a)).bind λds=>(ds.mapM (snap G n)).map Sn.lst)=some sd:=h;let#[ds,_,h]:=A37.mp h;let#[a,_,rfl]:=F6.mp h;cases fl
    | ty t=>cases n <;> cases h
  rcases key d sd x h fl r with⟨rfl,rfl⟩|⟨b,rfl,rfl⟩|⟨b,rfl,rfl⟩|⟨b,rfl,rfl⟩ <;> apply⟨rfl,λe se y h' fl' r'=>?_⟩ <;>
    rcases key e se y h' fl' r' with⟨rfl,rfl⟩|⟨c,rfl,rfl⟩|⟨c,rfl,rfl⟩|⟨c,rfl,rfl⟩ <;> rfl
def bV(h:snap G n (.tup ds)=some g):∃m f,n=m+1/\g=.tup f/\ds.mapM (snap G m)=some f:=by
 cases n with
 | zero=>cases h
 | succ n =>let#[f,i,rfl]:=F6.mp (show(ds.mapM (snap G n)).map Sn.tup=some g from h);exact#[n,f,rfl,rfl,i]
def bW(h:snap G n (.ref a)=some g):∃m ds f,n=m+1/\g=.lst f/\bB (G a)=some ds/\ds.mapM (snap G m)=some f:=by
 cases n with
 | zero=>cases h
 | succ n =>let#[ds,j,h]:=A37.mp (show((bB (G a)).bind λds=>(ds.mapM (snap G n)).map Sn.lst)=some g from h);let#[f,i,rfl]:=F6.mp h;exact#[n,ds,f,rfl,rfl,j,i]
def v41(f:gH x=true):eV n x y=if(gH x&&gH y)=true then some (EL x y) else none:=by
 cases x with
 | tup _=>cases f
 | lst _=>cases f
 | non=>cases n <;> rfl
 | bl _=>cases n <;> rfl
 | int _=>cases n <;> rfl
 | str _=>cases n <;> rfl
def Gm(h:eV n x y=some b)(f:¬ (gH x&&gH y)=true):(∃m xs ys,n=m+1/\x=.tup xs/\y=.tup ys)\/(∃m xs ys,n=m+1/\x=.lst xs/\y=.lst ys):=by
 unfold eV at h;split at h
 .exact .inl #[_,_,_,rfl,rfl,rfl]
 .exact .inr #[_,_,_,rfl,rfl,rfl]
 .rw[if_neg f] at h;cases h
def Ec(h:snap G n d=some (.tup g)):∃ds,d=.tup ds:=by
 cases d with
 | tup ds=>exact#[ds,rfl]| ref a=>let#[_,_,_,_,f,_]:=bW h;cases f
 | _=>cases n <;> cases h
def Eb(h:snap G n d=some (.lst g)):∃a,d=.ref a:=by
 cases d with
 | ref a=>exact#[a,rfl]| tup i=>let#[_,_,_,f,_]:=bV h;cases f
 | _=>cases n <;> cases h
def ut3(l:ae X.K H d x)(j:ae X.K H e x)(h1:snap G n d=some h)(o:snap G n e=some g)(m:eV n h g=some b)(f:(gH h&&gH g)=true):b=true:=by
 rw[O9] at f;have z:=m;rw[v41 f.1,if_pos (by rw[f.1,f.2];rfl)] at z;let#[p,k]:=UM (u:=X7) h1 f.1 l;rw[<- E1 z,<- k e g x o f.2 j];cases x with
 | non=>rfl| bl b=>exact beq_self_eq_true b| int i=>exact beq_self_eq_true i| str w=>exact beq_self_eq_true w| _=>cases p
def vc0(I:Inv X pins σ H s)(c:bY X.K G H):∀(n:Nat) (d e:D) (x:V) (A y:Sn) (b:Bool),ae X.K H d x->ae X.K H e x->snap G n d=some A->snap G n e=some y->eV n A y=some b->b=true:=by
 intro n;induction n with
 | zero =>
  intro d e x A y b E C r q f;by_cases L:(gH A&&gH y)=true
  .exact ut3 E C r q f L
  .rcases Gm f L with⟨_,_,_,z,_⟩|⟨_,_,_,z,_⟩ <;> cases z
 | succ m ih =>
  intro d e x A y b E C r q f;by_cases L:(gH A&&gH y)=true
  .exact ut3 E C r q f L
  have items:∀(j l:List D) (xs:List V) (g k:List Sn) (u:List Bool),ag X.K H j xs->ag X.K H l xs->j.mapM (snap G m)=some g->l.mapM (snap G m)=some k->((g.zip k).mapM λp=>eV m p.1 p.2)=some u->u.all id=true:=by
   intro j l xs g k u N M o B J;rw[V4];intro b f;let#[i,hi,eb]:=B62.mp f;let#[l1,f1]:=uh o;let#[l2,f2]:=uh B;let#[l3,f3]:=uh J;have hz:(g.zip k).length=min g.length k.length:=B53;have e1:=N.length;have e2:=M.length;have S:i<j.length:=()
   have JQ:i<l.length:=()
   let#[R,g1,s1]:=f1 i j[i] (B6 S);let#[Q,g2,s2]:=f2 i l[i] (B6 JQ);have Cd:(g.zip k)[i]?=some (R,Q):=by rw[A19];exact#[g1,g2]
   let#[b',g3,s3]:=f3 i _ Cd;rw[B6 hi,eb] at g3;cases g3;let#[z1,Ce,Wd]:=N.get (B6 S);let#[z2,OU,Wc]:=M.get (B6 JQ);rw[Ce] at OU;cases OU;exact ih j[i] l[i] z1 R Q b Wd Wc s1 s2 s3
  rcases Gm f L with⟨m',g,k,em,rfl,rfl⟩|⟨m',g,k,em,rfl,rfl⟩
  .cases em;let#[j,rfl]:=Ec r;let#[l,rfl]:=Ec q;let#[_,_,em,t,o]:=bV r;cases em;cases t;let#[_,_,em,t,B]:=bV q;cases em;cases t;let#[a,xs,rfl,N,um]:=E.aS;let#[a',ys,O,M,sJ]:=C.aS;cases O;have:=I.ku N M;subst this;unfold eV at f;split at f
   .let#[u,J,rfl]:=F6.mp f;exact items j l xs g k u um sJ o B J
   .cases f
  .cases em;let#[a,rfl]:=Eb r;let#[a',rfl]:=Eb q;cases E.ar;have O:=C.ar;cases O;let#[_,j,_,em,t,Y,o]:=bW r;cases em;cases t;let#[_,l,_,em,t,Z,B]:=bW q;cases em;cases t;rw[Y] at Z;cases Z;rw[o] at B;cases B;let#[xs,_,U]:=e_ c Y;unfold eV at f;split at f
   .let#[u,J,rfl]:=F6.mp f;exact items j j xs g g u U U o o J
   .rename_i h;exact absurd rfl h
structure rL(G:Gp)(K:W.Frag)(H:Hp)(m:Nat)(its bA:List Value)(bs:List Bool):Prop where
 len:its.length=bA.length
 bl:bs.length=its.length
 at_:∀(j:Nat) (h1:j<its.length) (h2:j<bA.length) (h3:j<bs.length),∃d e x y sd se,ae K H d x/\RelV x its[j]/\ae K H e y/\RelV y bA[j]/\snap G m d=some sd/\snap G m e=some se/\eV m sd se=some bs[j]
def NU{m:Nat}{ds i:List D}{xs ys:List V}{its y:List Value}{g f:List Sn}{bs:List Bool}(x:ag X.K H ds xs)(t:Vals xs its)(u:ag X.K H i ys)(r:Vals ys y) (M:ds.mapM (snap G m)=some g) (k2:i.mapM (snap G m)=some f) (hl:g.length=f.length) (L:((g.zip f).mapM λp=>eV m p.1 p.2)=some bs):rL G X.K H m its y bs:=by
 let#[l1,f1]:=uh M;let#[l2,f2]:=uh k2;let#[l3,R]:=uh L;have hz:(g.zip f).length=min g.length f.length:=B53;have e1:=x.length;have e2:=u.length;have e3:=t.length;have e4:=r.length;apply#[(),(),λj Q O N=>?_];have q:j<ds.length:=()
 have A:j<i.length:=()
 let#[o,g1,J]:=f1 j ds[j] (B6 q);let#[n,g2,I]:=f2 j i[j] (B6 A);have Cd:(g.zip f)[j]?=some (o,n):=by rw[A19];exact#[g1,g2]
 let#[b',g3,E]:=R j _ Cd;rw[B6 N] at g3;cases g3;let#[C,Z,S]:=x.get (B6 q);let#[B,Y,U]:=u.get (B6 A);let#[u1,h,l]:=t.get Z;let#[u2,zY,k]:=r.get Y;rw[B6 Q] at h;rw[B6 O] at zY;cases h;cases zY;exact#[ds[j],i[j],C,B,o,n,S,l,U,k,J,I,E]
end
section
variable{X:Cx}{pins:List (Addr×Obj)}{σ:L2.St}{H:Hp}{s:Shared}{G:Gp}
def vj3(I:Inv X pins σ H s)(o:ae X.K H d x)(m:RelV x u)(i:ae X.K H e y)(l:RelV y v)(h1:snap G n d=some h)(j:snap G n e=some g)(q:eV n h g=some b)(f:(gH h&&gH g)=true):Dv A s u v b:=by
 rw[O9] at f;have p:b=EL h g:=by have z:=q;rw[v41 f.1,if_pos (by rw[f.1,f.2];rfl)] at z;exact(E1 z).symm
 let#[t,k]:=UM (u:=u) h1 f.1 o;let#[r,_]:=UM (u:=v) j f.2 i;rw[p,<- k e g y j f.2 i];exact w43 m l t r
def xb1(I:Inv X pins σ H s)(c:bY X.K G H):∀(n:Nat) (A:Around) (d e:D) (x y:V) (u v:Value) (B t:Sn) (b:Bool),ae X.K H d x->RelV x u->ae X.K H e y->RelV y v->snap G n d=some B->snap G n e=some t->eV n B t=some b->A.units+n<cLine->Dv A s u v b:=by
 intro n;induction n with
 | zero =>
  intro A d e x y u v B t b q J p E o l f hu;by_cases L:(gH B&&gH t)=true
  .exact vj3 I q J p E o l f L
  .rcases Gm f L with⟨_,_,_,z,_⟩|⟨_,_,_,z,_⟩ <;> cases z
 | succ m ih =>
  intro A d e x y u v B t b q J p E o l f hu;by_cases L:(gH B&&gH t)=true
  .exact vj3 I q J p E o l f L
  .have inner:∀(its k:List Value) (h:List Bool),rL G X.K H m its k h->∀j (o:j<its.toArray.size) (l:j<k.toArray.size),Dv A.in1 s its.toArray[j] k.toArray[j] ((h[j]?).getD true):=by
    intro its k h P j o l;have sS:j<its.length:=by simpa using o
    have yY:j<k.length:=by simpa using l
    have xw:j<h.length:=by rw[P.bl];exact sS
    let#[d',e',x',y',GV,GU,a1,a2,a3,a4,a5,a6,a7]:=P.at_ j sS yY xw;rw[B6 xw];have Jq:A.in1.units+m<cLine:=by have:A.in1.units=A.units+1:=rfl;omega
    have:=ih A.in1 d' e' x' y' _ _ GV GU _ a1 a2 a3 a4 a5 a6 a7 Jq;simpa using this
   rcases Gm f L with⟨m',ss,ts,em,rfl,rfl⟩|⟨m',ss,ts,em,rfl,rfl⟩
   .cases em;let#[ds,rfl]:=Ec o;let#[es,rfl]:=Ec l;let#[_,_,em,r,Z]:=bV o;cases em;cases r;let#[_,_,em,r,Y]:=bV l;cases em;cases r;let#[a,xs,rfl,q1,O]:=q.aS;let#[a',ys,rfl,q2,U]:=p.aS;cases J;cases E;by_cases C:a=a'
    .subst C;rw[vc0 I c (m+1) (.tup ds) (.tup es) (.ref a) _ _ b q p o l f];exact B52 _
    .unfold eV at f;split at f
     .rename_i g;let#[h,kb,rfl]:=F6.mp f;let#[its,N,S,_]:=I.tuple q1;let#[k,M,Q,_]:=I.tuple q2;have P:=NU O N U M Z Y g kb;have R:=B99 (A:=A) (s:=s) (e:=λj=>(h[j]?).getD true) (show s.heap.IsTuple a its.toArray from S) (show s.heap.IsTuple a' k.toArray from Q) () (inner its k h P);have e1:((E6 (min its.toArray.size k.toArray.size)).all (λj=>(h[j]?).getD true)&&its.toArray.size==k.toArray.size)=h.all id:=by
       have el:its.toArray.size=k.toArray.size:=by simpa using P.len
       rw[el,C84,beq_self_eq_true,C74];exact Nl (by rw[<- el];simpa using P.bl) λi b f=>by rw[f];rfl
      rw[e1] at R;exact A91 C R
     .cases f
   .cases em;let#[a,rfl]:=Eb o;let#[a',rfl]:=Eb l;let#[_,ds,_,em,r,iQ,Z]:=bW o;cases em;cases r;let#[_,es,_,em,r,dW,Y]:=bW l;cases em;cases r;cases q.ar;cases p.ar;cases J;cases E;by_cases C:a=a'
    .subst C;rw[vc0 I c (m+1) (.ref a) (.ref a) (.ref a) _ _ b q p o l f];exact B52 _
    .let#[xs,q1,O]:=e_ c iQ;let#[ys,q2,U]:=e_ c dW;let#[its,N,S,_]:=I.list q1;let#[k,M,Q,_]:=I.list q2;unfold eV at f;split at f
     .rename_i g;let#[h,kb,rfl]:=F6.mp f;have P:=NU O N U M Z Y g kb;have el:its.toArray.size=k.toArray.size:=by simpa using P.len
      have R:=C10 (A:=A) (s:=s) (e:=λj=>(h[j]?).getD true) S.isList Q.isList el () (inner its k h P);have e1:((E6 its.toArray.size).all (λj=>(h[j]?).getD true))=h.all id:=
       Nl (by simpa using P.bl) λi b f=>by rw[f];rfl
      rw[e1] at R;exact A91 C R
     .rename_i g;cases f;have n1:=(uh Z).1;have n2:=(uh Y).1;have m1:=O.length;have m2:=U.length;have m3:=N.length;have m4:=M.length;exact A91 C (B11 S.isList Q.isList (by simp;omega) ())
end
def He(K:W.Frag)(neg:Bool):R2:=λx y H Q=>∃(d e:D) (G:Gp) (n:Nat) (f g:Sn) (b:Bool),ae K H d x/\ae K H e y/\bY K G H/\n<=40/\snap G n d=some f/\snap G n e=some g/\eV n f g=some b/\gH f=false/\Q (.bl (if neg then !b else b)) H
section
variable{X:Cx}{k:Nat}
def v42(hr:aU k X.A)(I:Inv X pins σ H s)(rx:RelV x v)(ry:RelV y u)(r1:ae X.K H d x)(r2:ae X.K H e y)(c:bY X.K G H)(hn:n<=40)(h1:snap G n d=some sd)(h2:snap G n e=some se)(hb:eV n sd se=some b)(fl:gH sd=false):SeqAt.RcAt X.A s v u b/\SeqAt.RcNeAt X.A s v u (!b):=by
  have hu:=hr.units;rcases Gm hb (λz=>by rw[fl] at z;cases z) with⟨m,ss,ts,rfl,rfl,rfl⟩|⟨m,ss,ts,rfl,rfl,rfl⟩
  · let#[ds,rfl]:=Ec h1
    let#[es,rfl]:=Ec h2
    · · · obtain ⟨_,ss',em,ez,k1⟩:= bV h1
          cases em;cases ez;obtain⟨m',ts',em,Ab,k2⟩:=bV h2;cases em;cases Ab;obtain⟨a,xs,rfl,q1,um⟩:=r1.aS;obtain⟨a',ys,rfl,q2,sJ⟩:=r2.aS;cases rx;cases ry;unfold eV at hb;split at hb
          · rename_i hlen
            obtain⟨bs,kb,rfl⟩:=F6.mp hb;obtain⟨its,w1,t1,_⟩:=I.tuple q1;obtain⟨bA,w2,t2,_⟩:=I.tuple q2;have P:=NU um w1 sJ w2 k1 k2 hlen kb;have he:∀j (h1:j<its.toArray.size) (h2:j<bA.toArray.size),Dv X.A.in1 s its.toArray[j] bA.toArray[j] ((bs[j]?).getD true):=by
              intro j h1 h2;have sS:j<its.length:=by simpa using h1
              have yY:j<bA.length:=by simpa using h2
              have xw:j<bs.length:=by rw[P.bl];exact sS
              obtain⟨d',e',x',y',GV,GU,a1,a2,a3,a4,a5,a6,a7⟩:=P.at_ j sS yY xw;rw[B6 xw];have:=xb1 I c m X.A.in1 d' e' x' y' _ _ GV GU _ a1 a2 a3 a4 a5 a6 a7 (by have:X.A.in1.units=X.A.units+1:=rfl;omega);simpa using this
            have e1:((E6 (min its.toArray.size bA.toArray.size)).all (λj=>(bs[j]?).getD true)&&its.toArray.size==bA.toArray.size)=bs.all id:=by
              have el:its.toArray.size=bA.toArray.size:=by simpa using P.len
              rw[el,C84,beq_self_eq_true,C74];exact Nl (by rw[<- el];simpa using P.bl) λi b hb=>by rw[hb];rfl
            rw[<- e1];exact⟨B99 (e:=λj=>(bs[j]?).getD true) (show s.heap.IsTuple a its.toArray from t1) (show s.heap.IsTuple a' bA.toArray from t2) () he,D17 (e:=λj=>(bs[j]?).getD true) (show s.heap.IsTuple a its.toArray from t1) (show s.heap.IsTuple a' bA.toArray from t2) () he⟩
          · cases hb
  · let#[a,rfl]:=Eb h1
    let#[a',rfl]:=Eb h2
    · · · obtain ⟨_,ds,ss',em,ez,iQ,k1⟩:= bW h1
          cases em;cases ez;obtain⟨m',es,ts',em,Ab,dW,k2⟩:=bW h2;cases em;cases Ab;cases r1.ar;cases r2.ar;cases rx;cases ry;obtain⟨xs,q1,um⟩:=e_ c iQ;obtain⟨ys,q2,sJ⟩:=e_ c dW;obtain⟨its,w1,t1,_⟩:=I.list q1;obtain⟨bA,w2,t2,_⟩:=I.list q2;unfold eV at hb;split at hb
          · rename_i hlen
            obtain⟨bs,kb,rfl⟩:=F6.mp hb;have P:=NU um w1 sJ w2 k1 k2 hlen kb;have el:its.toArray.size=bA.toArray.size:=by simpa using P.len
            have he:∀j (h1:j<its.toArray.size) (h2:j<bA.toArray.size),Dv X.A.in1 s its.toArray[j] bA.toArray[j] ((bs[j]?).getD true):=by
              intro j h1 h2;have sS:j<its.length:=by simpa using h1
              have yY:j<bA.length:=by simpa using h2
              have xw:j<bs.length:=by rw[P.bl];exact sS
              obtain⟨d',e',x',y',GV,GU,a1,a2,a3,a4,a5,a6,a7⟩:=P.at_ j sS yY xw;rw[B6 xw];have:=xb1 I c m X.A.in1 d' e' x' y' _ _ GV GU _ a1 a2 a3 a4 a5 a6 a7 (by have:X.A.in1.units=X.A.units+1:=rfl;omega);simpa using this
            have e1:((E6 its.toArray.size).all (λj=>(bs[j]?).getD true))=bs.all id:=
              Nl (by simpa using P.bl) λi b hb=>by rw[hb];rfl
            rw[<- e1];exact⟨C10 (e:=λj=>(bs[j]?).getD true) t1.isList t2.isList el () he,D23 (e:=λj=>(bs[j]?).getD true) t1.isList t2.isList el () he⟩
          · rename_i hlen
            cases hb;have n1:=(uh k1).1;have n2:=(uh k2).1;have m1:=um.length;have m2:=sJ.length;have m3:=w1.length;have m4:=w2.length;exact⟨B11 t1.isList t2.isList (by simp;omega) (),C39 t1.isList t2.isList (by simp;omega) ()⟩
def wz2(l:aU k X.A):dg X (L6 .Eq) (He X.K false):=by intro pins s B H x y v u Q I g f h;let#[d,e,G,n,E,C,b,j,i,c,m,r,p,o,t,q]:=h;exact(v42 l I g f j i c m r p o t).1 X.prog X.w X.xe _ #[.bl b,H,I,rfl,q]
def wz0(l:aU k X.A):dg X (L6 .NotEq) (He X.K true):=by intro pins s B H x y v u Q I g f h;let#[d,e,G,n,E,C,b,j,i,c,m,r,p,o,t,q]:=h;exact(v42 l I g f j i c m r p o t).2 X.prog X.w X.xe _ #[.bl (!b),H,I,rfl,q]
end
structure FnAt(K:W.Frag)(x qual:Str)(st:Stmt)(ps:List Str) where
 a:Addr
 fd:xI
 ex:∃(oc:Value) (od:Option Addr) (dV kV doc pm:Value) (an:Option Addr) (i9 ct:Value) (zO:Array (Option Value)),
  fd=W.fnOf x qual (tJ st) (qT st) (bq st) dV kV doc pm an i9 ct/\K.lookup a=some #[oc,od,.func fd,zO]/\W.codeIn K i9 qual=true
 kp:W.keepIn K (.ref a)=true
 b:Binds K fd ps []
abbrev Ok(P:Program)(w:World){K:W.Frag}(mg:Str->Option Value)(base:Heap)(n:Nat){x f:Str}{st:Stmt}{ps:List Str}(d:FnAt K x f st ps)(S:gi):Prop:=bD P w K mg base pK n d.a d.fd ps (cJ K S)
def sF:List Str->List D->dR
 | [],f=>f.map some| _::N,d::f=>some d::sF N f| _::N,[]=>none::sF N []
def v14(x:Str)(N:List Str)(d:D)(ds:List D):sF (x::N) (d::ds)=some d::sF N ds:=rfl
def v13(x:Str)(N:List Str):sF (x::N) []=none::sF N []:=rfl
def vp0:sF [] []=[]:=rfl
theorem Vu:∀(N:List Str) (ds:List D),sF N ds=ds.map some++D2 (N.length-ds.length) none
 | [],ds=>by simp[sF]| _::N,d::ds=>by rw[v14,Vu N ds];simp[B59]| _::N,[]=>by rw[v13,Vu N []];simp[K4]
def v62{K:W.Frag}{H:Hp}{N:List Str}{ds:List D}{vs:List V}(r:ag K H ds vs):bJ K H (sF N ds) (L2.start N vs):=by
 rw[Vu];unfold L2.start;apply#[by simp[r.length],λi d e=>?_];by_cases hi:i<ds.length
 .rw[F9 (by simpa using hi),F7] at e;rw[F9 (by simpa[<- r.length] using hi),F7];cases h:ds[i]? with
  | none=>rw[h] at e;cases e
  | some j =>rw[h] at e;cases e;let#[v,g,f]:=r.get h;exact#[v,by rw[g];rfl,f]
 .rw[E7 (by simpa using hi),A35] at e;split at e <;> cases e
section
variable{P:Program}{w:World}{K:W.Frag}{mg:Str->Option Value}{base:Heap}
def DL{x g:Str}{st:Stmt}{ps N:List Str}{k:Nat}(d:FnAt K x g st ps){S:gi}(L:af N ps (bq st))(Y:∀ds G R,S ds G R->ds.length=ps.length){t:ic} (U:∀(i:Value) (A:Around) (outer:List Env) (s:Shared) (H:Hp) (E:XK),aU k (A.deeper (envOfC g (bq st) s.heap.objs.size d.a i))->xD (qJ pK P w K mg base N g (bq st) d.a i A outer s H E).yB (qT st) t) (Z:∀ds G R,S ds G R->t { nx:=λ_ m=>R .non m,rt:=R} (sF N ds) G):Ok P w mg base (k+1) d S:=by
 let#[M,od,p,kV,doc,o,an,i,u,C,e,lk,J]:=d.ex;have j:K.lookup d.a=some #[M,od,.func (W.fnOf x g (tJ st) (qT st) (bq st) p kV doc o an i u),C]:=e▸lk;have F:bD P w K mg base pK (k+1) d.a (W.fnOf x g (tJ st) (qT st) (bq st) p kV doc o an i u) ps (cJ K S):=by
  apply xk5 j J L (λI H Q E h=>?_) λA outer s H I Q E X h=>?_
  .let#[ds,G,R,r,_,l,_]:=h;rw[<- r.length];exact Y ds G R l
  .let#[ds,G,R,r,c,l,f]:=h;apply#[_,(show pJ _ _ _ from U i A outer s H E X).yB,sF N ds,G,_,v62 r,c,Z ds G R l,λn m B H' _ c' O q=>?_,f,λ_ _ _ _ _ _ _ q=>q.elim,λ_ _ _ _ _ _ _ q=>q.elim];exact f .non m .non H' ae.yD c' O q
 have y:=F;rw[<- e] at y;exact y
end
section
variable{X:Cx}{e o:Expr}{es:List Expr}{p pos apos:Pos}{ta:bC}{ts:eW}{k n:Nat}{S:gi}{x m qual:Str}{st:Stmt}{ps:List Str}{C:Addr}
def ec(d:FnAt X.K x qual st ps)(h:X.mg x=some (.ref d.a))(G:bD X.prog X.w X.K X.mg X.base pK k d.a d.fd ps (cJ X.K S))(g:aU k X.A)(l:A3 X (e::es) ts)(i:Gl X x:=by rfl)(f:(x==("__debug__" :Str))=false:=by decide)
  (j:D1 (e::es) X.env=(false,eval e X.env)::D1 es X.env:=by rfl) (q:(backTo pos (D1 es X.env)).any (·.1)=false:=by rfl):E3 X (.Call (.Name x p) (e::es) [] pos) (iT S [] ts):=
 xb8 G g i h d.kp d.b .nil (λ_=>.nil) l f j q
def em(c:jN X.K C)(d:FnAt X.K m qual st ps)(j:Meth X.K C m d.a)(G:bD X.prog X.w X.K X.mg X.base pK k d.a d.fd ps (cJ X.K S))(i:aU k X.A)(l:E3 X o ta)(q:A3 X (e::es) ts) (t:D1 (e::es) X.env=(false,eval e X.env)::D1 es X.env:=by rfl) (r:(backTo pos (D1 es X.env)).any (·.1)=false:=by rfl)
  (h:eval (.Call (.Attribute o m apos) (e::es) [] pos) X.env=(do
   let g <- eval o X.env
   xG apos.atName
   let (f,first) <- holding [g] (A_ g m pl)
   EY pos f first (backTo pos (D1 (e::es) X.env)) (X5 pos (P4 [] X.env))):=by rfl):E3 X (.Call (.Attribute o m apos) (e::es) [] pos) (qS C m S [] ta ts):=
 xb4 l c j G i d.b .nil (λ_=>.nil) q t r h
def fQ(c:jN X.K C)(d:FnAt X.K m qual st ps)(j:Meth X.K C m d.a)(G:bD X.prog X.w X.K X.mg X.base pK k d.a d.fd ps (cJ X.K S))(i:aU k X.A)(l:E3 X o ta)
  (h:eval (.Call (.Attribute o m apos) [] [] pos) X.env=(do
   let g <- eval o X.env
   xG apos.atName
   let (f,first) <- holding [g] (A_ g m pl)
   EY pos f first (backTo pos (D1 [] X.env)) (X5 pos (P4 [] X.env))):=by rfl):E3 X (.Call (.Attribute o m apos) [] [] pos) (qS C m S [] ta eQ):=
 wm9 l c j G i d.b .nil (λ_=>.nil) h
end
def spec(pre:List D->Gp->Prop)(post:List D->Gp->D->Gp->Prop):gi:=λf G R=>pre f G/\∀d g,post f G d g->R d g
def vb3{pre:List D->Gp->Prop}{post:List D->Gp->D->Gp->Prop}{ds:List D}{G:Gp}{q:DK}(h:pre ds G)(k:∀d f,post ds G d f->q d f):∃R,spec pre post ds G R/\∀d f,R d f->q d f:=#[post ds G,#[h,λ_ _ z=>z],k]
def xc8(OH:Scope)(N N':List Str)(ix:List (Option Nat))(scope:Scope):Bool:=
 (scope.kind == .function)&&scope.names.all (λy=>y.2 != .cell)&&scope.names.all (λy=>y.2 != .local||scope.names.lookup y.1==some .local) &&
 scope.names.all (λy=>y.2 != .free||OH.names.lookup y.1==some .cell||OH.names.lookup y.1==some .free)&&(ix.length==N'.length) &&
 (N'.zip ix).all (λp=>match p.2 with|none=>true|some j=>N[j]?==some p.1&&scope.names.lookup p.1==some .free)
def jU{X:Cx}(h1:X.env.scope=u)(o:X.N=N)(h:xc8 u N N' ix scope=true):jO X N' ix scope:=by
 unfold xc8 at h;simp only[O9] at h;let#[#[#[#[#[t,m],l],k],r],g]:=h;rw[V4] at m l k g;apply#[eq_of_beq t,λy f=>by simpa using m y f,λy f e=>?_,λy f e=>?_,eq_of_beq r,λi j x q p=>?_]
 .have:=l y f;simp only[e,bne_self_eq_false,Fi] at this;exact eq_of_beq this
 .have:=k y f;simp only[e,bne_self_eq_false,Fi,C29,beq_iff_eq] at this;unfold Env.kindOf;rw[h1];exact this
 .have n:(N'.zip ix)[i]?=some (x,some j):=by rw[A19];exact#[q,p]
  have:=g _ (K3 n);simp only[O9,beq_iff_eq] at this;rw[o];exact this
section
variable{X:Cx}{K:W.Frag}{H:Hp}
def DU:PD:=λx lo hi G q=>match x with
 | .ref a=>(match bB (G a) with|some f=>∀p,G p=none->q (.ref p) (aH G p (.lst (cutD f lo hi)))|none=>False)
 | .tup f=>¬ (HT.bU f.length 0 lo=0/\HT.bU f.length f.length hi=f.length)/\q (.tup (cutD f lo hi)) G| _=>False
def xK:ve X (rl X.K DU):=wr9 (yl.or wv1) <| by
 rintro x lo hi H Q ⟨d,G,q,j,c,t,f⟩;unfold DU at t;split at t
 .rename_i a;split at t
  .rename_i k e;let#[xs,i,h]:=e_ c e;exact .inl #[a,xs,j.ar,i,λp g=>f _ _ _ _ ae.fe (c.cP g (h.cut lo hi)) (Le.fresh g) (t p (c.fresh g))]
  .exact t.elim
 .rename_i k;let#[a,xs,rfl,i,h]:=j.aS;apply .inr #[a,xs,rfl,i,by rw[<- h.length];exact t.1,λp g=>?_];apply f (.tup _) G (.ref p) _ ?_ (c.side g) (Le.fresh g) t.2;rw[ae];exact#[p,_,rfl,eF.of iq,ag.le (Le.fresh g) (h.cut lo hi)]
 .exact t.elim
def xO:C3:=λf G q=>match f with
 | [.str z]=>z.length<=sizeLine/\q (.int z.length) G| [.tup xs]=>q (.int xs.length) G| [.ref a]=>(match bB (G a) with|some xs=>q (.int xs.length) G|none=>False)
 | _=>False
def ag.one(h:ag K H [d] vs):∃v,vs=[v]/\ae K H d v:=by let#[x,r,rfl,g,f]:=h.ay;rw[f.a_];exact#[x,rfl,g]
def ag.two(h:ag K H [d,e] vs):∃v u,vs=[v,u]/\ae K H d v/\ae K H e u:=by let#[x,r,rfl,i,g]:=h.ay;let#[y,rfl,f]:=g.one;exact#[x,y,rfl,i,f]
def fD:Call3 X (.builtin "len") xO:=pP (mh.or uv4) <| by
 rintro xs H Q ⟨k,G,q,r,c,t,f⟩;unfold xO at t;rcases k with _|⟨d,_|⟨_,_⟩⟩ <;> first|exact t.elim|(cases d <;> first|exact t.elim|dsimp only at t)
 .let#[v,rfl,g]:=r.one;cases g.str_inv;exact .inr #[_,rfl,t.1,f _ _ _ _ ae.de c (Le.refl H) t.2]
 .let#[v,rfl,g]:=r.one;let#[a,h,rfl,i,j]:=g.aS;apply .inl #[a,h,rfl,.inr i,?_];rw[<- j.length];exact f _ _ _ _ ae.de c (Le.refl H) t
 .let#[v,rfl,g]:=r.one;cases g.ar;split at t
  .rename_i k e;let#[h,i,j]:=e_ c e;apply .inl #[_,h,rfl,.inl i,?_];rw[<- j.length];exact f _ _ _ _ ae.de c (Le.refl H) t
  .exact t.elim
def Bh:C3:=λf G q=>match f with|[.int i]=>q (.int (if i<0 then -i else i)) G|_=>False
def xh6:Call3 X (.builtin "abs") Bh:=pP vw4 <| by
 rintro xs H Q ⟨h,G,q,r,c,t,f⟩;unfold Bh at t;split at t
 .let#[v,rfl,g]:=r.one;cases g.int_inv;exact#[_,rfl,f _ _ _ _ ae.de c (Le.refl H) t]
 .exact t.elim
def U':C3:=λf G q=>match f with|[.int i,.int j]=>zo i j/\q (.tup [.int (i / j),.int (i%j)]) G|_=>False
def vo1:Call3 X (.builtin "divmod") U':=pP uz5 <| by
 rintro xs H Q ⟨j,G,q,r,c,t,f⟩;unfold U' at t;split at t
 .let#[v,u,rfl,i,h]:=r.two;cases i.int_inv;cases h.int_inv;apply#[_,_,rfl,t.1,λp g=>f (.tup _) G (.ref p) _ ?_ (c.side g) (Le.fresh g) t.2];rw[ae];exact#[p,_,rfl,eF.of iq,.cons ae.de (.cons ae.de .nil)]
 .exact t.elim
def xh7:C3:=λf G q=>match f with|[.int i,.int j]=>q (.int (if j>i then j else i)) G|_=>False
def TV:C3:=λf G q=>match f with|[.int i,.int j]=>q (.int (if j<i then j else i)) G|_=>False
def wr1(i:X.calm=true:=by rfl):Call3 X (.builtin "min") TV:=pP (vl9 i) <| by
 rintro xs H Q ⟨j,G,q,r,c,t,f⟩;unfold TV at t;split at t
 .let#[v,u,rfl,h,g]:=r.two;cases h.int_inv;cases g.int_inv;exact#[_,_,rfl,f _ _ _ _ ae.de c (Le.refl H) t]
 .exact t.elim
def ND:C3:=λf G q=>match f with|[.int i]=>q (.int i) G|[.bl b]=>q (.int (if b then 1 else 0)) G|_=>False
def Vb:Call3 X (.type "int") ND:=pP vm2 <| by
 rintro xs H Q ⟨h,G,q,r,c,t,f⟩;unfold ND at t;split at t
 .let#[v,rfl,g]:=r.one;cases g.int_inv;exact .inl #[_,rfl,f _ _ _ _ ae.de c (Le.refl H) t]
 .let#[v,rfl,g]:=r.one;cases g.cb;exact .inr #[_,rfl,f _ _ _ _ ae.de c (Le.refl H) t]
 .exact t.elim
def NY:C3:=λf G q=>match f with
 | [.tup xs]=>∀p,G p=none->q (.ref p) (aH G p (.lst xs))| [.ref a]=>(match bB (G a) with|some xs=>∀p,G p=none->q (.ref p) (aH G p (.lst xs))|none=>False)
 | _=>False
def VB:Call3 X (.type "list") NY:=pP uv3 <| by
 rintro xs H Q ⟨l,G,q,r,c,t,f⟩;unfold NY at t;split at t
 .let#[v,rfl,j]:=r.one;let#[a,h,rfl,i,k]:=j.aS;exact#[a,h,rfl,.inr i,λp g=>f _ _ _ _ ae.fe (c.cP g k) (Le.fresh g) (t p (c.fresh g))]
 .let#[v,rfl,j]:=r.one;cases j.ar;split at t
  .rename_i l e;let#[h,i,k]:=e_ c e;exact#[_,h,rfl,.inl i,λp g=>f _ _ _ _ ae.fe (c.cP g k) (Le.fresh g) (t p (c.fresh g))]
  .exact t.elim
 .exact t.elim
def Oh:C3:=λf G q=>match f with
 | [.tup xs]=>q (.tup xs) G| [.ref a]=>(match bB (G a) with|some xs=>q (.tup xs) G|none=>False)
 | _=>False
def Oo:Call3 X (.type "tuple") Oh:=pP us0 <| by
 rintro xs H Q ⟨l,G,q,r,c,t,f⟩;unfold Oh at t;split at t
 .let#[v,rfl,g]:=r.one;let#[a,h,rfl,i,k]:=g.aS;exact#[a,h,rfl,.inr #[i,f _ _ _ _ g c (Le.refl H) t]]
 .let#[v,rfl,g]:=r.one;cases g.ar;split at t
  .rename_i l e;let#[h,i,k]:=e_ c e;apply#[_,h,rfl,.inl #[i,λp j=>f (.tup _) G (.ref p) _ ?_ (c.side j) (Le.fresh j) t]];rw[ae];exact#[p,_,rfl,eF.of iq,ag.le (Le.fresh j) k]
  .exact t.elim
 .exact t.elim
def Rt:List D->Option (List Bool)
 | []=>some []| .bl b::r=>(Rt r).map (b::·)| _=>none
def Rq:C3:=λf G q=>match f with
 | [.ref a]=>(match bB (G a) with|some xs=>(match Rt xs with|some g=>q (.bl (g.all id)) G|none=>False)|none=>False)
 | _=>False
def zC:List D->Option (List Int)
 | []=>some []| .int b::r=>(zC r).map (b::·)| _=>none
theorem Oq:∀{ds:List D} {bs:List Int} {vs:List V},zC ds=some bs->ag K H ds vs->vs=bs.map V.int
 | [],bs,vs,e,r=>by cases e;rw[r.a_];rfl
 | .int b::ds,bs,vs,e,r=>by let#[x,xs,rfl,g,f]:=r.ay;let#[i,h,rfl]:=F6.mp (show(zC ds).map (b::·)=some bs from e);rw[g.int_inv,Oq h f];rfl| .non::_,_,_,e,_=>by cases e
 | .bl _::_,_,_,e,_=>by cases e
 | .str _::_,_,_,e,_=>by cases e
 | .tup _::_,_,_,e,_=>by cases e
 | .ref _::_,_,_,e,_=>by cases e
 | .ty _::_,_,_,e,_=>by cases e
def t_:C3:=λf G q=>match f with
 | [.ref a]=>(match bB (G a) with|some xs=>(match zC xs with|some g=>q (.int g.sum) G|none=>False)|none=>False)
 | _=>False
def wq9(j:X.calm=true:=by rfl):Call3 X (.builtin "sum") t_:=pP (vw3 j) <| by
 rintro xs H Q ⟨l,G,q,r,c,t,f⟩;unfold t_ at t;split at t
 .let#[v,rfl,h]:=r.one;cases h.ar;split at t
  .rename_i l e;let#[n,g,i]:=e_ c e;split at t
   .rename_i m k;have:=Oq k i;subst this;exact#[_,m,rfl,g,f _ _ _ _ ae.de c (Le.refl H) t]
   .exact t.elim
  .exact t.elim
 .exact t.elim
def DB(G:Gp):D->Option String
 | .non=>some "NoneType"| .bl _=>some "bool"| .int _=>some "int"| .str _=>some "str"| .ref a=>match G a with|some (.lst _)=>some "list"| some (.sV _)=>some "list"| some (.bM _)=>some "dict"| _=>none
 | _=>none
def Va:C3:=λf G q=>match f with
 | [x,.ty T]=>(T = "int" \/ T = "str" \/ T = "bool" \/ T = "list" \/ T = "tuple" \/ T = "dict")/\(match DB G x with|some n=>q (.bl (sH n T)) G|none=>False)
 | _=>False
def vo0:Call3 X (.builtin "isinstance") Va:=pP uz4 <| by
 rintro xs H Q ⟨p,G,q,r,c,t,f⟩;unfold Va at t;split at t
 .rename_i d T;let#[v,u,rfl,i,l]:=r.two;rw[ae] at l;subst l;let#[m,t]:=t;split at t
  .rename_i n g;apply#[v,n,T,rfl,?_,m,f _ _ _ _ ae.mI c (Le.refl H) t];unfold DB at g;split at g
   .cases i.d9;cases g;rfl
   .cases i.cb;cases g;rfl
   .cases i.int_inv;cases g;rfl
   .cases i.str_inv;cases g;rfl
   .rename_i a;cases i.ar;split at g
    .rename_i xs k;cases g;let#[h,j,_]:=c _ _ k;exact .inl #[rfl,.inl #[h,j]]
    .rename_i xs k;cases g;let#[o,h,j,_]:=c _ _ k;exact .inl #[rfl,.inr #[o,h,j]]
    .rename_i xs k;cases g;let#[h,j,_]:=c _ _ k;exact .inr (.inr #[rfl,h,j])
    .cases g
   .cases g
  .exact t.elim
 .exact t.elim
def xb2(h:X.mg x=none)(f:R5 x=some (.type T))(i:Gl X x:=by rfl)(g:x ≠ "__name__" := by decide)(j:(x==("__debug__" :Str))=false:=by decide):E3 X (.Name x pos) (dC (.ty T)):=dX (wi7 (v:=.ty T) i h f rfl g j) λ_ _ _=>FG λ_=>by rw[ae]
def Fu:R3:=λx y G q=>match y with
 | .non=>(match x with|.non=>q (.bl true) G|_=>q (.bl false) G)
 | .bl b=>(match x with|.bl c=>q (.bl (decide (c=b))) G|_=>q (.bl false) G)
 | _=>False
def NX:R3:=λx y G q=>match y with
 | .non=>(match x with|.non=>q (.bl false) G|_=>q (.bl true) G)
 | .bl b=>(match x with|.bl c=>q (.bl (!decide (c=b))) G|_=>q (.bl true) G)
 | _=>False
def ae.BQ(h:ae K H d v)(b:Bool)(n:∀c,d≠.bl c):v≠.bl b:=by
 cases d with
 | bl c=>exact absurd rfl (n c)| non=>rw[h.d9];exact λz=>nomatch z| int _=>rw[h.int_inv];exact λz=>nomatch z| str _=>rw[h.str_inv];exact λz=>nomatch z| ref _=>rw[h.ar];exact λz=>nomatch z| ty _=>rw[ae] at h;rw[h];exact λz=>nomatch z| tup _=>let#[a,xs,e,_]:=h.aS;rw[e];exact λz=>nomatch z
def v47:decide (V.bl c=V.bl b)=decide (c=b):=by cases c <;> cases b <;> rfl
def v02:fT X (L6 .IsNot) NX:=tH (yx.or ve0) <| by
 rintro x y H Q ⟨d,e,G,q,g,i,c,t,f⟩;unfold NX at t;split at t
 .apply .inl #[i.d9,?_];split at t
  .rw[g.d9];exact f _ _ _ _ ae.mI c (Le.refl H) t
  .rename_i h;rw[decide_eq_false (g.yC λz=>h z)];exact f _ _ _ _ ae.mI c (Le.refl H) t
 .rename_i b;apply .inr #[b,i.cb,?_];split at t
  .rw[g.cb,v47];exact f _ _ _ _ ae.mI c (Le.refl H) t
  .rename_i h;rw[decide_eq_false (g.BQ b λz j=>h z j)];exact f _ _ _ _ ae.mI c (Le.refl H) t
 .exact t.elim
end
def uC(n:Nat)(t:qL):pH:=λd g G q=>match d with
 | .tup f=>f.length=n/\t f g G q| .ref a=>(match bB (G a) with|some f=>f.length=n/\t f g G q|none=>False)
 | _=>False
def xQ(te:bC):tX:=λh G r=>te h G λx g=>match x with
 | .ref a=>(match bB (g a) with|some f=>r #[f,λG=>bB (G a)=some f] g|none=>False)
 | .tup f=>r #[f,λ_=>True] g| _=>False
section
variable{X:Cx}{es:List Expr}{e tg:Expr}{te:bC}{pos:Pos}
def xT(u:X.calm=true)(h:PF X es t)(p:(T7 es X.env).length=n:=by rfl)(o:(T7 es X.env).findIdx? (·.1)=none:=by rfl):J3 X (.Tuple es k pos) (uC n t):=
 TR (xj0 (wx1 u h p o) (wh8 u h p o)) λv y H Q x=>by
  let#[d,g,G,q,r,j,c,t,f]:=x;unfold uC at t;split at t
  .rename_i i;let#[a,xs,rfl,s,l]:=r.aS;exact .inl #[a,xs,rfl,s,by rw[<- l.length];exact t.1,i,g,G,q,l,j,c,t.2,f]
  .rename_i a;split at t
   .rename_i i e;let#[xs,s,m]:=e_ c e;exact .inr #[a,xs,r.ar,s,by rw[<- m.length];exact t.1,i,g,G,q,m,j,c,t.2,f]
   .exact t.elim
  .exact t.elim
def jl(h:E3 X e te):I3 X tg e (xQ te):=DH (ww9 h) λo H R m=>by
 let#[i,G,q,l,c,t,f]:=m;apply#[i,G,_,l,c,t,λx u v p j c1 k g=>?_];split at g
 .rename_i a;split at g
  .rename_i n e;let#[xs,s,_]:=e_ c1 e;exact#[a,j.ar,.inl #[#[xs,s],f _ _ _ _ v75 c1 k g]]
  .exact g.elim
 .rename_i n;let#[a,xs,rfl,s,r]:=j.aS;exact#[a,rfl,.inr #[#[xs,s],f _ _ _ _ (vi0 s r) c1 k g]]
 .exact g.elim
end
section
variable{X:Cx}{e o:Expr}{es:List Expr}{to:bC}{ts:eW}{apos aO:Pos}
def ty_list(K:W.Frag):∀G H x v,bY K G H->ae K H x v->lE G "list" x->Gz K "list" v H:=by
 intro G H x v c r t;cases x with
 | ref a =>
  cases r.ar;cases e:G a with
  | none=>simp[lE,e] at t| some o =>
   cases o with
   | lst f=>let#[xs,s,_]:=e_ (ds:=f) c (by rw[e];rfl);exact .inl #[rfl,xs,s]| sV f=>let#[xs,s,_]:=e_ (ds:=f) c (by rw[e];rfl);exact .inl #[rfl,xs,s]| bM _=>simp[lE,e] at t| Kh _=>simp[lE,e] at t| rC _=>simp[lE,e] at t| ins _ _=>simp[lE,e] at t| exc _ _=>simp[lE,e] at t| qC _ _=>simp[lE,e] at t| tb _ _=>simp[lE,e] at t
 | str _=>simp[lE] at t| int _=>simp[lE] at t| _=>exact t.elim
def Ga:M3:=λx f G q=>match x,f with
 | .ref a,[d]=>(match G a with|some (.lst xs)=>xs.length<sizeLine/\q .non (aH G a (.lst (xs++[d])))|_=>False)
 | _,_=>False
def pA(p:E3 X o to)(r:A3 X (e::es) ts)(A:O2 o "append" X.env (eval o X.env)=eval o X.env:=by rfl)
  (m:((backTo aO (D1 (e::es) X.env)).all (λx=>!x.1)&&(X5 aO (P4 [] X.env)).all (λx=>x.1.isSome)
   && decide ((e::es).length+([]:List Keyword).length+(if([]:List Keyword).isEmpty then 0 else 1)<30))=true:=by rfl)
  (B:(apos.endLine==aO.line)=true:=by rfl) (n:D1 (e::es) X.env=(false,eval e X.env)::D1 es X.env:=by rfl) (u:(backTo aO (D1 es X.env)).any (·.1)=false:=by rfl):
  E3 X (.Call (.Attribute o "append" apos) (e::es) [] aO) (EM "list" Ga to ts):=
 dX (RI B26 PySem.F.slot_list_append PySem.F.type_list_append (Ux (r':=uB X.K Ga) uu2 <| by
  rintro x xs H Q ⟨d,I,G,q,l,k,c,t,f⟩;unfold Ga at t;split at t
  .rename_i a J;split at t
   .rename_i C y;cases l.ar;let#[v,rfl,j]:=k.one;let#[i,g,h]:=c _ _ y;exact#[a,i,v,rfl,rfl,g,by rw[<- h.length];exact t.1,f _ _ _ _ ae.yD (c.lY g (h.append (.cons j .nil))) (Le.lst g) t.2]
   .exact t.elim
  .exact t.elim) p r A m B n u) λ_ _ _=>Uh (ty_list X.K)
def NJ:M3:=λx g G q=>match x,g with
 | .ref a,[.ref b]=>(match G a,G b with|some (.lst xs),some (.lst f)=>xs.length+f.length<=sizeLine/\q .non (aH G a (.lst (xs++f)))|_,_=>False)
 | _,_=>False
def Oa(u:E3 X o to)(y:A3 X (e::es) ts)(I:O2 o "extend" X.env (eval o X.env)=eval o X.env:=by rfl)
  (p:((backTo aO (D1 (e::es) X.env)).all (λx=>!x.1)&&(X5 aO (P4 [] X.env)).all (λx=>x.1.isSome)
   && decide ((e::es).length+([]:List Keyword).length+(if([]:List Keyword).isEmpty then 0 else 1)<30))=true:=by rfl)
  (J:(apos.endLine==aO.line)=true:=by rfl) (r:D1 (e::es) X.env=(false,eval e X.env)::D1 es X.env:=by rfl) (B:(backTo aO (D1 es X.env)).any (·.1)=false:=by rfl):
  E3 X (.Call (.Attribute o "extend" apos) (e::es) [] aO) (EM "list" NJ to ts):=
 dX (RI B26 PySem.F.slot_list_extend PySem.F.type_list_extend (Ux (r':=uB X.K NJ) vf0 <| by
  rintro x xs H Q ⟨d,O,G,q,n,m,c,t,f⟩;unfold NJ at t;split at t
  .rename_i a b;split at t
   .rename_i M L E C;cases n.ar;let#[v,rfl,l]:=m.one;cases l.ar;let#[k,g,i]:=c _ _ E;let#[j,A,h]:=c _ _ C;exact#[a,b,k,j,rfl,rfl,g,A,by rw[<- i.length,<- h.length];exact t.1,f _ _ _ _ ae.yD (c.lY g (i.append h)) (Le.lst g) t.2]
   .exact t.elim
  .exact t.elim) u y I p J r B) λ_ _ _=>Uh (ty_list X.K)
def wk1:M3:=λx f G q=>match x,f with
 | .ref a,[]=>(match G a with|some (.lst _)=>q .non (aH G a (.lst []))|_=>False)
 | _,_=>False
end
def il(neg:Bool):R3:=λx y G q=>match x,y with
 | .int i,.int j=>q (.bl (if neg then !decide (i=j) else decide (i=j))) G| .str i,.str j=>q (.bl (if neg then !decide (i=j) else decide (i=j))) G| .bl i,.bl j=>q (.bl (if neg then !decide (i=j) else decide (i=j))) G| .non,.non=>q (.bl (!neg)) G| .non,.int _=>q (.bl neg) G| .int _,.non=>q (.bl neg) G| .non,.bl _=>q (.bl neg) G| .bl _,.non=>q (.bl neg) G| .non,.str _=>q (.bl neg) G| .str _,.non=>q (.bl neg) G| .int _,.str _=>q (.bl neg) G| .str _,.int _=>q (.bl neg) G| .tup xs,.tup h=>∃n g f b,n<=40/\snap G n (.tup xs)=some g/\snap G n (.tup h)=some f/\eV n g f=some b/\q (.bl (if neg then !b else b)) G| .ref a,.ref c=>∃n g f b,n<=40/\snap G n (.ref a)=some g/\snap G n (.ref c)=some f/\eV n g f=some b/\q (.bl (if neg then !b else b)) G| _,_=>False
section
variable{X:Cx}{k:Nat}
def vv6:decide (V.int i=V.int j)=decide (i=j):=by
 by_cases h:i=j
 .subst h;simp
 .simp[h]
def vv5:decide (V.str i=V.str j)=decide (i=j):=by
 by_cases h:i=j
 .subst h;simp
 .simp[h]
def ug5(h:snap G n (.tup xs)=some f):gH f=false:=by let#[_,_,_,rfl,_]:=bV h;rfl
def ug6(h:snap G n (.ref a)=some f):gH f=false:=by let#[_,_,_,_,rfl,_]:=bW h;rfl
def vw9{K:W.Frag}{G:Gp}{H:Hp}{neg:Bool}{q:DK}{d e:D}{x y:V}(t:il neg d e G q)(o:ae K H d x)(l:ae K H e y):(BI x y=true/\q (.bl (if neg then !decide (x=y) else decide (x=y))) G)\/∃n f g b,n<=40/\snap G n d=some f/\snap G n e=some g/\eV n f g=some b/\gH f=false/\q (.bl (if neg then !b else b)) G:=by
 rcases d with _|b|i|s|xs|a|m <;> rcases e with _|b'|j|s'|ys|c|m' <;> first|exact Q2 t|((first|cases o.d9|cases o.cb|cases o.int_inv|cases o.str_inv);(first|cases l.d9|cases l.cb|cases l.int_inv|cases l.str_inv);exact .inl ⟨rfl,by first|exact t|(rw[vv6];exact t)|(rw[vv5];exact t)|(rw[v47];exact t)|(cases neg <;> exact t)⟩)|skip
 .let#[n,f,g,b,p,h,u,r,t]:=t;exact .inr #[n,f,g,b,p,h,u,r,ug5 h,t]
 .let#[n,f,g,b,p,h,u,r,t]:=t;exact .inr #[n,f,g,b,p,h,u,r,ug6 h,t]
def aZ(m:aU k X.A):fT X (L6 .Eq) (il false):=tH (IU.or (wz2 m)) <| by
 rintro x y H Q ⟨d,e,G,q,i,g,c,t,f⟩;rcases vw9 t i g with⟨h,t⟩|⟨n,l,j,b,o,B,u,p,r,t⟩
 .exact .inl ⟨h,f _ _ _ _ ae.mI c (Le.refl H) t⟩
 .exact .inr ⟨_,_,G,n,l,j,b,i,g,c,o,B,u,p,r,f _ _ _ _ ae.mI c (Le.refl H) t⟩
def iU(m:aU k X.A):fT X (L6 .NotEq) (il true):=tH (IQ.or (wz0 m)) <| by
 rintro x y H Q ⟨d,e,G,q,i,g,c,t,f⟩;rcases vw9 t i g with⟨h,t⟩|⟨n,l,j,b,o,B,u,p,r,t⟩
 .exact .inl ⟨h,f _ _ _ _ ae.mI c (Le.refl H) t⟩
 .exact .inr ⟨_,_,G,n,l,j,b,i,g,c,o,B,u,p,r,f _ _ _ _ ae.mI c (Le.refl H) t⟩
end
section
variable{X:Cx}{e:Expr}{es:List Expr}{p pos:Pos}{ts:eW}{k:Nat}{S:gi}{x m qual:Str}{st:Stmt}{ps:List Str}{C:Addr}
def YO{f g:Str}{d:FnAt X.K f g st ps}(M:Mk X.K C d.a)(j:X.mg x=some (.ref C))(G:bD X.prog X.w X.K X.mg X.base pK k d.a d.fd ps (cJ X.K S))(i:aU (k+1) X.A)(o:A3 X (e::es) ts)(l:Gl X x:=by rfl)(h:(x==("__debug__" :Str))=false:=by decide)
  (n:D1 (e::es) X.env=(false,eval e X.env)::D1 es X.env:=by rfl) (q:(backTo pos (D1 es X.env)).any (·.1)=false:=by rfl):E3 X (.Call (.Name x p) (e::es) [] pos) (Fx C S [] ts):=
 w44 M G i l j d.b .nil (λ_=>.nil) o h n q
end
section
variable{X:Cx}{e:Expr}{es:List Expr}{p pos:Pos}{ts:eW}{k:Nat}{S:gi}{x m qual:Str}{st:Stmt}{ps:List Str}{C f:Addr}{fd:xI}
def YN(M:Mk X.K C f)(j:X.mg x=some (.ref C))(o:∃t,Binds X.K fd ps [.int i t])(G:bD X.prog X.w X.K X.mg X.base pK k f fd ps (cJ X.K S))(h:aU (k+1) X.A)(r:A3 X (e::es) ts)(l:Gl X x:=by rfl)(g:(x==("__debug__" :Str))=false:=by decide)
  (n:D1 (e::es) X.env=(false,eval e X.env)::D1 es X.env:=by rfl) (u:(backTo pos (D1 es X.env)).any (·.1)=false:=by rfl):E3 X (.Call (.Name x p) (e::es) [] pos) (Fx C S [.int i] ts):=by
 let#[t,q]:=o;exact w44 (eP:=[.int i]) M G h l j q (.cons #[t,rfl] .nil) (λ_=>.cons ae.de .nil) r g n u
def Bs(h:∃t,X.mg x=some (.int i t))(j:Gl X x:=by rfl)(g:(x==("__debug__" :Str))=false:=by decide):E3 X (.Name x pos) (dC (.int i)):=by let#[t,h]:=h;exact xb6 j h (v:=.int i) #[t,rfl] (λ_=>ae.de) g
end
def eZ{c A B:Prop}[Decidable c](h1:c->A)(f:¬ c->B):if decide c=true then A else B:=by
 by_cases h:c
 .simpa[h] using h1 h
 .simpa[h] using f h
def vb7:bB (some (.lst xs))=some xs:=rfl
def vb8:bB (some (.sV xs))=some xs:=rfl
def xl6{f:Type}{x:f}{xs:List f}:dE (x::xs) 0=some x:=rfl
def xl5{f:Type}{x y:f}{xs:List f}:dE (x::y::xs) 1=some y:=rfl
def xl4{f:Type}{x y z:f}{xs:List f}:dE (x::y::z::xs) 2=some z:=rfl
def xl3{f:Type}{x y z u:f}{xs:List f}:dE (x::y::z::u::xs) 3=some u:=rfl
def xl2{f:Type}{x y z u v:f}{xs:List f}:dE (x::y::z::u::v::xs) 4=some v:=rfl
def xa1:i6 3 0=some 0:=rfl
def xa0:i6 3 1=some 1:=rfl
def x99:i6 3 2=some 2:=rfl
def xa3:i6 2 0=some 0:=rfl
def xa2:i6 2 1=some 1:=rfl
def w38{n j:Nat}(h:j<n):i6 n (j:Int)=some j:=by unfold i6;rw[if_pos (),if_pos ()];simp
def wm0{n:Nat}{i:Int}(f:0<=i)(h:i<n):i6 n i=some i.toNat:=by unfold i6;rw[if_pos f,if_pos h]
def vm6{f:Type}{xs:List f}{i:Int}(g:0<=i)(h:i<xs.length):dE xs i=some (xs[i.toNat]'()):=by rw[Dy,wm0 g h];exact B6 _
def wq2{g j:Type}{f:g->j}{xs:List g}{i:Int}(k:0<=i)(h:i<xs.length):dE (xs.map f) i=some (f (xs[i.toNat]'())):=by rw[vm6 k (by simpa using h)];simp
def Bp(f:0<=i)(h:i<18446744073709551616):jb i j:=.inl #[(),()]
def xc6(f:0<=j)(h:j<18446744073709551616):jb i j:=.inr #[(),()]
def FP(f:0<=j)(h:j<=1000):kj 1 j:=#[f,(),∅]
end L3
namespace L3
def gp{S:gi}{ds:List D}{G G1:Gp}{v:D}{q:DK}(h:∀R:DK,R v G1->S ds G R)(k:q v G1):∃R,S ds G R/\∀d f,R d f->q d f:=#[λd f=>d=v/\f=G1,h _ #[rfl,rfl],λ_ _ ⟨i,g⟩=>by subst i;subst g;exact k]
def jR{S:gi}{ds:List D}{G:Gp}{post:DK}{q:DK}(h:∀R:DK,(∀d f,post d f->R d f)->S ds G R)(k:∀d f,post d f->q d f):∃R,S ds G R/\∀d f,R d f->q d f:=#[post,h _ λ_ _ z=>z,k]
def lD{E:ig}(I:List D->dR->Gp->Prop)(l:I items f G)(nil:∀f G,I [] f G->ok G/\E.nx f G) (cons:∀x r f G,I (x::r) f G->(∀i k,I r i k->forL ok g tb E r i k)->ok G/\g x f G λj G1=>tb { E with nx:=forL ok g tb E r,ct:=forL ok g tb E r,bk:=E.nx} j G1):forL ok g tb E items f G:=by
 induction items generalizing f G with
 | nil=>exact nil f G l| cons x r m=>exact cons x r f G l λi k h=>m h
def kr(I:List D->dR->Gp->Prop)(l:I items i G)(nil:∀i G,I [] i G->ok G/\q (.ref p) G) (cons:∀x r i G,I (x::r) i G->(∀j k,I r j k->xR ok g tc te p q r j k)->ok G/\g x i G λf t=>tc f t λb n => if b=true then te f n λd m=>(match m p with|some (.lst ys)=>ys.length<PySem.sizeLine/\xR ok g tc te p q r f (aH m p (.lst (ys++[d])))|_=>False)
   else xR ok g tc te p q r f n):xR ok g tc te p q items i G:=by
 induction items generalizing i G with
 | nil=>exact nil i G l| cons x r o=>exact cons x r i G l λj k h=>o h
def Gy(I:Nat->dR->Gp->Prop)(k:I m g G) (step:∀m g G N,I m g G->(∀f j i,m=i+1->I i f j->N f j)->c g G λb G1=>if b=true then tb { E with nx:=N,ct:=N,bk:=E.nx} g G1 else E.nx g G1):Ub c tb E g G:=by
 apply#[m+1,?_];induction m generalizing g G with
 | zero=>exact step 0 g G (Bi c tb E 0) k λf j i e=>absurd e ()| succ m l=>exact step (m+1) g G (Bi c tb E (m+1)) k λf j i e h=>l (by cases e;exact h)
end L3
namespace L3
open PySem
def eL:(J0 a=J0 b)=(a=b):=propext #[λh=>by rw[B41,B41] at h;injection h with h;exact String.ext (List.map_inj_right (λx y e=>Char.ext (UInt32.toNat_inj.mp e)) |>.mp (congrArg ZR h)),λh=>by rw[h]]
def str_beq:(J0 a==J0 b)=decide (a=b):=by rw[U7,beq_iff_eq,decide_eq_true_iff,eL]
end L3
namespace Rw
open PySem PyProof.Rows L2 L3
inductive oZ where
 | num (n:Int)|box (y:Nat)
 deriving DecidableEq
inductive Row where
 | add (x:Nat) (o:oZ)|take (x:Nat) (o:oZ)|turn (x i:Nat) (cs:List (Nat×Nat))|swap (x y:Nat)|go (x:Nat) (n:Int) (k:Nat)|aP (x:Nat) (n:Int) (k:Nat)
 deriving DecidableEq
def oZ.d:oZ->D
 | .num n=>.tup [.str "num",.int n]| .box y=>.tup [.str "box",.int (y:Int)]
def cd(c:Nat×Nat):D:=.tup [.int (c.1:Int),.int (c.2:Int)]
def Row.d:Row->D
 | .add x o=>.tup [.str "add",.int (x:Int),o.d]| .take x o=>.tup [.str "take",.int (x:Int),o.d]| .turn x i f=>.tup [.str "turn",.int (x:Int),.int (i:Int),.tup (f.map cd)]| .swap x y=>.tup [.str "swap",.int (x:Int),.int (y:Int)]| .go x n k=>.tup [.str "go",.int (x:Int),.int n,.int (k:Int)]| .aP x n k=>.tup [.str "come",.int (x:Int),.int n,.int (k:Int)]
def oZ.ok(sz x:Nat):oZ->Prop
 | .num n=>0<=n/\n<4294967296| .box y=>y<sz/\y≠x
def Row.ok(sz:Nat):Row->Prop
 | .add x o=>x<sz/\o.ok sz x| .take x o=>x<sz/\o.ok sz x| .turn x i f=>x<sz/\i<32/\f.length<=2/\∀c∈f,c.1<sz/\c.1≠x/\c.2<32| .swap x y=>x<sz/\y<sz/\y≠x| .go x n _=>x<sz/\0<=n/\n<4294967296| .aP x n _=>x<sz/\0<=n/\n<4294967296
def Row.plain:Row->Bool
 | .go _ _ _=>false| .aP _ _ _=>false| _=>true
def gt(bs:List Int)(x:Nat):Int:=bs.getD x 0
def bit(v:Int)(j:Nat):Int:=v / 2^j%2
def eU(v:Int)(i:Nat):Int:=v+2^i*(1-2*bit v i)
def val(bs:List Int):oZ->Int
 | .num n=>n| .box y=>gt bs y
def con(bs:List Int)(cs:List (Nat×Nat)):Bool:=cs.all λc=>!decide (bit (gt bs c.1) c.2=0)
def cB(s:Int)(bs:List Int):Row->List Int
 | .add x o=>bs.set x ((gt bs x+s*val bs o)%4294967296)| .take x o=>bs.set x ((gt bs x-s*val bs o)%4294967296)| .turn x i f=>if con bs f=true then bs.set x (eU (gt bs x) i) else bs| .swap x y=>(bs.set x (gt bs y)).set y (gt bs x)| .go _ _ _=>bs| .aP _ _ _=>bs
structure cn(sz:Nat)(bs:List Int):Prop where
 len:bs.length=sz
 Em:∀v∈bs,0<=v/\v<4294967296
def DP{bs:List Int}(h:x<bs.length):gt bs x=bs[x]:=by unfold gt;rw[F4,B6 h];rfl
def Bq(h:cn sz bs)(f:x<sz):0<=gt bs x/\gt bs x<4294967296:=by rw[DP (by rw[h.len];exact f)];exact h.Em _ (M5 _)
def mw{bs:List Int}(h:x<bs.length):gt (bs.set x v) y=if y=x then v else gt bs y:=by
 unfold gt;rw[F4,F4,B98];by_cases e:x=y
 .subst e;simp[h]
 .rw[if_neg e,if_neg (D3 e)]
def ug{bs:List Int}{x:Nat}(h:x<bs.length):dE (bs.map D.int) (x:Int)=some (.int (gt bs x)):=by rw[x8 (v:=.int (gt bs x))];rw[F7,B6 h,DP h];rfl
def Gu{bs:List Int}{x:Nat}(h:x<bs.length):i6 (bs.map D.int).length (x:Int)=some x:=w38 (by simpa using h)
def ym{bs:List Int}{x:Nat}{v:Int}:(bs.map D.int).set x (.int v)=(bs.set x v).map D.int:=by rw[Qh]
def Ov{rs:List Row}{x:Nat}{r:Row}(h:rs[x]?=some r):dE (rs.map Row.d) (x:Int)=some r.d:=x8 (by rw[F7,h];rfl)
def v89:MM v (1*2^i)=eU v i:=by rw[MA,bitXor_and,W.kbt_bit];unfold eU bit;rw[C99,Qe,C85 (2^i) (2*(v / 2^i%2)),Int.mul_assoc 2 (v / 2^i%2) (2^i)];omega
def vn0:P6 (v / 2^j) 1=bit v j:=by rw[bitAnd_m1];rfl
def DJ(v:Int)(j:Nat):bit v j=0\/bit v j=1:=by unfold bit;omega
theorem pow_pos(i:Nat):(0:Int)<2^i:=Int.pow_pos ∅
def vb2(v:Int)(i:Nat):∃a r:Int,v=2^i*(2*a+bit v i)+r/\0<=r/\r<2^i:=by
 apply#[v / 2^i / 2,v%2^i,?_,W4 _ (C86 (pow_pos i)),T6 _ (pow_pos i)];have g:=Int.mul_ediv_add_emod v (2^i);have f:2*(v / 2^i / 2)+bit v i=v / 2^i:=by unfold bit;omega
 rw[f];omega
def xb9{a r p:Int}(f:0<p)(g:0<=r)(h1:r<p):(p*a+r) / p=a:=by rw[Int.add_comm,Int.add_mul_ediv_left _ _ (C86 f),Int.ediv_eq_zero_of_lt g h1];omega
def w41(v:Int)(i:Nat):∃a r:Int,v=2^i*(2*a+bit v i)+r/\eU v i=2^i*(2*a+(1-bit v i))+r/\0<=r/\r<2^i:=by
 let#[a,r,h,g,f]:=vb2 v i;apply#[a,r,h,?_,g,f];have e:eU v i=v+2^i*(1-2*bit v i):=rfl;rw[e];rcases DJ v i with hb|hb
 .rw[hb] at h⊢;have:(2:Int)^i*(1-2*0)=2^i:=()
  have j:(2:Int)^i*(2*a+(1-0))=2^i*(2*a+0)+2^i:=by rw[Fd,Fd];omega
  omega
 .rw[hb] at h⊢;have:(2:Int)^i*(1-2*1)=- 2^i:=()
  have j:(2:Int)^i*(2*a+1)=2^i*(2*a+(1-1))+2^i:=by rw[Fd,Fd];omega
  omega
def wq0(v:Int)(i:Nat):bit (eU v i) i=1-bit v i:=by let#[a,r,h,e,g,f]:=w41 v i;show eU v i / 2^i%2=_;rw[e,xb9 (pow_pos i) g f];rcases DJ v i with hb|hb <;> rw[hb] <;> omega
def wm8(v:Int)(i:Nat):eU (eU v i) i=v:=by
 have e:eU (eU v i) i=eU v i+2^i*(1-2*bit (eU v i) i):=rfl;rw[e,wq0];have f:eU v i=v+2^i*(1-2*bit v i):=rfl;rw[f];have:(1-2*(1-bit v i))=-(1-2*bit v i):=()
 rw[this,Int.mul_neg];omega
def wm7(hi:i<32)(n:0<=v)(h1:v<4294967296):0<=eU v i/\eU v i<4294967296:=by
 let#[a,r,h,e,l,k]:=w41 v i;have f:=pow_pos i;have m:0<=a:=by
  by_cases q:0<=a
  .exact q
  .have:(2:Int)^i*(2*a+bit v i)<=2^i*(-1):=Y9 (by rcases DJ v i with hb|hb <;> omega) (W8 f);omega
 have g:(4294967296:Int)=2^i*(2*2^(31-i)):=by
  have j:(2:Int)*2^(31-i)=2^(32-i):=by rw[C85,<- Int.pow_succ];congr 1;omega
  rw[j,<- Int.pow_add];have:i+(32-i)=32:=()
  rw[this];rfl
 have o:a<2^(31-i):=by
  by_cases q:a<2^(31-i)
  .exact q
  .have:(2:Int)^i*(2*2^(31-i))<=2^i*(2*a+bit v i):=Y9 (by rcases DJ v i with hb|hb <;> omega) (W8 f);omega
 rw[e];constructor
 .have:0<=(2:Int)^i*(2*a+(1-bit v i)):=Int.mul_nonneg (W8 f) (by rcases DJ v i with hb|hb <;> omega);omega
 .have:(2:Int)^i*(2*a+(1-bit v i))<=2^i*(2*2^(31-i)-1):=Y9 (by rcases DJ v i with hb|hb <;> omega) (W8 f);rw[C99,<- g] at this;omega
def Nz{r:Row}(h:cn sz bs)(k:r.ok sz):cn sz (cB s bs r):=by
 have f:∀{g:List Int} {x:Nat} {v:Int},cn sz g->0<=v->v<4294967296->cn sz (g.set x v):=λ{g x v} h p n =>
  #[by rw[J9];exact h.len,λu m=>by
   rcases A20 m with q|q
   .exact h.Em u q
   .subst q;exact⟨p,n⟩]
 cases r with
 | add x o=>exact f h (W4 _ ∅) (T6 _ ∅)| take x o=>exact f h (W4 _ ∅) (T6 _ ∅)| turn x i g =>
  show cn sz (if con bs g=true then bs.set x (eU (gt bs x) i) else bs);split
  .let#[j,hi,_]:=k;let#[a,b]:=Bq h j;let#[c,d]:=wm7 hi a b;exact f h c d
  .exact h
 | swap x y =>let#[j,l,_]:=k;let#[a,b]:=Bq h j;let#[c,d]:=Bq h l;exact f (f h c d) a b| go _ _ _=>exact h| aP _ _ _=>exact h
def DZ{bs:List Int}{x:Nat}(h:x<bs.length):bs.set x (gt bs x)=bs:=by rw[DP h,List.set_getElem_self]
def Vw{s:Int}(E:s=1\/s=-1){sz:Nat}{bs:List Int}{r:Row}(h:cn sz bs)(m:r.ok sz):cB (-s) (cB s bs r) r=bs:=by
 have G:=h.len;cases r with
 | add x o =>
  let#[j,q]:=m;have p:val (bs.set x ((gt bs x+s*val bs o)%4294967296)) o=val bs o:=by
   cases o with
   | num n=>rfl| box y=>show gt _ y=gt bs y;rw[mw (),if_neg q.2]
  show(bs.set x _).set x ((gt (bs.set x _) x+-s*val (bs.set x _) o)%4294967296)=bs;rw[p,mw (),if_pos rfl,MK];have A:=Bq h j;have e:((gt bs x+s*val bs o)%4294967296+-s*val bs o)%4294967296=gt bs x:=by rw[D00];omega
  rw[e,DZ ()]
 | take x o =>
  let#[j,q]:=m;have p:val (bs.set x ((gt bs x-s*val bs o)%4294967296)) o=val bs o:=by
   cases o with
   | num n=>rfl| box y=>show gt _ y=gt bs y;rw[mw (),if_neg q.2]
  show(bs.set x _).set x ((gt (bs.set x _) x - -s*val (bs.set x _) o)%4294967296)=bs;rw[p,mw (),if_pos rfl,MK];have A:=Bq h j;have e:((gt bs x-s*val bs o)%4294967296 - -s*val bs o)%4294967296=gt bs x:=by rw[D00];omega
  rw[e,DZ ()]
 | turn x i f =>
  let#[j,hi,_,B]:=m;show(if con (if con bs f=true then bs.set x (eU (gt bs x) i) else bs) f=true then _ else _)=bs;by_cases g:con bs f=true
  .have u:con (bs.set x (eU (gt bs x) i)) f=true:=by unfold con at g⊢;rw[V4] at g⊢;intro c k;rw[mw (),if_neg (B c k).2.1];exact g c k
   show(if con (if con bs f=true then bs.set x (eU (gt bs x) i) else bs) f=true then(if con bs f=true then bs.set x (eU (gt bs x) i) else bs).set x (eU (gt (if con bs f=true then bs.set x (eU (gt bs x) i) else bs) x) i) else(if con bs f=true then bs.set x (eU (gt bs x) i) else bs))=bs;rw[if_pos g,if_pos u,mw (),if_pos rfl,MK,wm8,DZ ()]
  .show(if con (if con bs f=true then bs.set x (eU (gt bs x) i) else bs) f=true then(if con bs f=true then bs.set x (eU (gt bs x) i) else bs).set x (eU (gt (if con bs f=true then bs.set x (eU (gt bs x) i) else bs) x) i) else(if con bs f=true then bs.set x (eU (gt bs x) i) else bs))=bs;rw[if_neg g,if_neg g]
 | swap x y =>
  let#[j,C,l]:=m;show(((bs.set x (gt bs y)).set y (gt bs x)).set x (gt ((bs.set x (gt bs y)).set y (gt bs x)) y)).set y (gt ((bs.set x (gt bs y)).set y (gt bs x)) x)=bs;rw[mw (by rw[J9];omega),if_pos rfl,mw (by rw[J9];omega),if_neg (D3 l),mw (),if_pos rfl];rw[Qq _ _ l,MK,Qq _ _ (D3 l)];have t:(bs.set x (gt bs y)).set x (gt bs x)=bs:=by rw[MK,DZ ()]
  rw[Qq _ _ l] at *;first
   | (rw[t];exact DZ ())
   | (rw[Qq _ _ (D3 l),t];exact DZ ())
 | go _ _ _=>rfl| aP _ _ _=>rfl
end Rw
namespace Rw
open PySem L2 L3
theorem ul7:∀ks:List Int,(ks.map D.int).mapM (snap G 0)=some (ks.map Sn.int)
 | []=>rfl| k::ks=>by rw[C0,Y5,ul7 ks];rfl
def vb5{G:Gp}{a:Addr}{ks:List Int}(h:bB (G a)=some (ks.map .int)):snap G 1 (.ref a)=some (.lst (ks.map .int)):=by show((bB (G a)).bind λf=>(f.mapM (snap G 0)).map Sn.lst)=_;rw[h,A59,ul7];rfl
def jX(lo:Int)(n:Nat):b_ lo (n+1)=.int lo::b_ (lo+1) n:=by
 unfold b_;rw[B43,C0,P9];congr 1
 .simp
 .apply M9;intro i _;show D.int _=D.int _;congr 1;simp;omega
structure aA(G G':Gp):Prop where
 kp:∀b o,G b=some o->G' b=some o
def aA.refl:aA G G:=#[λ_ _ h=>h]
def aA.trans(a:aA G G1)(b:aA G1 f):aA G f:=#[λc o h=>b.kp c o (a.kp c o h)]
def aA.new(a:aA G G1)(h:G1 p=none):aA G (aH G1 p o):=#[λb u e=>by rw[aB (aL (a.kp b u e) h)];exact a.kp b u e]
def aA.own(a:aA G G1)(h:G p=none):aA G (aH G1 p o):=#[λb u e=>by rw[aB (aL e h)];exact a.kp b u e]
theorem aA.none(a:aA G G1)(h:G1 p=none):G p=none:=by
 cases e:G p with
 | none=>rfl| some o=>rw[a.kp p o e] at h;cases h
end Rw
namespace L3
open PySem PySem.Spec PyProof.Rows L2
def Rl(i j G q):il false (.int i) (.int j) G q=q (.bl (decide (i=j))) G:=rfl
def Rk(i j G q):il true (.int i) (.int j) G q=q (.bl (!decide (i=j))) G:=rfl
def Rj(i j G q):il false (.str i) (.str j) G q=q (.bl (decide (i=j))) G:=rfl
def Ri(i j G q):il true (.str i) (.str j) G q=q (.bl (!decide (i=j))) G:=rfl
def Rh(a c G q):il false (.ref a) (.ref c) G q=∃n g f b,n<=40/\snap G n (.ref a)=some g/\snap G n (.ref c)=some f/\eV n g f=some b/\q (.bl b) G:=rfl
def Rg(a c G q):il true (.ref a) (.ref c) G q=∃n g f b,n<=40/\snap G n (.ref a)=some g/\snap G n (.ref c)=some f/\eV n g f=some b/\q (.bl (!b)) G:=rfl
def Rf(a c G q):il false (.tup a) (.tup c) G q=∃n g f b,n<=40/\snap G n (.tup a)=some g/\snap G n (.tup c)=some f/\eV n g f=some b/\q (.bl b) G:=rfl
def Rc(a c G q):il true (.tup a) (.tup c) G q=∃n g f b,n<=40/\snap G n (.tup a)=some g/\snap G n (.tup c)=some f/\eV n g f=some b/\q (.bl (!b)) G:=rfl
def Rb(i j G q):mN (.int i) (.int j) G q=q (.int (i+j)) G:=rfl
def Ra(i j G q):xN (.int i) (.int j) G q=(jb i j/\q (.int (i*j)) G):=rfl
def xh1(a k G q):xN (.ref a) (.int k) G q=(match G a with|some (.lst xs)=>(-(2^63)<=k/\k<2^63/\xs.length*k.toNat<=sizeLine)/\∀p,G p=none->q (.ref p) (aH G p (.lst (D2 k.toNat xs).flatten))|_=>False):=rfl
def xh0(i j G q):Rp (.int i) (.int j) G q=q (.bl (decide (i<j))) G:=rfl
def xg9(ds i G q):Bf (.tup ds) (.int i) G q=(match dE ds i with|some d=>q d G|none=>False):=rfl
def xg8(a i G q):Bf (.ref a) (.int i) G q=(match bB (G a) with|some ds=>(match dE ds i with|some d=>q d G|none=>False)|none=>False):=rfl
def xg7(xs G q):xO [.tup xs] G q=q (.int xs.length) G:=rfl
def xg6(a G q):xO [.ref a] G q=(match bB (G a) with|some xs=>q (.int xs.length) G|none=>False):=rfl
def QZ(f i j G q):mM f (.int i) (.int j) G q=q (.int (f i j)) G:=rfl
def QY(C f i j G q):zA C f (.int i) (.int j) G q=(C i j/\q (.int (f i j)) G):=rfl
def QX(i j G q):xLe (.int i) (.int j) G q=q (.bl (decide (i<=j))) G:=rfl
def QW(i j G q):xGt (.int i) (.int j) G q=q (.bl (decide (j<i))) G:=rfl
def QV(i j G q):xGe (.int i) (.int j) G q=q (.bl (decide (j<=i))) G:=rfl
def QU(i G q):xM (.int i) G q=q (.int (-i)) G:=rfl
def QT(a k v G q):Be (.ref a) (.int k) v G q=(match G a with|some (.lst ds)=>(match i6 ds.length k with|some j=>q (aH G a (.lst (ds.set j v)))|none=>False)|_=>False):=rfl
def QS(a lo hi G q):DU (.ref a) lo hi G q=(match bB (G a) with|some ds=>∀p,G p=none->q (.ref p) (aH G p (.lst (cutD ds lo hi)))|none=>False):=rfl
def QR(ds lo hi G q):DU (.tup ds) lo hi G q=(¬ (HT.bU ds.length 0 lo=0/\HT.bU ds.length ds.length hi=ds.length)/\q (.tup (cutD ds lo hi)) G):=rfl
def QQ(x G q):Fu x .non G q=(match x with|.non=>q (.bl true) G|_=>q (.bl false) G):=rfl
def xg5(x b G q):Fu x (.bl b) G q=(match x with|.bl c=>q (.bl (decide (c=b))) G|_=>q (.bl false) G):=rfl
def xg4(x G q):NX x .non G q=(match x with|.non=>q (.bl false) G|_=>q (.bl true) G):=rfl
def xg3(x b G q):NX x (.bl b) G q=(match x with|.bl c=>q (.bl (!decide (c=b))) G|_=>q (.bl true) G):=rfl
def xg2(i G q):Bh [.int i] G q=q (.int (if i<0 then -i else i)) G:=rfl
def xg1(i j G q):U' [.int i,.int j] G q=(zo i j/\q (.tup [.int (i / j),.int (i%j)]) G):=rfl
def xg0(i j G q):xh7 [.int i,.int j] G q=q (.int (if j>i then j else i)) G:=rfl
def xf9(i j G q):TV [.int i,.int j] G q=q (.int (if j<i then j else i)) G:=rfl
def xf8(i G q):ND [.int i] G q=q (.int i) G:=rfl
def xf7(b G q):ND [.bl b] G q=q (.int (if b then 1 else 0)) G:=rfl
def xf6(xs G q):NY [.tup xs] G q=∀p,G p=none->q (.ref p) (aH G p (.lst xs)):=rfl
def xf5(a G q):NY [.ref a] G q=(match bB (G a) with|some xs=>∀p,G p=none->q (.ref p) (aH G p (.lst xs))|none=>False):=rfl
def xf4(xs G q):Oh [.tup xs] G q=q (.tup xs) G:=rfl
def xf3(a G q):Oh [.ref a] G q=(match bB (G a) with|some xs=>q (.tup xs) G|none=>False):=rfl
def xf2(a G q):Rq [.ref a] G q=(match bB (G a) with|some xs=>(match Rt xs with|some bs=>q (.bl (bs.all id)) G|none=>False)|none=>False):=rfl
def xf1(x T G q):Va [x,.ty T] G q=((T = "int" \/ T = "str" \/ T = "bool" \/ T = "list" \/ T = "tuple" \/ T = "dict")/\(match DB G x with|some n=>q (.bl (sH n T)) G|none=>False)):=rfl
def xf0(a d G q):Ga (.ref a) [d] G q=(match G a with|some (.lst xs)=>xs.length<sizeLine/\q .non (aH G a (.lst (xs++[d])))|_=>False):=rfl
def xe9(a b G q):NJ (.ref a) [.ref b] G q=(match G a,G b with|some (.lst xs),some (.lst ys)=>xs.length+ys.length<=sizeLine/\q .non (aH G a (.lst (xs++ys)))|_,_=>False):=rfl
def xe8(a G q):wk1 (.ref a) [] G q=(match G a with|some (.lst _)=>q .non (aH G a (.lst []))|_=>False):=rfl
def Xa{g h:Type}(f:g->h)(a:g)(l:List g):Dr f (a::l)=f a::Dr f l:=rfl
def W'{h g:Type}(f:h->g):Dr f []=[]:=rfl
end L3
namespace L2
open PySem PySem.Spec PyProof.Rows
section
variable{X:Cx}{e:Expr}{st:Expr}{te:TE}{ts:TO}{pos p2:Pos}
def vd2(its:List Value):PY its.toArray none none (some (-1))=its.reverse.toArray:=by
 unfold PY Bb sliceRange;simp only[Option.getD_some,show¬ ((-1:Int)>0) by decide,if_false,E2];congr 1;have u:(if(its.length:Int)-1 > -1 then((its.length:Int)-1 - -1 - -1-1) / (- -1) else 0).toNat=its.length:=by
  cases its with
  | nil=>rfl| cons x xs =>rw[if_pos (by simp;omega)];simp
 rw[u,B82];apply List.ext_getElem?;intro i;have t:∀(n:Nat) (f:Nat->Option Value),(∀k,k<n->∃v,f k=some v)->∀i,((E6 n).filterMap f)[i]?=if i<n then f i else none:=by
  intro n f h;obtain⟨g,o⟩:∃g:Nat->Value,∀k,k<n->f k=some (g k):=#[λk=>(f k).getD .none,λk j=>by let#[v,r]:=h k j;show f k=some ((f k).getD .none);rw[r];rfl];have e:(E6 n).filterMap f=(E6 n).map g:=by
   have go:∀l:List Nat,(∀k∈l,k<n)->l.filterMap f=l.map g:=by
    intro l;induction l with
    | nil=>intro _;rfl| cons k l p=>intro m;rw[QL,o k (m k C6),C0,p λz q=>m z (C2 _ q)]
   exact go _ λk j=>L0.mp j
  intro i;rw[e,F7];by_cases hi:i<n
  .rw[B69 hi,if_pos hi,o i hi];rfl
  .rw[M8 (by simpa using hi),if_neg hi];rfl
 rw[t]
 .by_cases hi:i<its.length
  .rw[if_pos hi,A54 hi];show its.toArray[((its.length:Int)-1+-1*(i:Int)).toNat]?=_;have:((its.length:Int)-1+-1*(i:Int)).toNat=its.length-1-i:=()
   rw[this];simp
  .rw[if_neg hi,M8 (by simpa using hi)]
 .intro k j;show∃v,its.toArray[((its.length:Int)-1+-1*(k:Int)).toNat]?=some v;have:((its.length:Int)-1+-1*(k:Int)).toNat=its.length-1-k:=()
  rw[this];exact#[its[its.length-1-k]'(),by simp]
def wu6(K:W.Frag)(te:TE)(ts:TO):TE:=λg H Q=>te g H λx h=>ts g h λk f=>k=some (-1)/\∃a xs,x=.ref a/\eR K f a xs/\∀p,f p=none->Q (.ref p) (upd f p (.lst xs.reverse))
def wi8(N:PE X e te)(M:PO X (some st) ts):PE X (.Subscript e (.Slice none none (some st) p2) pos) (wu6 X.K te ts):=by intro pins s g H Q I h;apply Qa (bg (N pins s g H _ I h) λv t ⟨x,S,O,u,B⟩=>?_);apply wpAny_Slice ?_;rw[ZU];apply C4 (C4 (bg (M pins t g S _ O B) λl f ⟨k,R,I3,C,y⟩=>?_));let#[rfl,a,xs,rfl,L,q]:=y;cases u;have j:Inv X pins g R { f with heap:=f.heap.push { cls:=.type "slice",data:=.fields [.none,.none,l].toArray}}:=I3.kept (t':=f.toks) λb G q=>B8 _ q;let#[its,r,m,J]:=j.list L;have n:=r.length;show wpAny (model X.prog X.w) X.A (Qo e (.Slice none none (some st) p2) (.ref a) (.ref f.heap.objs.size)) (EP X pins g Q) X.xe { f with heap:=f.heap.push { cls:=.type "slice",data:=.fields [.none,.none,l].toArray}};apply Zt (ops:=[.ref a,.ref f.heap.objs.size]) m.isList.typeIs B08.lookup ?_ (by with_unfolding_all rfl);apply wpAny_getItem_list_slice m.isList (B83 ..) .none .none C ∅ ?_ (by rw[E2] <;> omega);rw[vd2];apply#[.ref _,_,j.laid (t':=f.toks) (o:=.lst xs.reverse) (λb G q=>B8 _ q) (B9 _) ?_,rfl,q _ (j.aE.fresh (B9 _))];exact#[by rw[R8];exact J,_,0,r.reverse,E4 _ rfl]
end
end L2
namespace L3
open PySem PySem.Spec PyProof.Rows L2
section
variable{X:Cx}{e:Expr}{te:bC}{pos p2 p3 p4:Pos}{K:W.Frag}{σ:L2.St}{H:Hp}{Q:VK}
def Na(te:bC):bC:=λσ G q=>te σ G λx f=>match x with
 | .ref a=>(match bB (f a) with|some g=>∀p,f p=none->q (.ref p) (aH f p (.lst g.reverse))|none=>False)
 | _=>False
def vu0(h:aJ K (Na te) σ H Q):wu6 K (aJ K te) (qv K (Dz (Pz xM (dC (.int 1))))) σ H Q:=by
 let#[g,G,q,k,c,t,f]:=h;apply#[g,G,_,k,c,t,λx n v I u c1 l i=>#[g,n,λo m=>o=some (-1)/\m=n,k.le l,c1,#[rfl,rfl],λo m E c2 A B=>?_]];let#[rfl,rfl]:=B;apply#[rfl,?_];split at i
 .rename_i a;split at i
  .rename_i C e;let#[xs,r,y]:=e_ c2 e;exact#[a,xs,u.ar,r,λp j=>f _ _ _ _ ae.fe (c2.cP j y.reverse) ((l.trans A).trans (Le.fresh j)) (i p (c2.fresh j))]
  .exact i.elim
 .exact i.elim
def w45(f:E3 X e te):E3 X (.Subscript e (.Slice none none (some (.UnaryOp .USub (.Constant (.int 1) k p3) p4)) p2) pos) (Na te):=dX (wi8 f (DT (sW FN ao))) λ_ _ _=>vu0
end
def strsOf:List D->Option (List Str)
 | []=>some []| .str x::r=>(strsOf r).map (x::·)| _=>none
def intsOf:List D->Option (List Int)
 | []=>some []| .int x::r=>(intsOf r).map (x::·)| _=>none
section
variable{X:Cx}{K:W.Frag}{H:Hp}
theorem VR:∀{ds:List D} {f:List Str} {vs:List V},strsOf ds=some f->ag K H ds vs->vs=f.map V.str
 | [],f,vs,e,r=>by cases e;rw[r.a_];rfl
 | .str b::ds,f,vs,e,r=>by let#[x,xs,rfl,i,h]:=r.ay;let#[g,j,rfl]:=F6.mp (show(strsOf ds).map (b::·)=some f from e);rw[i.str_inv,VR j h];rfl| .non::_,_,_,e,_=>by cases e
 | .bl _::_,_,_,e,_=>by cases e
 | .int _::_,_,_,e,_=>by cases e
 | .tup _::_,_,_,e,_=>by cases e
 | .ref _::_,_,_,e,_=>by cases e
 | .ty _::_,_,_,e,_=>by cases e
theorem VO:∀{ds:List D} {f:List Int} {vs:List V},intsOf ds=some f->ag K H ds vs->vs=f.map V.int
 | [],f,vs,e,r=>by cases e;rw[r.a_];rfl
 | .int b::ds,f,vs,e,r=>by let#[x,xs,rfl,i,h]:=r.ay;let#[g,j,rfl]:=F6.mp (show(intsOf ds).map (b::·)=some f from e);rw[i.int_inv,VO j h];rfl| .non::_,_,_,e,_=>by cases e
 | .bl _::_,_,_,e,_=>by cases e
 | .str _::_,_,_,e,_=>by cases e
 | .tup _::_,_,_,e,_=>by cases e
 | .ref _::_,_,_,e,_=>by cases e
 | .ty _::_,_,_,e,_=>by cases e
def vi4{w:Str}{f:List Str}:Ey (V.str w) (f.map V.str)=decide (w∈f):=by
 unfold Ey;induction f with
 | nil=>rfl| cons x xs g =>
  rw[C0,O7,g];show((x==w)||decide (w∈xs))=_;by_cases h:x=w
  .subst h;simp
  .have i:¬ w=x:=λe=>h e.symm;have:(x==w)=false:=by simpa using h
   rw[this];simp[i]
def vi5{w:Int}{f:List Int}:Ey (V.int w) (f.map V.int)=decide (w∈f):=by
 unfold Ey;induction f with
 | nil=>rfl| cons x xs g =>
  rw[C0,O7,g];show((x==w)||decide (w∈xs))=_;by_cases h:x=w
  .subst h;simp
  .have i:¬ w=x:=λe=>h e.symm;have:(x==w)=false:=by simpa using h
   rw[this];simp[i]
theorem VG:∀f:List Str,(f.map V.str).all ub=true
 | []=>rfl| _::f=>by rw[C0,V3,VG f];rfl
theorem VF:∀f:List Int,(f.map V.int).all ub=true
 | []=>rfl| _::f=>by rw[C0,V3,VF f];rfl
def jj(neg:Bool):R3:=λx y G q=>match x,y with
 | .str w,.tup g=>(match strsOf g with|some f=>q (.bl (if neg then !decide (w∈f) else decide (w∈f))) G|none=>False)
 | .str w,.ref a=>(match bB (G a) with|some g=>(match strsOf g with|some f=>q (.bl (if neg then !decide (w∈f) else decide (w∈f))) G|none=>False)|none=>False)
 | .int w,.tup g=>(match intsOf g with|some f=>q (.bl (if neg then !decide (w∈f) else decide (w∈f))) G|none=>False)
 | .int w,.ref a=>(match bB (G a) with|some g=>(match intsOf g with|some f=>q (.bl (if neg then !decide (w∈f) else decide (w∈f))) G|none=>False)|none=>False)
 | _,_=>False
def x86{neg:Bool}{x y:V}{Q:VK}(h:j3 K (jj neg) x y H Q):rIn K neg x y H Q:=by
 let#[d,e,G,q,m,l,c,t,f]:=h;unfold jj at t;cases d <;> cases e <;> first|exact t.elim|dsimp only at t
 .rename_i w n;split at t
  .rename_i g k;let#[a,xs,rfl,i,j]:=l.aS;cases m.int_inv;obtain rfl:=VO k j;exact#[a,_,rfl,.inr i,rfl,VF g,f _ _ _ _ (by rw[vi5];exact ae.mI) c (Le.refl H) t]
  .exact t.elim
 .rename_i w a;split at t
  .rename_i n eq;split at t
   .rename_i g k;let#[xs,i,j]:=e_ c eq;cases m.int_inv;obtain rfl:=VO k j;exact#[a,_,l.ar,.inl i,rfl,VF g,f _ _ _ _ (by rw[vi5];exact ae.mI) c (Le.refl H) t]
   .exact t.elim
  .exact t.elim
 .rename_i w n;split at t
  .rename_i g k;let#[a,xs,rfl,i,j]:=l.aS;cases m.str_inv;obtain rfl:=VR k j;exact#[a,_,rfl,.inr i,rfl,VG g,f _ _ _ _ (by rw[vi4];exact ae.mI) c (Le.refl H) t]
  .exact t.elim
 .rename_i w a;split at t
  .rename_i n eq;split at t
   .rename_i g k;let#[xs,i,j]:=e_ c eq;cases m.str_inv;obtain rfl:=VR k j;exact#[a,_,l.ar,.inl i,rfl,VG g,f _ _ _ _ (by rw[vi4];exact ae.mI) c (Le.refl H) t]
   .exact t.elim
  .exact t.elim
def t9(_:aU k A):fT X (L6 .In) (jj false):=tH ve1 λ_ _ _ _ h=>x86 h
end
end L3
namespace L2
open PySem PySem.Spec PyProof.Rows
def Zl(K:W.Frag)(a:Addr):It:=#[λi H=>∃xs x,eR K H a xs/\xs[i]?=some x,λi H v f=>∃p x,v=.ref p/\H p=none/\f=upd H p (.tup [.int (i:Int),x])/\∀xs,eR K H a xs->xs[i]?=some x,λi H=>∃xs,eR K H a xs/\xs.length<=i]
def Inv.yj{h':Heap}(I:Inv X pins l H s)(k:∀b o,b≠e->b≠it->s.heap.get? b=some o->h'.get? b=some o) (f:∀b∈[e,it],iN X pins H b) (new:bu X.prog X.w (upd H s.heap.objs.size o) h' s.heap.objs.size o):Inv X pins l (upd H s.heap.objs.size o) { s with heap:=h',toks:=t'}:=by
 have t:H s.heap.objs.size=none:=I.aE.fresh (B9 _);have f1:=f e (by simp);have f2:=f it (by simp);have old:∀b u,H b=some u->b≠s.heap.objs.size:=λb u q z=>by rw[z,t] at q;cases q
 have j:∀b u,H b=some u->b≠e/\b≠it:=λb u q=>#[λz=>(by rw[z,f1.1] at q;cases q),λz=>(by rw[z,f2.1] at q;cases q)];have h:∀{b:Addr},b∉[e,it]->b≠e/\b≠it:=λg=>#[λz=>g (by simp[z]),λz=>g (by simp[z])];apply I.step (g':=s.gens) (d':=s.drawn) (ch:=[e,it]) (λb i=>?_) (λb o _ _ g q _=>k b o (h g).1 (h g).2 q) (λb o _ _ g q _=>#[o.slots,k b o (h g).1 (h g).2 q]) (λb u _ q n=>?_)
  (λb o g q=>#[o,k b o (h g).1 (h g).2 q]) (λb xs q=>?_) (λb o u q=>?_) (λb G q=>#[[].toArray,?_]) (λm x=>?_) (λb u q=>?_) I.bare
 .let#[J,g1,g2,g3,B,A]:=f b i;exact#[g3,g1,B,A]
 .rw[c_ (J7 (D8 q))];exact n
 .rw[c_ (old b _ q)];exact q
 .rw[c_ (old b _ q)];exact q
 .rw[c_ (old b _ q),q];simp
 .let#[o,C,E,p,r]:=x;exact#[o,C,E,k _ o (D3 f1.2.1) (D3 f2.2.1) p,r]
 .by_cases i:b=s.heap.objs.size
  .subst i;rw[iq] at q;cases q;exact new
  .rw[c_ i] at q;apply(I.aE b u q).gq (λc v g z=>?_) (λc z=>by rw[c_ (old c _ z)];exact z) (λc xs z=>by rw[c_ (old c _ z)];exact z) λc _ _ z=>by rw[c_ (old c _ z)];exact z
   rcases g with y|y
   .subst y;exact k _ v (j _ u q).1 (j _ u q).2 z
   .exact k c v (j c _ y).1 (j c _ y).2 z
def va5{P:Program}{w:World}{K:W.Frag}{m:List Expr}{x1}{pos:Pos}(a e it:Addr)(S:e≠it):Turn P w K (.Tuple m x1 pos) (Zl K a) [e,it] e (λi h=>(∃old,IsEnum h e it (i:Int) old)/\h.IsListIter it a i) where
 mem:=by simp
 obj:=λi h st b j=>by
  let#[#[old,f],g]:=st;rcases D7.mp j with q|q
  .subst q;exact⟨_,f,λv z=>by have Y:C94 _=D30 v:=z;cases Y⟩
  .have q:b=it:=by simpa using q
   subst q;let#[o,e,c,d]:=g;exact#[o,e,λv z=>by rw[d] at z;cases z]
 keep:=λi h h' st k=>#[st.1.elim λold q=>#[old,k e (by simp) _ q],st.2.at λo q=>k it (by simp) o q]
 item:=by
  intro X M hw N Q i pins s U H E I t st L;subst M hw N;let#[#[old,f],g]:=st;let#[xs,x,r,B]:=L;let#[its,A,p,hz]:=I.list r;let#[u,hu,ru]:=A.get B;have l:e<s.heap.objs.size:=D8 f;have hn:H s.heap.objs.size=none:=I.aE.fresh (B9 _);apply wpAny_pyNext_enum_item f g p.isList (x:=u) (by simpa using hu) S λh1 ho Yf G Ce J=>?_;apply#[_,rfl,wpAny_letOwnedTupleGo_enum ho λR JR n=>?_];replace n:U9 e h1 R:=n;have EE:∀b o,b≠e->b≠it->s.heap.get? b=some o->R.get? b=some o:=λb o O Z q=>(n.2 b O).trans (J b o O Z q);have C:=(n.2 s.heap.objs.size (Z1 l)).trans G;apply#[.ref s.heap.objs.size,upd H s.heap.objs.size (.tup [.int (i:Int),x]),I.yj (t':=s.toks+1) EE t ?_,rfl,#[_,x,rfl,hn,rfl,λys hy=>by rw[I.jw hy r];exact B],#[#[u,by simpa using JR],?_],λb j=>?_]
  .exact#[show 2<=sizeLine by decide,[.int i s.toks,u],.cons #[s.toks,rfl] (.cons ru .nil),#[_,C,rfl,#[_,rfl],rfl]]
  .exact Yf.at λo q=>(n.2 it (D3 S)).trans q
  .rw[c_ ?_];exact(t b j).1;intro z;rcases D7.mp j with q|q
   .exact J7 l (q▸z)
   .have q:b=it:=by simpa using q
    let#[o,y,_]:=g;exact J7 (D8 y) (q▸z)
 done:=by intro X M hw N Q i pins s U H E I t st L;subst M hw N;let#[#[old,f],g]:=st;let#[xs,r,B]:=L;let#[its,A,p,hz]:=I.list r;let#[f0,f1,f2,f3,f4,f5]:=t it (by simp);have hl:=A.length;exact wpAny_pyNext_enum_end (I.ok.hd Q) f g p.isList (by simp;omega) λh' eb=>#[rfl,I.turned (t':=s.toks) (λb o j q=>eb b o j q) f0 f1 f3 f4 f5]
 self:=λ_ _ _ _ _ st h=>st.1.elim λ_ q=>wpAny_pyIter_enum q h
def xa6(K:W.Frag)(i:TA):TI:=λg H R=>i g H λh f=>∃a,h=[.ref a]/\(∃xs,eR K f a xs)/\R (Zl K a) f
def vm4:R5 "enumerate" = some (.type "enumerate"):=∅
def wh5{X:Cx}{g:List Expr}{u}{C:Pos}{a:Expr}{n:TA}{p pos:Pos}(M:Gl X "enumerate")(J:X.mg "enumerate" = none)(N:PA X [a] n)(E:D1 [a] X.env=[(false,eval a X.env)]:=by rfl):
  PI X (.Tuple g u C) (.Call (.Name "enumerate" p) [a] [] pos) (xa6 X.K n):=by
 intro pins s m H R I h;apply Call_ (sE I M J vm4 (K1 (bg (N pos pins s m H _ I h) λU f ⟨S,t,j,y,A⟩=>?_) E rfl));let#[l,e,#[xs,G],q]:=A;subst e;cases y with
 | cons r x =>
  cases x;cases r;let#[its,Z,B,hz]:=j.list G;apply call_enumerate_list B.isList λO o k hsz L=>?_;apply wpAny_pyIter_enum o ?_;have Q:Inv X pins m t { f with heap:=O}:=j.kept (t':=f.toks) L;apply#[f.heap.objs.size+1,[f.heap.objs.size+1,f.heap.objs.size],_,_,t,rfl,Q,va5 l _ _ (Nat.succ_ne_self _),#[#[.none,o],k],λb i=>?_,q];have i:f.heap.objs.size<=b:=by
   rcases D7.mp i with z|z
   .rw[z];exact V2 _
   .have e:b=f.heap.objs.size:=by simpa using z
    rw[e];exact B9 _
  exact j.qD i (j.aE.fresh i)
end L2
namespace L3
open PySem PySem.Spec PyProof.Rows L2
def xA:Nat->List D->List D
 | _,[]=>[]| i,d::r=>.tup [.int (i:Int),d]::xA (i+1) r
theorem VM:∀{i:Nat} {ds:List D},(xA i ds).length=ds.length
 | _,[]=>rfl| _,_::r=>by show(xA _ r).length+1=r.length+1;rw[VM]
theorem vj4:∀{j i:Nat} {ds:List D} {d:D},ds[i]?=some d->(xA j ds)[i]?=some (.tup [.int ((j+i:Nat):Int),d])
 | j,0,d::r,_,h=>by cases h;rfl
 | j,i+1,d::r,e,h=>by have:=vj4 (j:=j+1) (i:=i) (ds:=r) (d:=e) (by simpa using h);show(xA (j+1) r)[i]?=_;rw[this,show j+1+i=j+(i+1) by omega]| _,_,[],_,h=>by simp at h
def v76{K:W.Frag}{h:Hp}{a:Addr}{ds:List D}:jJ K h #[xA 0 ds,λG=>bB (G a)=some ds] (Zl K a) where
 go:=λi G H l c ok hi=>by let#[xs,s,r]:=e_ c ok;rw[VM] at hi;exact#[xs,xs[i]'(by rw[<- r.length];exact hi),s,B6 _]
 stop:=λi G H l c ok hi=>by let#[xs,s,r]:=e_ c ok;rw[VM] at hi;exact#[xs,s,by rw[<- r.length];exact hi]
 qO:=λi G H x k l c ok hi y=>by let#[p,v,rfl,f,rfl,y]:=y;let#[xs,s,r]:=e_ c ok;let#[d,g,rd]:=r.at_ (y xs s);apply#[c.side f,Le.fresh f,.tup [.int (i:Int),d],by rw[vj4 g,L5],?_];rw[ae];exact#[p,_,rfl,eF.of iq,.cons ae.de (.cons (ae.le (Le.fresh f) rd) .nil)]
def FJ(t:eW):tX:=λh G r=>t h G λf g=>match f with
 | [.ref a]=>(match bB (g a) with|some f=>r #[xA 0 f,λG=>bB (G a)=some f] g|none=>False)
 | _=>False
def vg1{K:W.Frag}{t:eW}{j:L2.St}{H:Hp}{R:It->Hp->Prop}(h:ni K (FJ t) j H R):xa6 K (eh K t) j H R:=by
 let#[i,G,q,m,c,t,f]:=h;apply#[i,G,_,m,c,t,λp y r x n c1 o g=>?_];split at g
 .rename_i a;split at g
  .rename_i p e;let#[v,rfl,l]:=n.one;cases l.ar;let#[xs,k,u]:=e_ c1 e;exact#[a,rfl,#[xs,k],f _ _ _ _ v76 c1 o g]
  .exact g.elim
 .exact g.elim
def VS{g}(k:Gl X "enumerate")(j:X.mg "enumerate" = none)(l:A3 X [a] h)(i:D1 [a] X.env=[(false,eval a X.env)]:=by rfl):
  I3 X (.Tuple f g m) (.Call (.Name "enumerate" p) [a] [] pos) (FJ h):=DH (wh5 k j l i) λ_ _ _=>vg1
end L3
namespace L2
open PySem PySem.Spec PyProof.Rows
def Zi(K:W.Frag)(a:Addr)(n:Nat):It:=#[λi H=>i<n/\∃xs,eR K H a xs/\xs.length=n,λi H x f=>f=H/\∀xs,eR K H a xs->xs[n-1-i]?=some x,λi _=>n<=i]
def vo8{P:Program}{w:World}{K:W.Frag}{tg:Expr}(a it:Addr)(n:Nat):Turn P w K tg (Zi K a n) [it] it (λi h=>i<=n/\h.IsRevIter it a ((n:Int)-1-(i:Nat))) where
 mem:=by simp
 obj:=λi h st b f=>by
  have e:b=it:=by simpa using f
  subst e;let#[o,e,c,d]:=st.2;exact#[o,e,λv z=>by rw[d] at z;cases z]
 keep:=λi h m st k=>#[st.1,st.2.at λo e=>k it (by simp) o e]
 item:=by
  intro X r hw t Q i pins s J H E I l st j;subst r hw t;let#[hi,xs,O,hn]:=j;let#[its,L,p,hz]:=I.list O;have hl:=L.length;let#[C,f1,f2,B,A,y]:=l it (by simp);have N:xs[n-1-i]?=some (xs[n-1-i]'()):=B6 _;let#[u,hu,U]:=L.get N;have G:(n:Int)-1-(i:Nat)=((n-1-i:Nat):Int):=()
  have g:=st.2;rw[G] at g;apply wpAny_pyNext_rev_item g p.isList (x:=u) (by simpa using hu) λm M S=>?_;have I1:Inv X pins J H { s with heap:=m}:=I.turned (t':=s.toks) (λb o f e=>(S.2 b f).trans e) C f1 B A y;let#[o,e,c,d]:=id M;apply#[u,rfl,FE (s:={ s with heap:=m}) e c d ∅ #[_,H,I1,U,#[rfl,λys Z=>by rw[I.jw Z O];exact N],#[(),?_],λb f=>(l b f).1]];have e2:(n:Int)-1-((i+1:Nat):Int)=((n-1-i:Nat):Int)-1:=()
  rw[e2];exact M
 done:=by
  intro X r hw t Q i pins s J H E I l st j;subst r hw t;have j:n<=i:=j;let#[C,f1,f2,B,A,y]:=l it (by simp);have G:(n:Int)-1-(i:Nat)=-1:=by have:=st.1;omega
  have g:=st.2;rw[G] at g;exact wpAny_pyNext_rev_end (I.ok.hd Q) g λm eb=>#[rfl,I.turned (t':=s.toks) (λb o f q=>eb b o f q) C f1 B A y]
 self:=λ_ _ _ _ _ st h=>wpAny_pyIter_revIter st.2 h
def Jm(K:W.Frag)(i:TA):TI:=λg H R=>i g H λh f=>∃a xs,h=[.ref a]/\eR K f a xs/\R (Zi K a xs.length) f
def wx0{X:Cx}{tg:Expr}{a:Expr}{j:TA}{p pos:Pos}(C:Gl X "reversed")(B:X.mg "reversed" = none)(G:PA X [a] j)(y:D1 [a] X.env=[(false,eval a X.env)]:=by rfl):
  PI X tg (.Call (.Name "reversed" p) [a] [] pos) (Jm X.K j):=by
 intro pins s i H R I h;apply Call_ (sE I C B boot_reversed (K1 (bg (G pos pins s i H _ I h) λN f ⟨M,k,g,t,u⟩=>?_) y rfl));let#[l,xs,e,A,q]:=u;subst e;cases t with
 | cons r n =>
  cases n;cases r;let#[its,m,x,Q]:=g.list A;have S:=m.length;apply call_reversed_list x.isList ?_;have st:(f.heap.push (revObj l ((its.toArray.size:Int)-1))).IsRevIter f.heap.objs.size l ((its.toArray.size:Int)-1):=#[_,E4 _ rfl,rfl,rfl];have L:Inv X pins i k { f with heap:=f.heap.push (revObj l ((its.toArray.size:Int)-1))}:=g.kept (t':=f.toks) λb o e=>B8 _ e;apply wpAny_pyIter_revIter st ?_;apply#[f.heap.objs.size,[f.heap.objs.size],_,_,k,rfl,L,vo8 l _ xs.length,#[J4 _,?_],λb E=>?_,q]
  .have J:(xs.length:Int)-1-((0:Nat):Int)=(its.toArray.size:Int)-1:=by simp;omega
   rw[J];exact st
  .have e:b=f.heap.objs.size:=by simpa using E
   subst e;exact g.qD (B9 _) (g.aE.fresh (B9 _))
end L2
namespace L3
open PySem PySem.Spec PyProof.Rows L2
def vi1{K:W.Frag}{h:Hp}{a:Addr}{ds:List D}{n:Nat}(f:ds.length=n):jJ K h #[ds.reverse,λG=>bB (G a)=some ds] (Zi K a n) where
 go:=λi G H l c ok hi=>by let#[xs,s,r]:=e_ c ok;rw[R8] at hi;exact#[(),xs,s,by rw[<- r.length];exact f]
 stop:=λi G H l c ok hi=>by rw[R8] at hi;show n<=i;omega
 qO:=λi G H x k l c ok hi y=>by let#[rfl,y]:=y;let#[xs,s,r]:=e_ c ok;rw[R8] at hi;let#[d,g,rd]:=r.at_ (y xs s);apply#[c,Le.refl _,d,?_,rd];rw[A54 hi,f];exact g
def Bj(t:eW):tX:=λh G r=>t h G λf g=>match f with
 | [.ref a]=>(match bB (g a) with|some f=>r #[f.reverse,λG=>bB (G a)=some f] g|none=>False)
 | _=>False
def vs3{K:W.Frag}{t:eW}{j:L2.St}{H:Hp}{R:It->Hp->Prop}(h:ni K (Bj t) j H R):Jm K (eh K t) j H R:=by
 let#[i,G,q,m,c,t,f]:=h;apply#[i,G,_,m,c,t,λr y u x n c1 p g=>?_];split at g
 .rename_i a;split at g
  .rename_i r e;let#[v,rfl,l]:=n.one;cases l.ar;let#[xs,k,o]:=e_ c1 e;exact#[a,xs,rfl,k,f _ _ _ _ (vi1 o.length) c1 p g]
  .exact g.elim
 .exact g.elim
def v78(i:Gl X "reversed")(h:X.mg "reversed" = none)(j:A3 X [a] f)(g:D1 [a] X.env=[(false,eval a X.env)]:=by rfl):
  I3 X tg (.Call (.Name "reversed" p) [a] [] pos) (Bj f):=DH (wx0 i h j g) λ_ _ _=>vs3
end L3
namespace Law
open PySem L2 L3 Rw
def px(h:0<=v):∃x:Nat,v=(x:Int):=#[v.toNat,()]
def wv7{m:Nat}(h:m<=100000):-(2^62)<=(m:Int)/\(m:Int)<2^62:=#[(),()]
structure cF(G:Gp)(st:Addr):Prop where
 ex:∃(a:Addr) (ns:List Int) (k r:Int),G st=some (.lst [.ref a,.int k,.int r])/\G a=some (.sV (ns.map .int))/\0<=k/\0<=r/\a≠st/\ns.length<=63
structure cI(st:Addr)(G G':Gp):Prop where
 at_:cF G' st
 kp:∀b o,b≠st->G b=some o->G' b=some o
structure vd(a:Addr)(bs:List Int)(G G':Gp):Prop where
 at_:G' a=some (.lst (bs.map .int))
 kp:∀b,b≠a->G' b=G b
def cy(f g:Addr)(s:Nat):List (Str×D):=[("rows",.ref f),("held",.ref g),("spot",.int (s:Int))]
structure bc(C:Addr)(G:Gp)(p ra ha:Addr)(rs:List Row)(bs:List Int)(s:Nat):Prop where
 ob:G p=some (.ins C (cy ra ha s))
 ro:G ra=some (.lst (rs.map Row.d))
 he:G ha=some (.lst (bs.map .int))
 ne:ra≠ha
structure gF(sz:Nat)(rs:List Row)(bs:List Int)(s:Nat):Prop where
 bo:cn sz bs
 ro:∀r∈rs,r.ok sz
 le:s<=rs.length
def bw(rs:List Row)(bs:List Int)(s:Nat):Bool:=match rs[s]? with
 | none=>false| some (.aP x n _)=>!decide (gt bs x=n)| some _=>true
def cx(rs:List Row)(bs:List Int)(s:Nat):Bool:=if s=0 then false else match rs[s-1]? with
 | none=>false| some (.go x n _)=>!decide (gt bs x=n)| some _=>true
def bS(rs:List Row)(bs:List Int)(s:Nat):Nat×List Int:=match rs[s]? with
 | some (.go x n k)=>if gt bs x=n then(k+1,bs) else(s+1,bs)| some r=>(s+1,cB 1 bs r)| none=>(s,bs)
def dy(rs:List Row)(bs:List Int)(s:Nat):Nat×List Int:=match rs[s-1]? with
 | some (.aP x n k)=>if gt bs x=n then(k,bs) else(s-1,bs)| some r=>(s-1,cB (-1) bs r)| none=>(s,bs)
def bc.pr(h:bc C G p f g rs bs s):p≠f:=by intro e;have:=h.ob;rw[e,h.ro] at this;cases this
def bc.ph(h:bc C G p g f rs bs s):p≠f:=by intro e;have:=h.ob;rw[e,h.he] at this;cases this
def cF.new(h:cF G st)(f:G p=none):cF (aH G p o) st:=by let#[a,j,k,r,i,g,l]:=h.ex;exact#[a,j,k,r,by rw[aB (aL i f)];exact i,by rw[aB (aL g f)];exact g,l]
def cF.ne(h:cF G st)(f:G p=none):p≠st:=by let#[a,i,k,r,g,l,j]:=h.ex;exact D3 (aL g f)
def cF.set(h:cF G st)(i:G p=some (.lst xs))(m:p≠st):cF (aH G p (.lst ys)) st:=by
 let#[a,g,k,r,l,f,j]:=h.ex;have:a≠p:=by intro e;rw[e,i] at f;cases f
 exact#[a,g,k,r,by rw[aB (D3 m)];exact l,by rw[aB this];exact f,j]
def cI.refl(h:cF G st):cI st G G:=#[h,λ_ _ _ e=>e]
def cI.trans(a:cI st G G1)(b:cI st G1 g):cI st G g:=#[b.at_,λc o f e=>b.kp c o f (a.kp c o f e)]
theorem cI.new(a:cI st G G1)(f:G1 p=none):cI st G (aH G1 p o):=#[a.at_.new f,λc u g e=>by rw[aB (aL (a.kp c u g e) f)];exact a.kp c u g e]
def cI.own(a:cI st G G1)(f:G p=none)(h1:G1 p=some (.lst xs))(h:p≠st):cI st G (aH G1 p (.lst ys)):=#[a.at_.set h1 h,λc u g e=>by rw[aB (aL e f)];exact a.kp c u g e]
theorem cI.none(a:cI st G G1)(f:G1 p=none)(g:p≠st):G p=none:=by
 cases e:G p with
 | none=>rfl| some o=>rw[a.kp p o g e] at f;cases f
def GY(rs:List Row)(bs:List Int):List Int:=rs.foldl (cB 1) bs
def GZ(rs:List Row)(bs:List Int):List Int:=rs.reverse.foldl (cB (-1)) bs
theorem w19:∀{rs:List Row} {bs:List Int},cn sz bs->(∀r∈rs,r.ok sz)->cn sz (rs.foldl (cB s) bs)
 | [],_,h,_=>h| r::rs,bs,h,f=>w19 (rs:=rs) (Nz h (f r C6)) λq g=>f q (C2 _ g)
theorem uk:∀{rs:List Row} {bs:List Int},cn sz bs->(∀r∈rs,r.ok sz)->GY rs (GZ rs bs)=bs
 | [],_,_,_=>rfl| r::rs,bs,h,i=>by unfold GY GZ;rw[U4,List.foldl_append,Z6,Z6,List.foldl_nil];have f:∀q∈rs,q.ok sz:=λq g=>i q (C2 _ g);have j:cn sz (rs.reverse.foldl (cB (-1)) bs):=w19 h λq g=>f q (QD.mp g);have:=Vw (s:=-1) (.inr rfl) j (i r C6);rw[show(-(-1):Int)=1 from rfl] at this;rw[this];exact uk h f
def Nx{rs:List Row}(h:s<rs.length)(f:rs[s].plain=true):bw rs bs s=true/\bS rs bs s=(s+1,cB 1 bs rs[s]):=by have g:=B6 h;revert f;unfold bw bS;rw[g];cases rs[s] <;> intro f <;> first|exact⟨rfl,rfl⟩|cases f
def w23{rs:List Row}(h:s<rs.length)(f:rs[s].plain=true):cx rs bs (s+1)=true/\dy rs bs (s+1)=(s,cB (-1) bs rs[s]):=by have g:=B6 h;revert f;unfold cx dy;rw[if_neg (),K6,g];cases rs[s] <;> intro f <;> first|exact⟨rfl,rfl⟩|cases f
def CP:bw rs bs rs.length=false:=by unfold bw;rw[M8 (B9 _)]
def bc.grow(h:bc C G p f i rs bs s)(g:aA G j):bc C j p f i rs bs s:=⟨g.kp _ _ h.ob,g.kp _ _ h.ro,g.kp _ _ h.he,h.ne⟩
structure Kept(p ha:Addr)(G G':Gp):Prop where
 kp:∀b o,b≠p->b≠ha->G b=some o->G' b=some o
def Kept.refl:Kept p f G G:=⟨λ_ _ _ _ h=>h⟩
def Kept.trans(a:Kept p f G G1)(b:Kept p f G1 j):Kept p f G j:=⟨λc o i g h=>b.kp c o i g (a.kp c o i g h)⟩
def Kept.grow(a:Kept p f G G1)(b:aA G1 j):Kept p f G j:=⟨λc o i g h=>b.kp c o (a.kp c o i g h)⟩
def Kept.eqs(a:Kept p f G G1)(b:∀c,c≠p->c≠f->j c=G1 c):Kept p f G j:=⟨λc o i g h=>by rw[b c i g];exact a.kp c o i g h⟩
theorem Kept.none(a:Kept p f G G1)(h1:q≠p)(g:q≠f)(h:G1 q=none):G q=none:=by
 cases e:G q with
 | none=>rfl| some o=>rw[a.kp q o h1 g e] at h;cases h
end Law
namespace Rw
open PySem L2 L3
theorem v32{i j:Type}{f:i->Option j}:∀{xs:List i},(∀x∈xs,∃y,f x=some y)->∃ys,xs.mapM f=some ys
 | [],_=>#[[],rfl]| x::xs,h=>by let#[y,l]:=h x C6;let#[ys,g]:=v32 (xs:=xs) λz k=>h z (C2 _ k);exact#[y::ys,by rw[Y5,l,g];rfl]
theorem Vk:∀{ys:List Sn},(∀y∈ys,eV n y y=some true)->∃bs,((ys.zip ys).mapM λp=>eV n p.1 p.2)=some bs/\bs.all id=true
 | [],_=>#[[],rfl,rfl]| y::ys,h=>by let#[bs,e,q]:=Vk (ys:=ys) λz f=>h z (C2 _ f);apply#[true::bs,?_,by rw[V3,q];rfl];rw[Q1,Y5,e,h y C6];rfl
theorem Vl{l k:Type}{f:l->Option k}:∀{xs:List l} {ys:List k},xs.mapM f=some ys->∀y∈ys,∃x,f x=some y
 | [],ys,h,y,g=>by
  have:ys=[]:=by simpa using h.symm
  subst this;cases g
 | x::xs,ys,h,y,g=>by
  rw[Y5] at h;cases i:f x with
  | none=>rw[i] at h;cases h
  | some z =>
   rw[i] at h;cases j:xs.mapM f with
   | none=>rw[j] at h;cases h
   | some r =>
    rw[j] at h;have e:z::r=ys:=E1 h;subst e;rcases D7.mp g with rfl|q
    .exact⟨x,i⟩
    .exact Vl j y q
theorem NG{G:Gp}:∀(n:Nat) {d:D} {s:Sn},snap G n d=some s->eV n s s=some true
 | n,.non,s,h=>by cases n <;> (cases h;rfl)
 | n,.bl b,s,h=>by cases n <;> (cases h;cases b <;> rfl)
 | n,.int i,s,h=>by cases n <;> (cases h;simp[eV,gH,EL])
 | n,.str i,s,h=>by cases n <;> (cases h;simp[eV,gH,EL])
 | n,.ty _,s,h=>by cases n <;> cases h
 | 0,.tup _,s,h=>by cases h
 | 0,.ref _,s,h=>by cases h
 | n+1,.tup j,s,h=>by
  let#[f,e,rfl]:=F6.mp (show(j.mapM (snap G n)).map Sn.tup=some s from h);let#[g,m,q]:=Vk (n:=n) (ys:=f) λy k=>by let#[x,l]:=Vl e y k;exact NG n l
  show(if f.length=f.length then((f.zip f).mapM λp=>eV n p.1 p.2).map (λg=>g.all id) else none)=_;rw[if_pos rfl,m,C30,q]
 | n+1,.ref a,s,h=>by
  let#[j,o,h]:=A37.mp (show((bB (G a)).bind λj=>(j.mapM (snap G n)).map Sn.lst)=some s from h);let#[f,e,rfl]:=F6.mp h;let#[g,m,q]:=Vk (n:=n) (ys:=f) λy k=>by let#[x,l]:=Vl e y k;exact NG n l
  show(if f.length=f.length then((f.zip f).mapM λp=>eV n p.1 p.2).map (λg=>g.all id) else some false)=_;rw[if_pos rfl,m,C30,q]
def bV{G:Gp}{n:Nat}{ds:List D}(h:∀d∈ds,∃s,snap G n d=some s):∃s,snap G (n+1) (.tup ds)=some s:=by let#[f,e]:=v32 h;exact#[.tup f,by show(ds.mapM (snap G n)).map Sn.tup=_;rw[e];rfl]
def Vt:∃s,snap G n (.int i)=some s:=by cases n <;> exact#[_,rfl]
def vp2:∃s,snap G n (.str i)=some s:=by cases n <;> exact#[_,rfl]
def all1{p:D->Prop}{a:D}(h:p a):∀d∈[a],p d:=λd f=>by cases F5.mp f;exact h
def all2{p:D->Prop}{a:D}{r:List D}(h:p a)(f:∀d∈r,p d):∀d∈a::r,p d:=λd g=>by
 rcases D7.mp g with rfl|q
 .exact h
 .exact f d q
def bW(h:bB (G a)=bB (G b)):snap G n (.ref a)=snap G n (.ref b):=by
 cases n with
 | zero=>rfl| succ n=>show((bB (G a)).bind _)=((bB (G b)).bind _);rw[h]
end Rw
namespace Law
open PySem L2 L3 Rw
structure Pairs(rs:List Row):Prop where
 go:∀(j x:Nat) (n:Int) (k:Nat),rs[j]?=some (Row.go x n k)->rs[k]?=some (.aP x n j)
 co:∀(j x:Nat) (n:Int) (k:Nat),rs[j]?=some (Row.aP x n k)->rs[k]?=some (.go x n j)
def pM{f:Type}{xs:List f}{i:Nat}{x:f}(h:xs[i]?=some x):i<xs.length:=(L8.mp h).1
def wk0(h:bw rs bs s=true):s<rs.length:=by
 by_cases q:s<rs.length
 .exact q
 .unfold bw at h;rw[M8 ()] at h;cases h
def vr9(h:cx rs bs s=true):s≠0:=by intro e;subst e;cases h
def xh8{rs:List Row}{bs:List Int}{s sz:Nat}(u:Pairs rs)(c:gF sz rs bs s)(m:bw rs bs s=true): gF sz rs (bS rs bs s).2 (bS rs bs s).1/\cx rs (bS rs bs s).2 (bS rs bs s).1=true/\dy rs (bS rs bs s).2 (bS rs bs s).1=(s,bs):=by
 have j:=wk0 m;have g:=B6 j;have r:=c.ro _ (M5 j);have C:∀row:Row,rs[s]=row->row.plain=true->bS rs bs s=(s+1,cB 1 bs row)/\(cx rs (cB 1 bs row) (s+1)=true/\dy rs (cB 1 bs row) (s+1)=(s,bs)):=by intro row f q;have p:=Nx (bs:=bs) j (by rw[f];exact q);have l:=w23 (bs:=cB 1 bs row) j (by rw[f];exact q);rw[f] at p l;rw[f] at r;apply#[p.2,l.1,?_];rw[l.2,Vw (.inl rfl) c.bo r]
 have fin:∀row:Row,rs[s]=row->row.plain=true->gF sz rs (bS rs bs s).2 (bS rs bs s).1/\cx rs (bS rs bs s).2 (bS rs bs s).1=true/\dy rs (bS rs bs s).2 (bS rs bs s).1=(s,bs):=by intro row f q;let#[p,l,A]:=C row f q;rw[p];rw[f] at r;exact#[#[Nz c.bo r,c.ro,j],l,A]
 cases f:rs[s] with
 | add x o=>exact fin _ f rfl| take x o=>exact fin _ f rfl| turn x i E=>exact fin _ f rfl| swap x y=>exact fin _ f rfl| go x n k =>
  have t:=u.go s x n k (by rw[g,f]);have B:=pM t;by_cases h:gt bs x=n
  .have e:bS rs bs s=(k+1,bs):=by unfold bS;rw[g,f];simp[h]
   rw[e];apply#[#[c.bo,c.ro,B],?_,?_]
   .show cx rs bs (k+1)=true;unfold cx;rw[if_neg (),K6,t]
   .show dy rs bs (k+1)=(s,bs)
    unfold dy;rw[K6,t];simp[h]
  .have e:bS rs bs s=(s+1,bs):=by unfold bS;rw[g,f];simp[h]
   rw[e];apply#[#[c.bo,c.ro,j],?_,?_]
   .show cx rs bs (s+1)=true;unfold cx;rw[if_neg (),K6,g,f];simp[h]
   .show dy rs bs (s+1)=(s,bs)
    unfold dy;rw[K6,g,f];rfl
 | aP x n k =>
  have h:¬ gt bs x=n:=by unfold bw at m;rw[g,f] at m;simpa using m
  have e:bS rs bs s=(s+1,bs):=by unfold bS;rw[g,f];rfl
  rw[e];apply#[#[c.bo,c.ro,j],?_,?_]
  .show cx rs bs (s+1)=true;unfold cx;rw[if_neg (),K6,g,f]
  .show dy rs bs (s+1)=(s,bs)
   unfold dy;rw[K6,g,f];simp[h]
def xh9{rs:List Row}{bs:List Int}{s sz:Nat}(C:Pairs rs)(c:gF sz rs bs s)(l:cx rs bs s=true): gF sz rs (dy rs bs s).2 (dy rs bs s).1/\bw rs (dy rs bs s).2 (dy rs bs s).1=true/\bS rs (dy rs bs s).2 (dy rs bs s).1=(s,bs):=by
 have m:=c.le;obtain⟨t,rfl⟩:∃t,s=t+1:=#[s-1,by have:=vr9 l;omega];have j:t<rs.length:=m;have g:=B6 j;have r:=c.ro _ (M5 j);have fin:∀row:Row,rs[t]=row->row.plain=true->gF sz rs (dy rs bs (t+1)).2 (dy rs bs (t+1)).1/\bw rs (dy rs bs (t+1)).2 (dy rs bs (t+1)).1=true/\bS rs (dy rs bs (t+1)).2 (dy rs bs (t+1)).1=(t+1,bs):=by intro row f B;have A:=w23 (bs:=bs) j (by rw[f];exact B);have q:=Nx (bs:=cB (-1) bs row) j (by rw[f];exact B);rw[f] at q A r;rw[A.2];have u:=Vw (s:=-1) (.inr rfl) c.bo r;rw[show(-(-1):Int)=1 from rfl] at u;apply#[#[Nz c.bo r,c.ro,P8 j],q.1,?_];show bS rs (cB (-1) bs row) t=_;rw[q.2,u]
 cases f:rs[t] with
 | add x o=>exact fin _ f rfl| take x o=>exact fin _ f rfl| turn x i G=>exact fin _ f rfl| swap x y=>exact fin _ f rfl| aP x n k =>
  have p:=C.co t x n k (by rw[g,f]);have E:=pM p;by_cases h:gt bs x=n
  .have e:dy rs bs (t+1)=(k,bs):=by unfold dy;rw[K6,g,f];simp[h]
   rw[e];apply#[#[c.bo,c.ro,P8 E],?_,?_]
   .show bw rs bs k=true;unfold bw;rw[p]
   .show bS rs bs k=(t+1,bs)
    unfold bS;rw[p];simp[h]
  .have e:dy rs bs (t+1)=(t,bs):=by unfold dy;rw[K6,g,f];simp[h]
   rw[e];apply#[#[c.bo,c.ro,P8 j],?_,?_]
   .show bw rs bs t=true;unfold bw;rw[g,f];simp[h]
   .show bS rs bs t=(t+1,bs)
    unfold bS;rw[g,f];rfl
 | go x n k =>
  have h:¬ gt bs x=n:=by unfold cx at l;rw[if_neg (),K6,g,f] at l;simpa using l
  have e:dy rs bs (t+1)=(t,bs):=by unfold dy;rw[K6,g,f];rfl
  rw[e];apply#[#[c.bo,c.ro,P8 j],?_,?_]
  .show bw rs bs t=true;unfold bw;rw[g,f]
  .show bS rs bs t=(t+1,bs)
   unfold bS;rw[g,f];simp[h]
def od:Option Row->D
 | none=>.non| some r=>r.d
end Law
namespace Law
open PySem L2 L3 Rw
def cF.grow(h:cF G st)(g:aA G m):cF m st:=by let#[a,f,k,r,l,j,i]:=h.ex;exact#[a,f,k,r,g.kp _ _ l,g.kp _ _ j,i]
def dA{s:Nat}:K0 ("rows" :Str) (cy f g s)=some (D.ref f)/\K0 ("held" :Str) (cy f g s)=some (D.ref g)/\K0 ("spot" :Str) (cy f g s)=some (D.int (s:Int)) /\ K0 ("place" :Str) (cy f g s)=none/\K0 ("boxes" :Str) (cy f g s)=none/\K0 ("forth" :Str) (cy f g s)=none/\K0 ("back" :Str) (cy f g s)=none/\K0 ("at_end" :Str) (cy f g s)=none/\K0 ("at_begin" :Str) (cy f g s)=none /\ K0 ("may_forth" :Str) (cy f g s)=none/\K0 ("may_back" :Str) (cy f g s)=none/\(∀v:D,putD ("spot" :Str) v (cy f g s)=([("rows",.ref f),("held",.ref g),("spot",v)]:List (Str×D))):=by
 apply#[?_,?_,?_,?_,?_,?_,?_,?_,?_,?_,?_,λv=>?_] <;> simp only[cy,eL,str_beq,C7,decide_false,decide_true,beq_self_eq_true,I0,O8,putD,if_false,if_true]
def DN:(cy f g s).length<1000:=show 3<1000 by decide
def w36(r:Row):(∃x m k,r=.go x m k)\/∃w rest,r.d=.tup (.str w::rest)/\(w=("go" :Str))=False/\∀(rs:List Row) (bs:List Int) (s:Nat),rs[s]?=some r->bS rs bs s=(s+1,cB 1 bs r):=by
 cases r with
 | go x m k=>exact .inl #[x,m,k,rfl]| aP x m k=>exact .inr #[_,_,rfl,eq_false ∅,λrs bs s h=>by unfold bS;rw[h]]| add x o=>exact .inr #[_,_,rfl,eq_false ∅,λrs bs s h=>by unfold bS;rw[h]]| take x o=>exact .inr #[_,_,rfl,eq_false ∅,λrs bs s h=>by unfold bS;rw[h]]| turn x i f=>exact .inr #[_,_,rfl,eq_false ∅,λrs bs s h=>by unfold bS;rw[h]]| swap x y=>exact .inr #[_,_,rfl,eq_false ∅,λrs bs s h=>by unfold bS;rw[h]]
def w37(r:Row):(∃x m k,r=.aP x m k)\/∃w rest,r.d=.tup (.str w::rest)/\(w=("come" :Str))=False/\∀(rs:List Row) (bs:List Int) (s:Nat),rs[s-1]?=some r->dy rs bs s=(s-1,cB (-1) bs r):=by
 cases r with
 | aP x m k=>exact .inl #[x,m,k,rfl]| go x m k=>exact .inr #[_,_,rfl,eq_false ∅,λrs bs s h=>by unfold dy;rw[h]]| add x o=>exact .inr #[_,_,rfl,eq_false ∅,λrs bs s h=>by unfold dy;rw[h]]| take x o=>exact .inr #[_,_,rfl,eq_false ∅,λrs bs s h=>by unfold dy;rw[h]]| turn x i f=>exact .inr #[_,_,rfl,eq_false ∅,λrs bs s h=>by unfold dy;rw[h]]| swap x y=>exact .inr #[_,_,rfl,eq_false ∅,λrs bs s h=>by unfold dy;rw[h]]
def B_(r:Row):(∃x m k,r=.go x m k)\/(∃x m k,r=.aP x m k)\/∃w rest,r.d=.tup (.str w::rest)/\(w=("go" :Str))=False/\(w=("come" :Str))=False/\r.plain=true:=by
 cases r with
 | go x m k=>exact .inl #[x,m,k,rfl]| aP x m k=>exact .inr (.inl #[x,m,k,rfl])| add x o=>exact .inr (.inr #[_,_,rfl,eq_false ∅,eq_false ∅,rfl])| take x o=>exact .inr (.inr #[_,_,rfl,eq_false ∅,eq_false ∅,rfl])| turn x i f=>exact .inr (.inr #[_,_,rfl,eq_false ∅,eq_false ∅,rfl])| swap x y=>exact .inr (.inr #[_,_,rfl,eq_false ∅,eq_false ∅,rfl])
end Law
namespace L3
open PySem PySem.Spec PyProof.Rows L2
theorem VN:∀ks:List Int,intsOf (ks.map D.int)=some ks
 | []=>rfl| k::ks=>by show(intsOf (ks.map D.int)).map (k::·)=_;rw[VN ks];rfl
def Jb{w a b:Str}:decide (w∈[a,b])=(decide (w=a)||decide (w=b)):=by
 by_cases g:w=a
 .simp[g]
 .by_cases f:w=b
  .simp[f]
  .simp[g,f]
def Vc:(∀w a b G q,jj false (.str w) (.tup [.str a,.str b]) G q=q (.bl (decide (w=a)||decide (w=b))) G)/\(∀w a b G q,jj true (.str w) (.tup [.str a,.str b]) G q=q (.bl (!(decide (w=a)||decide (w=b)))) G) /\ (∀v a G q,jj true (.int v) (.ref a) G q=(match bB (G a) with|some ds=>(match intsOf ds with|some f=>q (.bl (!decide (v∈f))) G|none=>False)|none=>False)) /\
  (∀v a G q,jj false (.int v) (.ref a) G q=(match bB (G a) with|some ds=>(match intsOf ds with|some f=>q (.bl (decide (v∈f))) G|none=>False)|none=>False)) /\
  (∀i j G q,il true (.bl i) (.bl j) G q=q (.bl (!decide (i=j))) G)/\(∀i j G q,il false (.bl i) (.bl j) G q=q (.bl (decide (i=j))) G) /\
  (∀a b G q,mN (.ref a) (.ref b) G q=(match G a,G b with|some (.lst xs),some (.lst ys)=>xs.length+ys.length<=sizeLine/\∀p,G p=none->q (.ref p) (aH G p (.lst (xs++ys)))|_,_=>False))/\((2<=sizeLine)=True):=by
 apply#[λw a b G q=>?_,λw a b G q=>?_,λ_ _ _ _=>rfl,λ_ _ _ _=>rfl,λ_ _ _ _=>rfl,λ_ _ _ _=>rfl,λ_ _ _ _=>rfl,eq_true ∅]
 .show q (.bl (decide (w∈[a,b]))) G=_;rw[Jb]
 .show q (.bl (!decide (w∈[a,b]))) G=_;rw[Jb]
end L3
namespace Law
open PySem L2 L3 Rw
def da(fw:Bool)(rs:List Row)(bs:List Int)(s:Nat):Bool:=if fw=true then bw rs bs s else cx rs bs s
def cY(fw:Bool)(rs:List Row)(bs:List Int)(s:Nat):Nat×List Int:=if fw=true then bS rs bs s else dy rs bs s
def xV(f:Pairs rs)(c:gF sz rs bs s)(g:da fw rs bs s=true): gF sz rs (cY fw rs bs s).2 (cY fw rs bs s).1/\da (!fw) rs (cY fw rs bs s).2 (cY fw rs bs s).1=true/\cY (!fw) rs (cY fw rs bs s).2 (cY fw rs bs s).1=(s,bs):=by
 cases fw with
 | true=>exact xh8 f c g| false=>exact xh9 f c g
def mW(m:Nat):Row->Row
 | .add x o=>.take x o| .take x o=>.add x o| .go x n k=>.aP x n (m-1-k)| .aP x n k=>.go x n (m-1-k)| r=>r
def iO(rs:List Row):List Row:=(rs.map (mW rs.length)).reverse
def yb:(iO rs).length=rs.length:=by unfold iO;rw[R8,B0]
def NB(h:rs[j]?=some r):(iO rs)[rs.length-1-j]?=some (mW rs.length r):=by have f:=pM h;unfold iO;rw[A54 (by rw[B0];omega),B0,show rs.length-1-(rs.length-1-j)=j by omega,F7,h];rfl
def vx7(h:(iO rs)[j]?=some r):∃f,rs[rs.length-1-j]?=some f/\r=mW rs.length f:=by have k:=pM h;rw[yb] at k;have g:=B6 (l:=rs) (i:=rs.length-1-j) ();apply#[_,g,?_];have q:=NB g;rw[show rs.length-1-(rs.length-1-j)=j by omega,h] at q;exact E1 q
def Pairs.lt{rs:List Row}(f:Pairs rs){j:Nat}{r:Row}(h:rs[j]?=some r):∀x n k,(r=.go x n k\/r=.aP x n k)->k<rs.length:=by
 intro x n k g;rcases g with rfl|rfl
 .exact pM (f.go _ _ _ _ h)
 .exact pM (f.co _ _ _ _ h)
def w66{r:Row}(h:r.ok sz):(mW m r).ok sz:=by cases r <;> exact h
def Uu(h:∀r∈rs,r.ok sz):∀r∈iO rs,r.ok sz:=by intro r f;unfold iO at f;let#[g,i,rfl]:=D6.mp (QD.mp f);exact w66 (h g i)
def VL(l:Pairs rs):Pairs (iO rs):=by
 apply#[λj x n k e=>?_,λj x n k e=>?_]
 .have h:=pM e;rw[yb] at h;let#[g,i,f]:=vx7 e;cases g with
  | aP m o p =>cases f;have q:=l.co _ _ _ _ i;have:=NB q;rw[this];show some (Row.aP x n (rs.length-1-(rs.length-1-j)))=_;rw[show rs.length-1-(rs.length-1-j)=j by omega]
  | add _ _=>cases f
  | take _ _=>cases f
  | turn _ _ _=>cases f
  | swap _ _=>cases f
  | go _ _ _=>cases f
 .have h:=pM e;rw[yb] at h;let#[g,i,f]:=vx7 e;cases g with
  | go m o p =>cases f;have q:=l.go _ _ _ _ i;have:=NB q;rw[this];show some (Row.go x n (rs.length-1-(rs.length-1-j)))=_;rw[show rs.length-1-(rs.length-1-j)=j by omega]
  | add _ _=>cases f
  | take _ _=>cases f
  | turn _ _ _=>cases f
  | swap _ _=>cases f
  | aP _ _ _=>cases f
def VT(m:Pairs rs)(r:s<=rs.length):bw (iO rs) bs (rs.length-s)=cx rs bs s/\(cx rs bs s=true->bS (iO rs) bs (rs.length-s)=(rs.length-(dy rs bs s).1,(dy rs bs s).2)):=by
 cases s with
 | zero =>apply#[?_,λh=>by cases h];show bw (iO rs) bs (rs.length-0)=false;rw[Dx,<- yb (rs:=rs)];exact CP
 | succ t =>
  have g:=B6 (show t<rs.length by omega);have j:=NB g;rw[show rs.length-1-t=rs.length-(t+1) by omega] at j;have p:=m.lt g;have f:rs.length-(t+1)+1=rs.length-t:=()
  unfold bw cx bS dy;rw[if_neg (),K6,g,j];cases l:rs[t] with
  | add x o =>
   apply#[rfl,λ_=>?_];show(rs.length-(t+1)+1,bs.set x ((gt bs x-1*val bs o)%4294967296))=(rs.length-t,bs.set x ((gt bs x+-1*val bs o)%4294967296))
   rw[f,show gt bs x-1*val bs o=gt bs x+-1*val bs o by omega]
  | take x o =>
   apply#[rfl,λ_=>?_];show(rs.length-(t+1)+1,bs.set x ((gt bs x+1*val bs o)%4294967296))=(rs.length-t,bs.set x ((gt bs x - -1*val bs o)%4294967296))
   rw[f,show gt bs x - -1*val bs o=gt bs x+1*val bs o by omega]
  | turn x i u=>exact#[rfl,λ_=>by rw[<- f];rfl]| swap x y=>exact#[rfl,λ_=>by rw[<- f];rfl]| go x n k =>
   apply#[rfl,λ_=>?_];show(rs.length-(t+1)+1,bs)=(rs.length-t,bs)
   rw[f]
  | aP x n k =>
   have q:=p x n k (.inr l);apply#[rfl,λ_=>?_];show(if gt bs x=n then(rs.length-1-k+1,bs) else(rs.length-(t+1)+1,bs))=(rs.length-(if gt bs x=n then(k,bs) else(t,bs)).1,(if gt bs x=n then(k,bs) else(t,bs)).2)
   by_cases h:gt bs x=n
   .rw[if_pos h,if_pos h,show rs.length-1-k+1=rs.length-k by omega]
   .rw[if_neg h,if_neg h,f]
end Law
namespace L2
open PySem PySem.Spec PyProof.Rows
section
variable{X:Cx}
def vm1(E:X.calm=true):bK X (.builtin "max") (λxs H Q=>∃(p:Addr) (ns:List Int),xs=[.ref p]/\eR X.K H p (ns.map V.int)/\0<ns.length/\∀M:Int,M∈ns->(∀a∈ns,a<=M)->Q (.int M) H):=by
 intro pins s L H xs N Q I r h;let#[p,ns,rfl,A,J,q]:=h;let#[u,rfl,n]:=vals1 r;cases n;let#[its,o,x,R]:=I.list A;have hi:wQ its ns:=intsAre_of o;let#[f,i]:=hi.allInts.items;have m:s.heap.IsList p (Zr f):=i▸x.isList;have g:ns=f.toList.map (·.1):=by rw[<- ZT,<- i];exact(show numsOf its.toArray.toList=ns from hi.numsOf).symm
 have hsz:0<f.size:=by have l:=J;rw[g,B0,K7] at l;exact l
 apply max_intList (I.ok.hd E) m hsz λv U O y B=>?_;let#[t,rfl]:=intItems_at y;let#[S,G]:=argBest_gt (numAt f) (f.size-1);apply#[.int _,H,I.kept B,#[_,rfl],q _ ?_ λa k=>?_]
 .rw[g,PU];exact getD_mem (by rw[B0,K7];omega)
 .rw[g] at k;let#[j,C,rfl]:=mem_getD k;rw[B0,K7] at C;rw[<- PU];exact G j ()
def vm0(E:X.calm=true):bK X (.builtin "min") (λxs H Q=>∃(p:Addr) (ns:List Int),xs=[.ref p]/\eR X.K H p (ns.map V.int)/\0<ns.length/\∀M:Int,M∈ns->(∀a∈ns,M<=a)->Q (.int M) H):=by
 intro pins s L H xs N Q I r h;let#[p,ns,rfl,A,J,q]:=h;let#[u,rfl,n]:=vals1 r;cases n;let#[its,o,x,R]:=I.list A;have hi:wQ its ns:=intsAre_of o;let#[f,i]:=hi.allInts.items;have m:s.heap.IsList p (Zr f):=i▸x.isList;have g:ns=f.toList.map (·.1):=by rw[<- ZT,<- i];exact(show numsOf its.toArray.toList=ns from hi.numsOf).symm
 have hsz:0<f.size:=by have l:=J;rw[g,B0,K7] at l;exact l
 apply min_intList (I.ok.hd E) m hsz λv U O y B=>?_;let#[t,rfl]:=intItems_at y;let#[S,G]:=argBest_lt (numAt f) (f.size-1);apply#[.int _,H,I.kept B,#[_,rfl],q _ ?_ λa k=>?_]
 .rw[g,PU];exact getD_mem (by rw[B0,K7];omega)
 .rw[g] at k;let#[j,C,rfl]:=mem_getD k;rw[B0,K7] at C;rw[<- PU];exact G j ()
end
end L2
namespace L3
open PySem PySem.Spec PyProof.Rows L2
section
variable{X:Cx}
def FK:C3:=λg G q=>match g with
 | [.ref a]=>(match bB (G a) with|some xs=>(match zC xs with|some f=>0<f.length/\∀M:Int,M∈f->(∀z∈f,z<=M)->q (.int M) G|none=>False)|none=>False)
 | _=>False
def TU:C3:=λg G q=>match g with
 | [.ref a]=>(match bB (G a) with|some xs=>(match zC xs with|some f=>0<f.length/\∀M:Int,M∈f->(∀z∈f,M<=z)->q (.int M) G|none=>False)|none=>False)
 | _=>False
def vx0(j:X.calm=true:=by rfl):Call3 X (.builtin "max") FK:=pP (vm1 j) λxs H Q ⟨n,G,q,r,c,t,f⟩=>by
 unfold FK at t;split at t
 .let#[v,rfl,h]:=r.one;cases h.ar;split at t
  .rename_i n e;let#[p,g,i]:=e_ c e;split at t
   .rename_i o m;have:=Oq m i;subst this;exact#[_,o,rfl,g,t.1,λM l k=>f _ _ _ _ ae.de c (Le.refl H) (t.2 M l k)]
   .exact t.elim
  .exact t.elim
 .exact t.elim
def wr2(j:X.calm=true:=by rfl):Call3 X (.builtin "min") TU:=pP (vm0 j) λxs H Q ⟨n,G,q,r,c,t,f⟩=>by
 unfold TU at t;split at t
 .let#[v,rfl,h]:=r.one;cases h.ar;split at t
  .rename_i n e;let#[p,g,i]:=e_ c e;split at t
   .rename_i o m;have:=Oq m i;subst this;exact#[_,o,rfl,g,t.1,λM l k=>f _ _ _ _ ae.de c (Le.refl H) (t.2 M l k)]
   .exact t.elim
  .exact t.elim
 .exact t.elim
theorem Eg:∀ks:List Int,zC (ks.map D.int)=some ks
 | []=>rfl| k::ks=>by show(zC (ks.map D.int)).map (k::·)=_;rw[Eg ks];rfl
end
end L3
namespace Law
open PySem L2 L3 Rw
def mv(a:Nat):Row->Row
 | .go x n k=>.go x n (k+a)| .aP x n k=>.aP x n (k+a)| r=>r
def dt(acc rs:List Row):List Row:=acc++rs.map (mv acc.length)
def jx:List Row->List (List Row)->List Row
 | acc,[]=>acc| acc,f::r=>jx (dt acc f) r
structure cQ where
 sz:Nat
 ra:Addr
 rs:List Row
def cQ.d(c:cQ):D:=.tup [.int (c.sz:Int),.ref c.ra]
def tP(cs:List cQ):Nat:=cs.foldr (λc n=>max c.sz n) 0
def v30(h:c∈cs):c.sz<=tP cs:=by
 induction cs with
 | nil=>cases h
 | cons d cs f =>
  show c.sz<=max d.sz (tP cs);rcases D7.mp h with rfl|h
  .omega
  .have:=f h;omega
def wj6{cs:List cQ}(h:0<cs.length):∃c∈cs,c.sz=tP cs:=by
 induction cs with
 | nil=>cases h
 | cons d cs f =>
  by_cases i:0<cs.length
  .let#[c,g,e]:=f i;by_cases j:d.sz<=tP cs
   .exact#[c,C2 _ g,by show c.sz=max d.sz (tP cs);omega]
   .exact#[d,C6,by show d.sz=max d.sz (tP cs);omega]
  .have:cs=[]:=E8 ();subst this;exact#[d,C6,by show d.sz=max d.sz 0;omega]
def x82{cs:List cQ}(h:0<cs.length)(h1:M∈cs.map λc=>(c.sz:Int))(i:∀z∈cs.map (λc=>(c.sz:Int)),z<=M):M=(tP cs:Int):=by let#[c,g,e]:=D6.mp h1;let#[d,f,j]:=wj6 h;have a:=v30 g;have b:=i (d.sz:Int) (D6.mpr #[d,f,rfl]);omega
def x29{sz j:Nat}{r:Row}(h:sz<=j)(f:r.ok sz):r.ok j:=by
 have op:∀{x:Nat} {o:oZ},o.ok sz x->o.ok j x:=λ{x o} g=>by
  cases o with
  | num n=>exact g| box y=>exact#[C5 g.1 h,g.2]
 cases r with
 | add x o=>exact#[C5 f.1 h,op f.2]| take x o=>exact#[C5 f.1 h,op f.2]| turn x i m=>exact#[C5 f.1 h,f.2.1,f.2.2.1,λc l=>#[C5 (f.2.2.2 c l).1 h,(f.2.2.2 c l).2]]| swap x y=>exact#[C5 f.1 h,C5 f.2.1 h,f.2.2]| go x n k=>exact#[C5 f.1 h,f.2]| aP x n k=>exact#[C5 f.1 h,f.2]
def xk1{r:Row}(h:r.ok sz):(mv a r).ok sz:=by cases r <;> exact h
def NZ:(dt acc rs).length=acc.length+rs.length:=by unfold dt;rw[B4,B0]
def UC{acc rs:List Row}{j:Nat}{r:Row}(h:acc[j]?=some r):(dt acc rs)[j]?=some r:=by unfold dt;rw[F9 (pM h)];exact h
def UB(h:rs[j]?=some r):(dt acc rs)[acc.length+j]?=some (mv acc.length r):=by unfold dt;rw[E7 (),show acc.length+j-acc.length=j by omega,F7,h];rfl
def vn1(h:(dt acc rs)[j]?=some r):acc[j]?=some r\/∃i f,j=acc.length+i/\rs[i]?=some f/\r=mv acc.length f:=by
 by_cases g:j<acc.length
 .left;unfold dt at h;rw[F9 g] at h;exact h
 .right;unfold dt at h;rw[E7 (),F7] at h;cases e:rs[j-acc.length]? with
  | none=>rw[e] at h;cases h
  | some f=>rw[e] at h;cases h;exact#[j-acc.length,f,(),e,rfl]
def v86(h1:Pairs acc)(l:Pairs rs):Pairs (dt acc rs):=by
 apply#[λj x n k e=>?_,λj x n k e=>?_]
 .rcases vn1 e with q|⟨i,g,rfl,q,f⟩
  .exact UC (h1.go _ _ _ _ q)
  .cases g with
   | go m o h =>cases f;have:=UB (acc:=acc) (l.go _ _ _ _ q);rw[P0 h acc.length,this,P0 acc.length i];rfl
   | add _ _=>cases f
   | take _ _=>cases f
   | turn _ _ _=>cases f
   | swap _ _=>cases f
   | aP _ _ _=>cases f
 .rcases vn1 e with q|⟨i,g,rfl,q,f⟩
  .exact UC (h1.co _ _ _ _ q)
  .cases g with
   | aP m o h =>cases f;have:=UB (acc:=acc) (l.co _ _ _ _ q);rw[P0 h acc.length,this,P0 acc.length i];rfl
   | add _ _=>cases f
   | take _ _=>cases f
   | turn _ _ _=>cases f
   | swap _ _=>cases f
   | go _ _ _=>cases f
theorem VH:∀{L:List (List Row)} {acc:List Row},Pairs acc->(∀rs∈L,Pairs rs)->Pairs (jx acc L)
 | [],_,h,_=>h| rs::L,acc,h,f=>VH (L:=L) (v86 h (f rs C6)) λr g=>f r (C2 _ g)
theorem Ud:∀{L:List (List Row)} {acc:List Row},(∀r∈acc,r.ok sz)->(∀rs∈L,∀r∈rs,r.ok sz)->∀r∈jx acc L,r.ok sz
 | [],_,h,_=>h| rs::L,acc,h,g=>Ud (L:=L) (λr f=>by
   unfold dt at f;rcases E9.mp f with q|q
   .exact h r q
   .let#[i,j,rfl]:=D6.mp q;exact xk1 (g rs C6 i j)) λr f=>g r (C2 _ f)
theorem vh5:∀{L:List (List Row)} {acc:List Row},∃t,jx acc L=acc++t
 | [],acc=>#[[],by rw[D9];rfl]| rs::L,acc=>by let#[t,e]:=vh5 (L:=L) (acc:=dt acc rs);exact#[rs.map (mv acc.length)++t,by show jx (dt acc rs) L=_;rw[e,dt,D4]]
def x96(h:rs[j]?=some r):(jx acc (rs::L))[acc.length+j]?=some (mv acc.length r):=by let#[t,e]:=vh5 (L:=L) (acc:=dt acc rs);show(jx (dt acc rs) L)[acc.length+j]?=_;have:=UB (acc:=acc) h;rw[e,F9 (pM this)];exact this
def Pairs.nil:Pairs []:=#[λj x n k e=>by simp at e,λj x n k e=>by simp at e]
def xX{b r:List Int}(h:x<b.length):gt (b++r) x=gt b x:=by unfold gt;rw[F4,F4,F9 h]
def va0{b r:List Int}{o:oZ}(h:o.ok b.length x):val (b++r) o=val b o:=by
 cases o with
 | num n=>rfl| box y=>exact xX h.1
theorem vl4{b r:List Int}:∀{cs:List (Nat×Nat)},(∀c∈cs,c.1<b.length)->con (b++r) cs=con b cs
 | [],_=>rfl| c::cs,h=>by unfold con;rw[V3,V3,xX (h c C6)];congr 1;exact vl4 λd f=>h d (C2 _ f)
def NV{b r:List Int}{row:Row}(h:row.ok b.length):cB s (b++r) row=cB s b row++r:=by
 cases row with
 | add x o=>show(b++r).set x _=b.set x _++r;rw[W9 _ _ h.1,xX h.1,va0 h.2]| take x o=>show(b++r).set x _=b.set x _++r;rw[W9 _ _ h.1,xX h.1,va0 h.2]| turn x i f =>show(if con (b++r) f=true then(b++r).set x _ else b++r)=(if con b f=true then b.set x _ else b)++r;rw[vl4 λc g=>(h.2.2.2 c g).1,xX h.1,W9 _ _ h.1];split <;> rfl| swap x y =>show((b++r).set x _).set y _=(b.set x _).set y _++r;rw[W9 _ _ h.1,W9 _ _ (by rw[J9];exact h.2.1),xX h.1,xX h.2.1]| go x n k=>rfl| aP x n k=>rfl
def xj6(hw:∀(j:Nat) (row:Row),rs[j]?=some row->W[a+j]?=some (mv a row))(c:gF sz rs b s)(l:s<rs.length): bw W (b++r) (a+s)=bw rs b s/\(bw rs b s=true->bS W (b++r) (a+s)=(a+(bS rs b s).1,(bS rs b s).2++r)):=by
 have m:=B6 l;have p:=hw s _ m;have f:=c.ro _ (M5 l);rw[<- c.bo.len] at f;unfold bw bS;rw[m,p];cases g:rs[s] with
 | add x o=>rw[g] at f;exact#[rfl,λ_=>by show(a+s+1,cB 1 (b++r) (.add x o))=_;rw[NV f];rfl]| take x o=>rw[g] at f;exact#[rfl,λ_=>by show(a+s+1,cB 1 (b++r) (.take x o))=_;rw[NV f];rfl]| turn x i q=>rw[g] at f;exact#[rfl,λ_=>by show(a+s+1,cB 1 (b++r) (.turn x i q))=_;rw[NV f];rfl]| swap x y=>rw[g] at f;exact#[rfl,λ_=>by show(a+s+1,cB 1 (b++r) (.swap x y))=_;rw[NV f];rfl]| go x n k =>
  rw[g] at f;apply#[rfl,λ_=>?_];show(if gt (b++r) x=n then(k+a+1,b++r) else(a+s+1,b++r))=(a+(if gt b x=n then(k+1,b) else(s+1,b)).1,(if gt b x=n then(k+1,b) else(s+1,b)).2++r)
  rw[xX f.1];by_cases h:gt b x=n
  .rw[if_pos h,if_pos h,show k+a+1=a+(k+1) by omega]
  .rw[if_neg h,if_neg h];rfl
 | aP x n k =>rw[g] at f;apply#[?_,λ_=>rfl];show(!decide (gt (b++r) x=n))=!decide (gt b x=n);rw[xX f.1]
def lT{n len d:Nat}(h:n<=len):HT.bU len d (some (n:Int))=n:=by
 unfold HT.bU;simp only[];split
 .omega
 .rw[U2];omega
def rn(fw:Bool)(rs:List Row):Nat->Nat->List Int->Nat×Nat×List Int
 | 0,s,f=>(0,s,f)| n+1,s,f=>if da fw rs f s=true then((rn fw rs n (cY fw rs f s).1 (cY fw rs f s).2).1+1,(rn fw rs n (cY fw rs f s).1 (cY fw rs f s).2).2) else(0,s,f)
def tE(fw:Bool)(rs:List Row)(bs:List Int)(s:Nat):Str:=if s=(if fw=true then rs.length else 0) then(if fw=true then "end" else "begin") else if da fw rs bs s=true then "tired" else "torn"
def outD(fw:Bool)(rs:List Row)(r:Nat×Nat×List Int)(q:Addr):D:=.tup [.str (tE fw rs r.2.2 r.2.1),.int (r.2.1:Int),.ref q,.int (r.1:Int)]
def sD(h:da fw rs bs s=true):rn fw rs (n+1) s bs=((rn fw rs n (cY fw rs bs s).1 (cY fw rs bs s).2).1+1,(rn fw rs n (cY fw rs bs s).1 (cY fw rs bs s).2).2):=by show(if da fw rs bs s=true then _ else _)=_;rw[if_pos h]
def ud(h:da fw rs bs s=false):rn fw rs n s bs=(0,s,bs):=by
 cases n with
 | zero=>rfl| succ n=>show(if da fw rs bs s=true then _ else _)=_;rw[if_neg (by rw[h];exact C9)]
theorem FU(f:Pairs rs):∀{n s:Nat} {bs:List Int},gF sz rs bs s->gF sz rs (rn fw rs n s bs).2.2 (rn fw rs n s bs).2.1
 | 0,_,_,c=>c| n+1,s,bs,c=>by
  cases h:da fw rs bs s with
  | false=>rw[ud h];exact c| true=>rw[sD h];exact FU f (xV f c h).1
structure vS(fw:Bool)(rs:List Row)(most s0:Nat)(De:List Int)(k s:Nat)(bs:List Int):Prop where
 le:k<=most
 eq:rn fw rs most s0 De=(k+(rn fw rs (most-k) s bs).1,(rn fw rs (most-k) s bs).2)
def vS.init:vS fw rs most f g 0 f g:=#[J4 _,by rw[Dx,L5]]
def vS.step(h:vS fw rs most f j k s bs)(i:k<most)(g:da fw rs bs s=true):vS fw rs most f j (k+1) (cY fw rs bs s).1 (cY fw rs bs s).2:=by apply#[i,?_];rw[h.eq,show most-k=(most-(k+1))+1 by omega,sD g];show(k+((rn fw rs (most-(k+1)) _ _).1+1),_)=_;rw[show∀a:Nat,k+(a+1)=k+1+a from λa=>()]
def vS.stop(h:vS fw rs most f g k s bs)(hk:¬ k<most\/da fw rs bs s=false):rn fw rs most f g=(k,s,bs):=by
 have e:rn fw rs (most-k) s bs=(0,s,bs):=by
  rcases hk with hk|hk
  .have:=h.le;rw[show most-k=0 by omega];rfl
  .exact ud hk
 rw[h.eq,e];rfl
theorem NQ(i:Pairs rs):∀{n s:Nat} {bs:List Int} (m:Nat),gF sz rs bs s->(rn true rs n s bs).1<=m -> rn false rs m (rn true rs n s bs).2.1 (rn true rs n s bs).2.2=((rn true rs n s bs).1+(rn false rs (m-(rn true rs n s bs).1) s bs).1,(rn false rs (m-(rn true rs n s bs).1) s bs).2)
 | 0,s,bs,m,_,_=>by show rn false rs m s bs=(0+(rn false rs (m-0) s bs).1,(rn false rs (m-0) s bs).2);rw[L5,Dx]| n+1,s,bs,m,c,j=>by
  cases h:da true rs bs s with
  | false =>
   rw[ud h];show rn false rs m s bs=(0+(rn false rs (m-0) s bs).1,(rn false rs (m-0) s bs).2)
   rw[L5,Dx]
  | true =>
   have f:=xV i c h;rw[sD h] at j⊢;have g:(rn true rs n (cY true rs bs s).1 (cY true rs bs s).2).1+1<=m:=j;have k:=NQ i (n:=n) m f.1 ();show rn false rs m (rn true rs n (cY true rs bs s).1 (cY true rs bs s).2).2.1 (rn true rs n (cY true rs bs s).1 (cY true rs bs s).2).2.2=((rn true rs n (cY true rs bs s).1 (cY true rs bs s).2).1+1+_,_)
   rw[k];generalize (rn true rs n (cY true rs bs s).1 (cY true rs bs s).2).1=a at g⊢;have o:da false rs (cY true rs bs s).2 (cY true rs bs s).1=true:=f.2.1;have l:cY false rs (cY true rs bs s).2 (cY true rs bs s).1=(s,bs):=f.2.2;rw[show m-a=(m-(a+1))+1 by omega,sD o,l];show(a+((rn false rs (m-(a+1)) s bs).1+1),_)=(a+1+(rn false rs (m-(a+1)) s bs).1,_)
   rw[show∀b:Nat,a+(b+1)=a+1+b from λb=>()]
def v16{G:Gp}{a b:Addr}{ks:List Int}{pre post:List D}(h1:bB (G a)=some (ks.map .int))(i:bB (G b)=some (ks.map .int))(g:∀d∈pre,∃s,snap G 1 d=some s)(j:∀d∈post,∃s,snap G 1 d=some s): ∃s,snap G 2 (.tup (pre++.ref a::post))=some s/\snap G 2 (.tup (pre++.ref b::post))=some s:=by
 have e:snap G 1 (.ref a)=snap G 1 (.ref b):=bW (by rw[h1,i]);let#[s,f]:=bV (G:=G) (n:=1) (ds:=pre++.ref a::post) λd h=>by
  rcases E9.mp h with q|q
  .exact g d q
  .rcases D7.mp q with rfl|q
   .exact⟨_,vb5 h1⟩
   .exact j d q
 apply⟨s,f,?_⟩;rw[<- f];show((pre++.ref b::post).mapM (snap G 1)).map Sn.tup=((pre++.ref a::post).mapM (snap G 1)).map Sn.tup;rw[C11,C11,Y5,Y5,e]
def UK{G:Gp}{a b:Addr}{ks:List Int}{w:Str}{i j:Int}{Q:Bool->Prop}(h1:bB (G a)=some (ks.map .int))(l:bB (G b)=some (ks.map .int))(h:Q true): ∃n g f r,n<=40/\snap G n (.tup [.str w,.int i,.ref a,.int j])=some g/\snap G n (.tup [.str w,.int i,.ref b,.int j])=some f/\eV n g f=some r/\Q r:=by
 let#[s,k,m]:=v16 (pre:=[.str w,.int i]) (post:=[.int j]) h1 l (all2 vp2 (all1 Vt)) (all1 Vt);exact#[2,s,s,true,∅,k,m,NG 2 k,h]
end Law
namespace L3
open PySem PySem.Spec PyProof.Rows L2 Rw
def ui(k m:Nat):Bool:=k==0||m.testBit (k-1)
def pc(b m:Nat):Nat:=(E6 b).countP λi=>m.testBit i
def wj0(b m:Nat):pc (b+1) m=m%2+pc b (m / 2):=by
 unfold pc;rw[B43,List.countP_cons,List.countP_map];have e:((λi=>m.testBit i)∘Nat.succ)=λi=>(m / 2).testBit i:=by funext i;show m.testBit (i+1)=_;rw[C12]
 rw[e,MR];rcases Nat.mod_two_eq_zero_or_one m with h|h <;> simp[h] <;> omega
def wi9(b:Nat):pc b 0=0:=by simp[pc]
def UD(a b:Nat):P6 (a:Int) (b:Int)=((a &&& b:Nat):Int):=by unfold P6;simp
def w28(a b:Nat):ML (a:Int) (b:Int)=((a ||| b:Nat):Int):=by
 have g:∀x:Nat,¬ (0<=O0 (x:Int)):=λx=>by unfold O0;omega
 have f:∀x:Int,O0 (O0 x)=x:=λx=>by unfold O0;omega
 unfold ML P6;simp only[g,decide_false,f,U2]
def wq3(m i:Nat):(P6 (m:Int) (1*2^i)=0)↔m.testBit i=false:=by
 have e:(1*2^i:Int)=((2^i:Nat):Int):=by simp
 rw[e,UD];have q:(m &&& 2^i=0)↔m.testBit i=false:=by
  constructor
  .intro h;have:=congrArg (λx=>Nat.testBit x i) h;simpa[QA,B13] using this
  .intro h;apply O6 λj=>?_;rw[QA,MQ,R9];by_cases f:i=j
   .subst f;rw[h];rfl
   .simp[f]
 rw[<- q];omega
def pD(p:Str×Int):D:=.tup [.str p.1,.int p.2]
end L3
namespace L2
open PySem PySem.Spec PyProof.Rows
abbrev wX(h:Heap)(z TI TO T:Addr)(f:Bool):Prop:=h.get? z=some { cls:=.type "zip",data:=.fields [rawInt (T:Int),.bool f,.bool false,.ref TI,.ref TO].toArray}
end L2
namespace L3
open PySem PySem.Spec PyProof.Rows L2
section
variable{X:Cx}{o:Expr}{to:bC}{apos aO:Pos}
def Bg:U3:=λx G q=>match x with|.int i=>q (.int (O0 i)) G|_=>False
def xh5:zg X (EX .Invert) (uA X.K Bg):=vx2 ws9 <| by
 rintro x H Q ⟨d,G,q,g,c,t,f⟩;unfold Bg at t;split at t
 .exact#[_,g.int_inv,f _ _ _ _ ae.de c (Le.refl H) t]
 .exact t.elim
end
end L3
namespace L3
open PySem PySem.Spec PyProof.Rows L2 Rw
abbrev Mv:=Bool×Nat
def mP(p:Mv):Str×Int:=(if p.1 then "lay" else "clear",(p.2:Int))
def mD(p:Mv):D:=pD (mP p)
def nD(x:Nat):D:=.int (x:Int)
def d5(k m:Nat):Bool:=m.testBit (k-1)
def xr(m k:Nat):Nat:=m ^^^ 2^(k-1)
def hi(m:Nat):Nat:=if m=0 then 0 else m.log2+1
def wy2{m i:Nat}(h:m.testBit i=false):m ||| 2^i=m ^^^ 2^i:=O6 λj=>by
 rw[C40,Qz,R9];by_cases e:i=j
 .subst e;rw[h];simp
 .simp[e]
def wy3{m i:Nat}(h:m.testBit i=true):m ||| 2^i=m:=O6 λj=>by
 rw[C40,R9];by_cases e:i=j
 .subst e;rw[h];rfl
 .simp[e]
def vm9{m i:Nat}(h:m.testBit i=true):m &&& 2^i=2^i:=O6 λj=>by
 rw[QA,R9];by_cases e:i=j
 .subst e;rw[h];rfl
 .simp[e]
def xd1{m i:Nat}(h:m.testBit i=false):m &&& 2^i=0:=O6 λj=>by
 rw[QA,R9,MQ];by_cases e:i=j
 .subst e;rw[h];rfl
 .simp[e]
theorem UA:∀{i m:Nat},m.testBit i=true->(m ^^^ 2^i)+2^i=m
 | 0,m,h=>by
  have n:m%2=1:=by rw[MR] at h;simpa using h
  have g:(m ^^^ 1) / 2=m / 2:=by rw[C31];simp
  have f:(m ^^^ 1)%2=0:=by
   have:(m ^^^ 1).testBit 0=false:=by rw[Qz,h];rfl
   rw[MR] at this;have:=of_decide_eq_false this;omega
  show(m ^^^ 1)+1=m;omega
 | i+1,m,h=>by
  have j:(m / 2).testBit i=true:=by rw[<- C12];exact h
  have l:=UA j;have k:2^(i+1) / 2=2^i:=by rw[Q8];omega
  have g:(m ^^^ 2^(i+1)) / 2=m / 2 ^^^ 2^i:=by rw[C31,k]
  have f:(m ^^^ 2^(i+1))%2=m%2:=by
   have a:(m ^^^ 2^(i+1)).testBit 0=m.testBit 0:=by rw[Qz,R9];simp
   rw[MR,MR] at a;have b:=decide_eq_decide.mp a;omega
  rw[Q8] at g f⊢;omega
def xor_int(m i:Nat):MM (m:Int) (1*2^i)=((m ^^^ 2^i:Nat):Int):=by
 have e:(1*2^i:Int)=((2^i:Nat):Int):=by simp
 unfold MM;rw[e,w28,UD];cases h:m.testBit i with
 | true =>rw[wy3 h,vm9 h];have:=UA h;omega| false =>rw[wy2 h,xd1 h];simp
def wo9{m i:Nat}(h:m.testBit i=true):P6 (m:Int) (O0 (1*2^i))=((m ^^^ 2^i:Nat):Int):=by
 have e:(1*2^i:Int)=((2^i:Nat):Int):=by simp
 have j:(0:Int)<=((2^i:Nat):Int):=QJ _;have f:¬ (0<=O0 ((2^i:Nat):Int)):=by unfold O0;omega
 have g:O0 (O0 ((2^i:Nat):Int))=((2^i:Nat):Int):=by unfold O0;omega
 rw[e];unfold P6;simp only[f,decide_false,g,QJ,decide_true,U2];rw[vm9 h];have:=UA h
 (omega)
def wl7{m i:Nat}(h:m.testBit i=false):ML (m:Int) (1*2^i)=((m ^^^ 2^i:Nat):Int):=by
 have e:(1*2^i:Int)=((2^i:Nat):Int):=by simp
 rw[e,w28,wy2 h]
def fin:Nat->List Mv->Nat
 | m,[]=>m| m,p::r=>fin (xr m p.2) r
def low:Nat->List Mv->Nat
 | m,[]=>hi m| m,p::r=>min (low (xr m p.2) r) (hi m)
def VW:Nat->List Mv->List Mv
 | _,[]=>[]| m,p::r=>if p.2<=low (xr m p.2) r then p::VW (xr m p.2) r else VW (xr m p.2) r
def once(w:List Mv):List Mv:=VW 0 w
def Oz:Nat->List Mv->List Nat
 | _,[]=>[]| m,p::r=>xr m p.2::Oz (xr m p.2) r
theorem pz:∀{l r:List Mv} {m:Nat},fin m (l++r)=fin (fin m l) r
 | [],_,_=>rfl| p::l,r,m=>by show fin (xr m p.2) (l++r)=_;rw[pz];rfl
def Ve{f:Type}(ns:List f)(c:f):dE (ns++[c]) (-1)=some c:=by
 rw[Dy];unfold i6;rw[if_neg ∅,if_pos (by simp;omega)];have e:(-1+((ns++[c]).length:Int)).toNat=ns.length:=by simp;omega
 rw[A59,e];simp
def at_getD{f:Type}{xs:List f}(h:0<=v)(h1:v<(xs.length:Int)):∃x,x∈xs/\dE xs v=some x:=by
 have g:v.toNat<xs.length:=()
 apply#[xs[v.toNat],M5 _,?_];rw[Dy];unfold i6;rw[if_pos h,if_pos h1,A59,B6 g]
def hD(x:Nat):D:=nD (hi x)
end L3
namespace L2
open PySem PySem.Spec PyProof.Rows
section
variable{X:Cx}
def uz3:bK X (.builtin "sorted") (λxs H Q=>∃(p:Addr) (ns:List Int),xs=[.ref p]/\eR X.K H p (ns.map V.int)/\ns.length<64/\∀(l:Addr) (f:List Int),H l=none->f.Perm ns->f.Pairwise (·<=·)->Q (.ref l) (upd H l (.lst (f.map V.int)))):=by intro pins s A H xs B Q I r h;let#[p,ns,rfl,o,E,q]:=h;let#[u,rfl,m]:=vals1 r;cases m;let#[its,i,n,j]:=I.list o;have hi:wQ its ns:=intsAre_of i;have g:=i.length;rw[B0] at g j;apply sorted_ints n.isList hi () λout f y k x=>?_;let#[c,e]:=sortedAll_at s.heap its out;apply#[.ref (s.heap.objs.size+1),_,I.laid (t':=s.toks) (λb u t=>sortedAll_old t) (V2 _) (show bu X.prog X.w _ _ _ (.lst (f.map V.int)) from #[by rw[B0,k.length_eq];exact j,out.toList,c,Om y,e]),rfl,q _ _ (I.aE.fresh (V2 _)) k x]
end
end L2
namespace L3
open PySem PySem.Spec PyProof.Rows L2
section
variable{X:Cx}{K:W.Frag}{H:Hp}
@[reducible] def w57:C3:=λh G q=>∃(a:Addr) (f:List Int),h=[.ref a]/\bB (G a)=some (f.map .int)/\f.length<64/\∀(p:Addr) (g:List Int),G p=none->g.Perm f->g.Pairwise (·<=·)->q (.ref p) (aH G p (.lst (g.map .int)))
theorem Vq{H:Hp}:∀ns:List Int,ag K H (ns.map D.int) (ns.map V.int)
 | []=>.nil| _::ns=>.cons ae.de (Vq ns)
theorem ug1{H:Hp}:∀{ns:List Int} {xs:List V},ag K H (ns.map D.int) xs->xs=ns.map V.int
 | [],xs,r=>r.a_| n::ns,xs,r=>by let#[x,h,rfl,g,f]:=r.ay;rw[g.int_inv,ug1 f];rfl
def vn8:Call3 X (.builtin "sorted") w57:=pP uz3 <| by rintro xs H Q ⟨y,G,q,r,c,t,f⟩;let#[a,l,rfl,m,u,t]:=t;let#[v,rfl,j]:=r.one;cases j.ar;let#[x,i,k]:=e_ c m;obtain rfl:=ug1 k;exact#[_,l,rfl,i,u,λp h g o n=>f _ _ _ _ ae.fe (c.cP g (Vq h)) (Le.fresh g) (t p h (c.fresh g) o n)]
end
end L3
namespace L3
open PySem PySem.Spec PyProof.Rows L2 Rw
def cnt:Nat->Nat->Nat
 | 0,_=>0| n+1,m=>cnt n m+(if m.testBit n then 1 else 0)
theorem FO:∀{n m:Nat},cnt n m<=n
 | 0,_=>B9 _| n+1,m=>by have:=@FO n m;rw[cnt];split <;> omega
theorem Vh:∀{n m f:Nat},(∀i,i<n->m.testBit i=f.testBit i)->cnt n m=cnt n f
 | 0,_,_,_=>rfl| n+1,m,f,h=>by rw[cnt,cnt,Vh (n:=n) λi hi=>h i (),h n ()]
def ko:(xr m k).testBit j=(m.testBit j ^^ decide (k-1=j)):=by unfold xr;rw[Qz,R9]
theorem zD:∀{n m k:Nat},1<=k->k<=n->d5 k m=false->cnt n (xr m k)=cnt n m+1
 | 0,_,_,f,j,_=>()| n+1,m,k,f,j,h=>by
  unfold d5 at h;by_cases e:k-1=n
  .subst e;have l:cnt (k-1) (xr m k)=cnt (k-1) m:=Vh λi hi=>by
    have:¬ (k-1=i):=()
    rw[ko];simp[this]
   rw[cnt,cnt,l,ko,h];simp
  .have g:=zD (n:=n) (m:=m) f () h;rw[cnt,cnt,g,ko];simp[e];omega
theorem Gk:∀{n m k:Nat},1<=k->k<=n->d5 k m=true->cnt n (xr m k)+1=cnt n m
 | 0,_,_,f,g,_=>()| n+1,m,k,f,g,h=>by
  unfold d5 at h;by_cases e:k-1=n
  .subst e;have j:cnt (k-1) (xr m k)=cnt (k-1) m:=Vh λi hi=>by
    have:¬ (k-1=i):=()
    rw[ko];simp[this]
   rw[cnt,cnt,j,ko,h];simp
  .have l:=Gk (n:=n) (m:=m) f () h;rw[cnt,cnt,ko];simp[e];omega
def kC(n s m:Nat)(p:Mv):Prop:=(1<=p.2/\p.2<=n)/\(p.2=1\/m.testBit (p.2-2)=true)/\p.1=(!d5 p.2 m)/\(p.1=true->cnt n m<s)
def fP(n s:Nat):Nat->List Mv->Prop
 | _,[]=>True| m,p::r=>kC n s m p/\fP n s (xr m p.2) r
theorem b9:∀{l r:List Mv} {m:Nat},fP n s m (l++r)↔fP n s m l/\fP n s (fin m l) r
 | [],r,m=>by show fP n s m r↔True/\fP n s m r;simp| p::l,r,m=>by show kC n s m p/\fP n s (xr m p.2) (l++r)↔(kC n s m p/\fP n s (xr m p.2) l)/\fP n s (fin (xr m p.2) l) r;rw[b9,and_assoc]
theorem vj2:∀{w:List Mv} {m:Nat},fin m w∈m::Oz m w
 | [],m=>by simp[fin]| p::r,m=>C2 _ (vj2 (w:=r) (m:=xr m p.2))
theorem w18:∀{w:List Mv} {m:Nat},m<2^n->(∀p∈w,1<=p.2/\p.2<=n)->∀x∈m::Oz m w,x<2^n
 | [],m,h,_,x,hx=>by
  have:x=m:=by simpa[Oz] using hx
  subst this;exact h
 | p::r,m,h,hw,x,hx=>by
  rcases D7.mp hx with e|hx
  .subst e;exact h
  .apply w18 (m:=xr m p.2) ?_ (λq f=>hw q (C2 _ f)) x hx;have:=hw p (by simp);exact QI h (QN ∅ ())
theorem F_:∀{w:List Mv} {m:Nat},fP n s m w->∀p∈w,1<=p.2/\p.2<=n
 | [],_,_,p,hp=>by simp at hp| q::r,m,⟨g,f⟩,p,hp=>by
  rcases D7.mp hp with e|hp
  .subst e;exact g.1
  .exact F_ f p hp
def fS(w:List Mv):List Mv:=(w.map λp=>(!p.1,p.2)).reverse
def wu8:d5 k (xr m k)=!d5 k m:=by unfold d5;rw[ko];simp
def xh2:xr (xr m k) k=m:=O6 λj=>by rw[ko,ko];cases m.testBit j <;> cases decide (k-1=j) <;> rfl
theorem vh1:∀{w:List Mv} {m:Nat},cnt n m<=s->fP n s m w->cnt n (fin m w)<=s
 | [],_,h,_=>h| p::r,m,h,⟨⟨f,_,g,j⟩,i⟩=>by
  apply vh1 (m:=xr m p.2) ?_ i;cases e:d5 p.2 m with
  | true=>have:=Gk f.1 f.2 e;omega| false =>rw[e] at g;rw[zD f.1 f.2 e];exact j g
theorem FZ:∀{w:List Mv} {m:Nat},cnt n m<=s->fP n s m w->fP n s (fin m w) (fS w)/\fin (fin m w) (fS w)=m
 | [],_,_,_=>#[trivial,rfl]| p::r,m,h,⟨⟨f,h2,g,k⟩,y⟩=>by
  have j:cnt n (xr m p.2)<=s:=by
   cases e:d5 p.2 m with
   | true=>have:=Gk f.1 f.2 e;omega| false =>rw[e] at g;rw[zD f.1 f.2 e];exact k g
  let#[o,i]:=FZ j y;have e:fS (p::r)=fS r++[(!p.1,p.2)]:=by unfold fS;rw[C0,U4]
  have l:fin m (p::r)=fin (xr m p.2) r:=rfl;rw[e,l,b9,pz,i];apply#[#[o,#[f,?_,?_,λx=>?_],trivial],xh2]
  .rcases h2 with h2|h2
   .exact .inl h2
   .by_cases u:p.2=1
    .exact .inl u
    .right;show(xr m p.2).testBit (p.2-2)=true;rw[ko,h2];have:¬ (p.2-1=p.2-2):=by(omega)
     simp[this]
  .show(!p.1)=!d5 p.2 (xr m p.2);rw[wu8,g]
  .have t:p.1=false:=by simpa using x
   rw[t] at g;have q:d5 p.2 m=true:=by simpa using g.symm
   have:=Gk f.1 f.2 q;omega
def DV:(fS w).length=w.length:=by simp[fS]
def Ou:∀{a b:List Int},a.Perm b->a.Pairwise (·<=·)->b.Pairwise (·<=·)->a=b:=by intro a b h g f;exact h.eq_of_pairwise (λx y _ _ g f=>Int.le_antisymm g f) g f
def NL(h:∀p,p∈ps↔kC n s m p/\p.2<=i)(f:kC n s m (b,i+1)):∀p,p∈ps++[(b,i+1)]↔kC n s m p/\p.2<=i+1:=by
 intro p;rw[E9,h p,F5];constructor
 .rintro(⟨a,c⟩|rfl)
  .exact#[a,()]
  .exact#[f,B9 _]
 .rintro⟨a,c⟩;by_cases e:p.2<=i
  .exact .inl #[a,e]
  .right;let#[b',k]:=p;have l:k=i+1:=by have:k<=i+1:=c;have:¬ k<=i:=e;omega
   subst l;have j:b'=!d5 (i+1) m:=a.2.2.1;have g:b=!d5 (i+1) m:=f.2.2.1;rw[j,g]
def Ui{n s m i:Nat}{ps:List Mv}(h:∀p,p∈ps↔kC n s m p/\p.2<=i)(f:∀b,¬ kC n s m (b,i+1)):∀p,p∈ps↔kC n s m p/\p.2<=i+1:=by
 intro p;rw[h p];constructor
 .rintro⟨a,c⟩;exact#[a,()]
 .rintro⟨a,c⟩;apply#[a,?_];by_cases e:p.2<=i
  .exact e
  .let#[b',k]:=p;have g:k=i+1:=by have:k<=i+1:=c;have:¬ k<=i:=e;omega
   subst g;exact absurd a (f b')
def vn7(h:G a=some (.lst xs))(g:G b=some (.lst ys))(f:xs.length+ys.length<=sizeLine)(k:∀p,G p=none->q (.ref p) (aH G p (.lst (xs++ys)))):mN (.ref a) (.ref b) G q:=by unfold mN;simp only[h,g];exact#[f,k]
def v90{G:Gp}{a:Addr}{ns:List Int}{q:DK}(h:bB (G a)=some (ns.map .int))(f:0<ns.length)(k:∀M:Int,M∈ns->(∀z∈ns,z<=M)->q (.int M) G):FK [.ref a] G q:=by unfold FK;simp only[h,Eg];exact#[f,k]
def v87{G:Gp}{a:Addr}{ns:List Int}{q:DK}(h:bB (G a)=some (ns.map .int))(k:q (.int ns.sum) G):t_ [.ref a] G q:=by unfold t_;simp only[h,Eg];exact k
def uW{f:Type}{xs:List f}{n:Nat}:cutD xs none (some (n:Int))=xs.take n:=by
 unfold cutD;rw[HT.mZ,HT.lT,Z_,Dx];rcases C87 n xs.length with h|h
 .rw[B54 h]
 .rw[C13 h,Z2 (B9 _),Z2 h]
theorem w_:∀{n:Nat},cnt n 0=0
 | 0=>rfl| n+1=>by rw[cnt,w_,MQ];rfl
def fR:Nat->Bool->Nat
 | 0,_=>0| s+1,true=>2^s| s+1,false=>2^(s+1)-1
def oO(f l s:Nat)(b:Bool)(w:List Mv):Prop:=∀n S m,l<=n->(f=0\/m.testBit (f-1)=true)->(∀i,f<=i->i<l->m.testBit i=false)->cnt n m+s<=S ->
 fP n S m w/\(∀i,(i<f\/l<=i)->(fin m w).testBit i=m.testBit i)/\(fin m w).testBit (l-1)=true/\(b=true->∀i,f<=i->i+1<l->(fin m w).testBit i=false)
def w62(l:1<=s):oO f (f+1) s b [(true,f+1)]:=by
 intro n S m k o j p;have g:=j f (B9 _) (S9 _);apply#[#[#[#[by show 1<=f+1;omega,k],?_,?_,λ_=>()],trivial],λi hi=>?_,?_,λ_ i t r=>()]
 .rcases o with h|h
  .left;show f+1=1;omega
  .by_cases q:f=0
   .left;show f+1=1;omega
   .right;show m.testBit (f+1-2)=true;have:f+1-2=f-1:=by(omega)
    rw[this];exact h
 .show true=!m.testBit f;rw[g];rfl
 .show(xr m (f+1)).testBit i=_;have:¬ (f+1-1=i):=()
  rw[ko,decide_eq_false this,ZZ]
 .show(xr m (f+1)).testBit (f+1-1)=true;rw[ko];show(m.testBit f ^^ decide (f=f))=true;rw[g];simp
def oO.jA(u:f<l)(h:oO f l s true w){n S m:Nat}(j:l<=n)(k:f=0\/m.testBit (f-1)=true)(g:∀i,f<=i->i<l->m.testBit i=false)(o:cnt n m+s<=S):fin m w=xr m l:=by
 let#[_,t,r,q]:=h n S m j k g o;apply O6 λi=>?_;rw[ko];by_cases e:l-1=i
 .subst e;rw[r,g _ () ()];simp
 .have:decide (l-1=i)=false:=decide_eq_false e;rw[this,ZZ];by_cases p:i<f\/l<=i
  .exact t i p
  .rw[q rfl i () (),g i () ()]
def w55:xr (xr m k) l=xr (xr m l) k:=O6 λj=>by rw[ko,ko,ko,ko];cases m.testBit j <;> cases decide (k-1=j) <;> cases decide (l-1=j) <;> rfl
def uf(h:¬ k-1=i):(xr m k).testBit i=m.testBit i:=by rw[ko,decide_eq_false h,ZZ]
def Gj{m k:Nat}(h:m.testBit (k-1)=false):(xr m k).testBit (k-1)=true:=by rw[ko,h];simp
def v96(h1:f<c)(B:c<l)(O:oO f c (s+1) true L)(N:oO c l s true J)(W3:oO f c s true I):oO f l (s+1) true (L++J++fS I):=by
 intro n S m j r g A;have o:∀i,f<=i->i<c->m.testBit i=false:=λi a b=>g i a ();have u:=O.jA h1 (n:=n) (S:=S) () r o A;let#[R,_]:=O n S m () r o A;have q:d5 c m=false:=g (c-1) () ();have c1:cnt n (xr m c)=cnt n m+1:=zD () () q;have f2:c=0\/(xr m c).testBit (c-1)=true:=.inr (Gj q);have k:∀i,c<=i->i<l->(xr m c).testBit i=false:=λi a b=>by rw[uf ()];exact g i () b
 have t:=N.jA B (n:=n) (S:=S) j f2 k ();let#[L2,_]:=N n S (xr m c) j f2 k ();have p:d5 l m=false:=g (l-1) () ();have E:cnt n (xr m l)=cnt n m+1:=zD () j p;have x:f=0\/(xr m l).testBit (f-1)=true:=by
  rcases r with h|h
  .exact .inl h
  .by_cases M:f=0
   .exact .inl M
   .exact .inr (by rw[uf (by(omega))];exact h)
 have y:∀i,f<=i->i<c->(xr m l).testBit i=false:=λi a b=>by rw[uf (by(omega))];exact g i a ()
 have C:=W3.jA h1 (n:=n) (S:=S) () x y (by(omega));let#[L3,_]:=W3 n S (xr m l) () x y (by(omega));let#[Q,G]:=FZ (by(omega):cnt n (xr m l)<=S) L3;rw[C,w55] at Q G;have H:fin m (L++J++fS I)=xr m l:=by rw[pz,pz,u,t,G]
 apply#[?_,?_]
 .rw[b9,b9,pz,u,t];exact#[#[R,L2],Q]
 .rw[H];apply#[λi hi=>uf (by(omega)),Gj p,λ_ i a b=>by rw[uf (by(omega))];exact g i a (by(omega))]
def vo4(h1:f<c)(G:c<l)(y:oO f c (s+1) true B)(C:oO c l s false A):oO f l (s+1) false (B++A):=by
 intro n S m x p g q;have k:∀i,f<=i->i<c->m.testBit i=false:=λi a b=>g i a ();have j:=y.jA h1 (n:=n) (S:=S) () p k q;let#[E,_]:=y n S m () p k q;have o:d5 c m=false:=g (c-1) () ();have c1:cnt n (xr m c)=cnt n m+1:=zD () () o;have f2:c=0\/(xr m c).testBit (c-1)=true:=.inr (Gj o);have r:∀i,c<=i->i<l->(xr m c).testBit i=false:=λi a b=>by rw[uf ()];exact g i () b
 let#[L2,u,t,_]:=C n S (xr m c) x f2 r ();apply#[by rw[b9,j];exact#[E,L2],λi hi=>?_,by rw[pz,j];exact t,λh=>by cases h];rw[pz,j,u i (),uf (by(omega))]
def oO.start(h:oO 0 l s b w)(f:l<=n)(g:s<=S):fP n S 0 w/\(fin 0 w).testBit (l-1)=true:=by let#[a,_,c,_]:=h n S 0 f (.inl rfl) (λi _ _=>MQ i) (by rw[w_];omega);exact#[a,c]
def oO.left(g:0<l)(h:oO 0 l s true w)(f:l<=n)(j:s<=S):fin 0 w=2^(l-1):=by have e:=h.jA g (n:=n) (S:=S) f (.inl rfl) (λi _ _=>MQ i) (by rw[w_];omega);rw[e];unfold xr;exact Nat.zero_xor _
def vj1(h:2<=l-f)(g:l-f<=fR s b):∃i,s=i+1/\f+(l-f+1) / 2-f<=fR (if b then i else s) true/\l-(f+(l-f+1) / 2)<=fR i b:=by
 cases s with
 | zero=>simp[fR] at g;omega| succ s =>
  apply#[s,rfl,?_];cases s with
  | zero=>cases b <;> simp[fR] at g <;> omega
  | succ s =>
   cases b
   .simp only[fR] at g⊢;rw[Q8] at g;rw[Q8];simp;rw[Q8];omega
   .simp only[fR] at g⊢;rw[Q8] at g;simp[fR];omega
def vw2:fR s true<=fR (s+1) true:=by
 cases s with
 | zero=>simp[fR]| succ s=>simp only[fR];rw[Q8];omega
def wp2(h:1<=s):1<=fR s b:=by
 cases s with
 | zero=>omega| succ s =>
  have:=Q0 s;cases b
  .simp only[fR];rw[Q8];omega
  .simp only[fR];omega
def v15(h1:1<=a)(i:a<=(L+1) / 2)(k:2<=L)(h:x<=a*a)(f:y<=(L-a)*(L-a))(g:z<=a*a):x+y+z<=L*L:=by
 obtain⟨c,rfl⟩:∃c,L=a+c:=#[L-a,by(omega)];have e:a+c-a=c:=()
 rw[e] at f;have j:a<=c+1:=()
 have m:a*a<=2*(a*c):=by
  have:a<=2*c:=by(omega)
  calc a*a<=a*(2*c):=B70 _ this
   _=2*(a*c):=by rw[Nat.mul_left_comm]
 have l:(a+c)*(a+c)=a*a+2*(a*c)+c*c:=by rw[Nat.add_mul,D01,D01,Qi c a];omega
 rw[l]
 (omega)
def vb4(f:1<=n)(i:1<=s)(h:fP n s 0 w):∃p,kC n s (fin 0 w) p:=by
 rcases V5 w with e|⟨u,p,e⟩
 .subst e;exact⟨(true,1),⟨∅,f⟩,.inl rfl,by show true=!(0:Nat).testBit 0;rfl,λ_=>by show cnt n 0<s;rw[w_];omega⟩
 .rw[V6] at e;subst e;let#[b,_]:=FZ (by rw[w_];omega:cnt n 0<=s) h;have g:fS (u++[p])=(!p.1,p.2)::fS u:=by unfold fS;rw[B7,A79];rfl
  rw[g] at b;exact#[_,b.1]
def d6(m:Nat):List Int:=((E6 24).filter λi=>m.testBit i).map λi:Nat=>(i:Int)+1
def Gb:x∈d6 m↔∃i:Nat,i<24/\m.testBit i=true/\x=(i:Int)+1:=by
 unfold d6;rw[D6];constructor
 .rintro⟨i,hi,rfl⟩;rw[Z5,L0] at hi;exact#[i,hi.1,hi.2,rfl]
 .rintro⟨i,g,f,rfl⟩;exact#[i,Z5.mpr #[L0.mpr g,f],rfl]
def x_{m k:Nat}(h1:1<=k)(g:k<=24):(k:Int)∈d6 m↔d5 k m=true:=by
 rw[Gb];constructor
 .rintro⟨i,_,f,e⟩;have:k-1=i:=()
  unfold d5;rw[this];exact f
 .intro h;exact#[k-1,(),h,()]
theorem UT{m:Nat}:∀n,((E6 n).filter λi=>m.testBit i).length=cnt n m
 | 0=>rfl| n+1=>by rw[W5,Z3,B4,UT n,cnt];cases h:m.testBit n <;> simp[h]
def NM:(d6 m).length=cnt 24 m:=by unfold d6;rw[B0,UT]
def c8:(d6 m).Pairwise (· < ·):=by unfold d6;rw[QF];apply D02 _ ?_;exact List.pairwise_lt_range.imp λh=>()
def yc{l:List Int}(h:l.Pairwise (· < ·)):l.Nodup:=h.imp λh e=>by subst e;exact absurd h (C75 _)
def ux0{a b:List Int}(g:a.Pairwise (· < ·))(f:b.Pairwise (· < ·))(h:∀x,x∈a↔x∈b):a=b:=Ou ((A92 (yc g) (yc f)).mpr h) (g.imp W8) (f.imp W8)
def vf4{m k:Nat}{ns:List Int}(h1:1<=k)(n:k<=24)(h:d5 k m=false)(j:ns.Perm (d6 m++[(k:Int)]))(g:ns.Pairwise (·<=·)):ns=d6 (xr m k):=by
 apply Ou (j.trans ?_) g (c8.imp W8);apply(A92 ?_ (yc c8)).mpr λx=>?_
 .apply Z9.mpr #[yc c8,by simp,λa f b l=>?_];have:b=(k:Int):=by simpa using l
  subst this;intro e;subst e;rw[x_ h1 n,h] at f;cases f
 .rw[E9,F5,Gb,Gb];unfold d5 at h;constructor
  .rintro(⟨i,a,b,c⟩|c)
   .apply#[i,a,?_,c];by_cases e:k-1=i
    .rw[<- e] at b;rw[h] at b;cases b
    .rw[uf e];exact b
   .exact#[k-1,(),Gj h,()]
  .rintro⟨i,a,b,c⟩;by_cases e:k-1=i
   .right;omega
   .left;exact#[i,a,by rw[uf e] at b;exact b,c]
def uu3{m k:Nat}(h1:1<=k)(h:d5 k m=true):(d6 m).filter (λx=>!decide (x=(k:Int)))=d6 (xr m k):=by
 apply ux0 (c8.filter _) c8 λx=>?_;rw[Z5,Gb,Gb];unfold d5 at h;constructor
 .rintro⟨⟨i,a,b,c⟩,d⟩;have d:¬ x=(k:Int):=by simpa using d
  exact#[i,a,by rw[uf ()];exact b,c]
 .rintro⟨i,a,b,c⟩;have e:¬ k-1=i:=λe=>by subst e;rw[ko,h] at b;simp at b
  apply#[#[i,a,by rw[uf e] at b;exact b,c],?_];have:¬ x=(k:Int):=()
  simp[this]
theorem vl5(h:m<2^n):∀k,cnt (n+k) m=cnt n m
 | 0=>rfl| k+1=>by rw[<- K8,cnt,vl5 h k,Nat.testBit_lt_two_pow (C5 h (T9 ∅ ()))];rfl
def w47(h:m<2^n)(f:n<=24):cnt 24 m=cnt n m:=by obtain⟨k,e⟩:∃k,24=n+k:=#[24-n,()];rw[e];exact vl5 h k
def x88(h:fP n s 0 w):fin 0 w<2^n:=w18 (Q0 _) (F_ h) _ vj2
abbrev Pm:=Option Mv
def cO:Pm->D
 | none=>.tup [.str "show"]| some p=>mD p
def iY(m:Nat):Pm->Nat
 | none=>m| some p=>xr m p.2
def yz(m:Nat):Pm->Prop
 | none=>True| some p=>(1<=p.2/\p.2<=24)/\p.1=!d5 p.2 m
def mB:Nat->List Pm->Prop
 | _,[]=>True| m,p::r=>yz m p/\mB (iY m p) r
def cE:Nat->List Pm->Nat
 | m,[]=>m| m,p::r=>cE (iY m p) r
def gw:Nat->List Pm->List Nat
 | _,[]=>[]| m,p::r=>iY m p::gw (iY m p) r
theorem rb:∀{l r:List Pm} {m:Nat},mB m (l++r)↔mB m l/\mB (cE m l) r
 | [],r,m=>by show mB m r↔True/\mB m r;simp| p::l,r,m=>by show yz m p/\mB (iY m p) (l++r)↔(yz m p/\mB (iY m p) l)/\mB (cE (iY m p) l) r;rw[rb,and_assoc]
theorem zH:∀{l r:List Pm} {m:Nat},cE m (l++r)=cE (cE m l) r
 | [],_,_=>rfl| p::l,r,m=>by show cE (iY m p) (l++r)=_;rw[zH];rfl
theorem UW:∀{l r:List Pm} {m:Nat},gw m (l++r)=gw m l++gw (cE m l) r
 | [],_,_=>rfl| p::l,r,m=>by show _::gw (iY m p) (l++r)=_;rw[UW];rfl
theorem NT:∀{w:List Pm} {m:Nat},(gw m w).length=w.length
 | [],_=>rfl| p::r,m=>by show(gw _ r).length+1=r.length+1;rw[NT]
theorem Gw:∀{w:List Mv} {m:Nat},cE m (w.map some)=fin m w
 | [],_=>rfl| p::r,m=>Gw (w:=r) (m:=xr m p.2)
def Gq{w:List Mv}:(w.map some).map cO=w.map mD:=by rw[P9];rfl
def eU:Pm->Pm
 | none=>none| some p=>some (!p.1,p.2)
def mJ(w:List Pm):List Pm:=(w.map eU).reverse
def Vf{w:List Mv}:mJ (w.map some)=(fS w).map some:=by unfold mJ fS;rw[P9,QC,P9];rfl
def wp9:(mJ w).length=w.length:=by simp[mJ]
def x79(f:m<2^24)(h:yz m p):iY m p<2^24:=by
 cases p with
 | none=>exact f| some p=>exact QI f (QN ∅ (by have:=h.1;omega))
theorem w17:∀{w:List Pm} {m:Nat},m<2^24->mB m w->∀x∈m::gw m w,x<2^24
 | [],m,h,_,x,hx=>by
  have:x=m:=by simpa[gw] using hx
  subst this;exact h
 | p::r,m,h,⟨g,f⟩,x,hx=>by
  rcases D7.mp hx with e|hx
  .subst e;exact h
  .exact w17 (x79 h g) f x hx
def kg(n s:Nat)(left:Bool)(P:List Pm):Prop:=
 if left then∃w:List Mv,P=w.map some/\fP n s 0 w/\fin 0 w=2^(n-1)
 else∃u v:List Mv,P=u.map some++[none]++(fS v).map some/\fP n s 0 u/\fP n s 0 v/\fin 0 u=fin 0 v/\(fin 0 u).testBit (n-1)=true
def wp7(h:p∈fS w):∃q∈w,q.2=p.2:=by unfold fS at h;rw[QD,D6] at h;let#[q,f,rfl]:=h;exact#[q,f,rfl]
def kg.mem(h:kg n s left P):∀p,some p∈P->1<=p.2/\p.2<=n:=by
 unfold kg at h;intro p hp;split at h
 .let#[w,rfl,hw,_]:=h;let#[q,f,e]:=D6.mp hp;cases e;exact F_ hw p f
 .let#[u,v,rfl,i,g,_]:=h;rcases E9.mp hp with hp|hp
  .rcases E9.mp hp with hp|hp
   .let#[q,f,e]:=D6.mp hp;cases e;exact F_ i p f
   .simp at hp
  .let#[q,f,e]:=D6.mp hp;cases e;let#[r,j,k]:=wp7 f;rw[<- k];exact F_ g r j
def w25:pc b m=cnt b m:=by unfold pc;rw[List.countP_eq_length_filter,UT]
def Nu(h:∀ds G R,¬ S ds G R):Ok P w mg base n d S:=#[λg H Q E ⟨ds,G,R,_,_,s,_⟩=>absurd s (h ds G R),λA f s H args i g Q E _ _ _ _ ⟨ds,G,R,_,_,s,_⟩=>absurd s (h ds G R)]
def VC{neg:Bool}{G:Gp}{a:Addr}{w:Int}{ns:List Int}{q:DK}(h:bB (G a)=some (ns.map .int))(k:q (.bl (if neg then !decide (w∈ns) else decide (w∈ns))) G):jj neg (.int w) (.ref a) G q:=by unfold jj;simp only[h,VN];exact k
def zF(h:G a=some (.lst xs))(g:G b=some (.lst ys))(f:xs.length+ys.length<=100000)(k:∀p,G p=none->q (.ref p) (aH G p (.lst (xs++ys)))):mN (.ref a) (.ref b) G q:=vn7 h g (P8 (C8 f ∅)) k
end L3
namespace Law
open PySem L2 L3 Rw
theorem cI.grow(a:cI st G G1)(g:aA G1 f):cI st G f:=#[a.at_.grow g,λc o h e=>g.kp _ _ (a.kp c o h e)]
end Law
namespace L3
open PySem PySem.Spec PyProof.Rows L2 Rw
def wp8:fS (fS w)=w:=by
 unfold fS;rw[QC,List.reverse_reverse,P9];have:((λp:Mv=>(!p.1,p.2))∘λp:Mv=>(!p.1,p.2))=id:=by funext p;show(!(!p.1),p.2)=p;rw[Bool.not_not]
 rw[this,List.map_id]
def kg.turned(h:kg n s false P):kg n s false (mJ P):=by
 unfold kg at h⊢;rw[if_neg C9] at h⊢;let#[u,v,rfl,g,f,e,i]:=h;apply#[v,u,?_,f,g,e.symm,by rw[<- e];exact i];have:mJ (u.map some++[none]++(fS v).map some)=mJ ((fS v).map some)++[none]++mJ (u.map some):=by unfold mJ;simp[eU]
 rw[this,Vf,Vf,wp8]
def gE(n s:Nat):Nat->Bool->List Pm->Prop
 | _,_,[]=>True| m,f,none::r=>(m.testBit (n-1)=true/\f=false)/\gE n s m true r| m,f,some p::r=>kC n s m p/\gE n s (xr m p.2) f r
def kz:Bool->List Pm->Bool
 | sh,[]=>sh| _,none::r=>kz true r| sh,some _::r=>kz sh r
theorem h_:∀{l r:List Pm} {m:Nat} {f:Bool},gE n s m f (l++r)↔gE n s m f l/\gE n s (cE m l) (kz f l) r
 | [],r,m,f=>by show gE n s m f r↔True/\gE n s m f r;simp| none::l,r,m,f=>by show _/\gE n s m true (l++r)↔(_/\gE n s m true l)/\gE n s (cE m l) (kz true l) r;rw[h_];exact and_assoc.symm| some p::l,r,m,f=>by show _/\gE n s (xr m p.2) f (l++r)↔(_/\gE n s (xr m p.2) f l)/\gE n s (cE (xr m p.2) l) (kz f l) r;rw[h_,and_assoc]
theorem D_:∀{l r:List Pm} {f:Bool},kz f (l++r)=kz (kz f l) r
 | [],_,_=>rfl| none::l,r,f=>D_ (l:=l)| some _::l,r,f=>D_ (l:=l)
theorem N_:∀{w:List Mv} {m:Nat},fP n s m w->gE n s m h (w.map some)
 | [],_,_=>trivial| p::r,m,⟨g,f⟩=>#[g,N_ f]
theorem Gr:∀{w:List Mv},kz f (w.map some)=f
 | []=>rfl| p::r=>Gr (w:=r)
theorem kg.gE(h:kg n s left P):gE n s 0 false P/\kz false P=(!left)/\cE 0 P=if left then 2^(n-1) else 0:=by
 unfold kg at h;split at h
 .rename_i f;let#[w,rfl,hw,e]:=h;apply#[N_ hw,by rw[Gr,f];rfl,by rw[Gw,f,if_pos rfl];exact e]
 .rename_i f;have f:left=false:=by simpa using f
  let#[u,v,rfl,i,g,e,j]:=h;let#[l,k]:=FZ (by rw[w_];exact J4 _) g;subst f;apply#[?_,?_,?_]
  .rw[h_,h_,zH,Gw,Gr];apply#[#[N_ i,#[j,rfl],trivial],?_];show L3.gE n s (fin 0 u) _ _;rw[e];exact N_ l
  .rw[D_,D_,Gr,Gr];rfl
  .rw[zH,zH,if_neg C9,Gw];show fin (cE 0 (u.map some)) (fS v)=0;rw[Gw,e];exact k
theorem T_:∀{w:List Pm} {m:Nat} {f:Bool},m<2^n->gE n s m f w->cE m w<2^n
 | [],_,_,h,_=>h| none::r,m,f,h,⟨_,g⟩=>T_ (w:=r) h g| some p::r,m,f,h,⟨i,g⟩=>T_ (w:=r) (QI h (QN ∅ (by have:=i.1;omega))) g
end L3
namespace L3
open PySem PySem.Spec PyProof.Rows L2
def kD:Key->D
 | .inl i=>.int i| .inr x=>.str x
section
variable{X:Cx}{K:W.Frag}{G:Gp}{H:Hp}{p:Addr}
theorem Vp:∀{ks:List Key} {xs:List V},ag K H (ks.map kD) xs->xs=ks.map kV
 | [],xs,r=>r.a_| .inl i::ks,xs,r=>by let#[x,h,rfl,g,f]:=r.ay;rw[(show ae K H (.int i) x from g).int_inv,Vp f];rfl| .inr z::ks,xs,r=>by let#[x,h,rfl,g,f]:=r.ay;rw[(show ae K H (.str z) x from g).str_inv,Vp f];rfl
theorem Le.dT(h:H p=some (.dT xs)):Le H (upd H p (.dT ys)):=
  ⟨fun b zs q => by by_cases e: b = p
                    · subst e;rw[h] at q;cases q
                    · rw[c_ e];exact q,
   fun b o u q => by by_cases e: b = p
                     · subst e;rw[h] at q;cases q
                     · rw[c_ e];exact q⟩
end
end L3
namespace L2
open PySem PySem.Spec PyProof.Rows
def v08(m:TA):TE:=λg H Q=>m g H λh f=>∃i j:Int,h=[.int i,.int j]/\(-1000000<=i/\i<=1000000/\-1000000<=j/\j<=1000000)/\∀l,f l=none->Q (.ref l) (upd f l (.lst ((E6 (j-i).toNat).map λk:Nat=>V.int (i+k))))
def v51:R5 "list" = some (.type "list"):=∅
def v66{X:Cx}(hr:aU k X.A)(hg:Gl X "range")(hm:X.mg "range" = none)(Y:Gl X "list")(nu:X.mg "list" = none)(ha:PA X [a,b] U) (hs:D1 [a,b] X.env=[(false,eval a X.env),(false,eval b X.env)]:=by rfl) (G:D1 [b] X.env=[(false,eval b X.env)]:=by rfl)
  (J:D1 [.Call (.Name "range" p) [a,b] [] pos] X.env=[(false,eval (.Call (.Name "range" p) [a,b] [] pos) X.env)]:=by rfl):
  PE X (.Call (.Name "list" p2) [.Call (.Name "range" p) [a,b] [] pos] [] jZ) (v08 U):=by
 intro pins s N H Q I h;apply N8 (sE I Y nu v51 ?_);apply K1 ?_ J rfl;rw[J];show wpAny _ _ (spliced ((false,eval (.Call (.Name "range" p) [a,b] [] pos) X.env)::backTo jZ [])) _ _ s;apply Q4 ?_;apply N8 (sE I hg hm Qb (K1 (bg (ha pos pins s N H _ I h) λus C ⟨vs,H1,M,r1,q1⟩=>?_) (by rw[hs,G]) (by rw[G];rfl)));let#[i,j,e,#[b1,b2,b3,b4],q]:=q1;subst e;cases r1 with
 | cons r x =>
  cases x with
  | cons Z x =>
   cases x;let#[t,rfl]:=r;let#[t2,rfl]:=Z;apply call_range_2 ?_;apply U1 ?_;have hn:A34 i j 1=(((j-i).toNat:Nat):Int):=by rw[ZW];split <;> omega
   apply call_list_range (hh:=hr.hd) (ZJ ..) (Zv () () () ()) hn () λB S f c kp R g=>?_;have Jh:∀b o,C.heap.get? b=some o->B.get? b=some o:=λb o e=>kp b o (B8 _ e);have hv:Vals ((E6 (j-i).toNat).map λk:Nat=>V.int (i+k)) f.toList:=by
    have n:f.size=(j-i).toNat:=g.1;have key:∀(m:Nat) (l:List Value),(∀(y:Nat) v,l[y]?=some v->∃t,v=.int (i+(y:Int)) t)->l.length=m->Vals ((E6 m).map λk:Nat=>V.int (i+k)) l:=by
     intro m;induction m with
     | zero=>intro l _ u;have:l=[]:=E8 u;subst this;exact .nil| succ m ih =>
      intro l u n;rcases V5 l with e|⟨E,v,e⟩
      .subst e;simp at n
      .rw[V6] at e;subst e;have L:E.length=m:=by simpa using n
       rw[W5,B7];apply(ih E (λy v e=>u y v ?_) L).append (.cons ?_ .nil)
       .rw[F9 (L8.mp e).1];exact e
       .let#[t,e]:=u m v (by rw[<- L];simp);exact#[t,e]
    apply key _ f.toList (λy v e=>?_) (by simpa using n);let#[t,e]:=g.2 y v (by simpa using e);exact#[t,by rw[e,Qe]]
   have O:((E6 (j-i).toNat).map λk:Nat=>V.int (i+k)).length<=sizeLine:=by rw[B0,J2];exact P8 (C8 (m:=3000000) () ∅)
   have I2:=M.laid (h':=B) (a:=C.heap.objs.size+1) (o:=.lst ((E6 (j-i).toNat).map λk:Nat=>V.int (i+k))) (t':=S) Jh (V2 _) #[O,f.toList,c,hv,by simpa using R];exact#[_,_,I2,by simp;rfl,q _ (M.aE.fresh (V2 _))]
end L2
namespace L3
open PySem PySem.Spec PyProof.Rows L2
def Vj(t:eW):bC:=λg G q=>t g G λh f=>match h with
 | [.int i,.int j]=>(-1000000<=i/\i<=1000000/\-1000000<=j/\j<=1000000)/\∀p,f p=none->q (.ref p) (aH f p (.lst (b_ i (j-i).toNat)))| _=>False
theorem US{K:W.Frag}{H:Hp}{i:Int}:∀l:List Nat,ag K H (l.map λk:Nat=>D.int (i+k)) (l.map λk:Nat=>V.int (i+k))
 | []=>.nil| _::l=>.cons ae.de (US l)
def ux9{K:W.Frag}{t:eW}{m:L2.St}{H:Hp}{Q:VK}(h:aJ K (Vj t) m H Q):v08 (eh K t) m H Q:=by
 let#[k,G,q,r,c,t,f]:=h;apply#[k,G,_,r,c,t,λC I B E u c1 A g=>?_];split at g
 .rename_i i j;let#[x,y,rfl,o,n]:=u.two;cases o.int_inv;cases n.int_inv;exact#[i,j,rfl,g.1,λp l=>f _ _ _ _ ae.fe (c1.cP l (US _)) (A.trans (Le.fresh l)) (g.2 p (c1.fresh l))]
 .exact g.elim
def vj6{X:Cx}(l:aU k X.A)(n:Gl X "range")(m:X.mg "range" = none)(g:Gl X "list")(h:X.mg "list" = none)(o:A3 X [a,b] f) (j:D1 [a,b] X.env=[(false,eval a X.env),(false,eval b X.env)]:=by rfl) (i:D1 [b] X.env=[(false,eval b X.env)]:=by rfl)
  (q:D1 [.Call (.Name "range" p) [a,b] [] pos] X.env=[(false,eval (.Call (.Name "range" p) [a,b] [] pos) X.env)]:=by rfl):
  E3 X (.Call (.Name "list" r) [.Call (.Name "range" p) [a,b] [] pos] [] t) (Vj f):=dX (v66 l n m g h o j i q) λ_ _ _=>ux9
section
variable{X:Cx}{K:W.Frag}{H:Hp}{σ:L2.St}{a b c:Expr}{ta tb tc:bC}{pos:Pos}
def T'(r r':R3)(ta tb tc:bC):bC:=λσ G q=>ta σ G λx i=>tb σ i λy h=>r x y h λz f=>match z with
 | .bl k=>if k=true then tc σ f λw g=>r' y w g q else q (.bl false) f| _=>False
def vg6{r r':R3}{Q:VK}(h:aJ K (T' r r' ta tb tc) σ H Q):vy2 (j3 K r) (j3 K r') (aJ K ta) (aJ K tb) (aJ K tc) σ H Q:=by
 let#[g,G,q,j,c,t,f]:=h;apply#[g,G,_,j,c,t,λd U v H1 M c1 y I=>#[g,U,_,j.le y,c1,I,λe S u H2 m c2 p E=>#[d,e,S,_,ae.le p M,m,c2,E,λz R x H3 L A o i=>?_]]];have l:=y.trans (p.trans o);split at i
 .rename_i k;apply#[k,L.cb,?_];cases k with
  | true =>rw[if_pos rfl] at i⊢;exact#[g,R,_,j.le l,A,i,λB O Y Z J N n C=>#[e,B,O,q,ae.le (o.trans n) m,J,N,C,f.le (l.trans n)]]| false =>rw[if_neg C9] at i⊢;exact f _ _ _ _ ae.mI A l i
 .exact i.elim
def w69{op j:CmpOp}{r r':R3}(p:fT X (L6 op) r)(o:fT X (L6 j) r')(B:E3 X a ta)(A:E3 X b tb)(y:E3 X c tc)(u:lastMarks [op,j] [b,c]=false:=by with_unfolding_all rfl):T3 X (.Compare a [op,j] [b,c] pos) (dB (T' r r' ta tb tc)):=
 Nj (vp4 p o B A y u) λσ H Q h=>by
  let#[g,G,q,l,c,t,f]:=h;exact vg6 (K:=X.K) #[g,G,_,l,c,t,λx E v C m c1 n i=>by
   split at i
   .rename_i k;exact#[k,m.cb,f _ _ _ c1 n i]
   .exact i.elim]
end
end L3
namespace L2
open PySem PySem.Spec PyProof.Rows
def jn(f:Str)(g:List Str):Str:=D27 f g
section
variable{X:Cx}
theorem us9:∀{f:List Str} {us:List Value},Vals (f.map V.str) us->∃l:List (Str×Tok),us=strValues l/\l.map (·.1)=f
 | [],_,.nil=>#[[],rfl,rfl]| w::f,_,.cons r t=>by let#[l,rfl,e]:=us9 t;let#[k,rfl]:=r;exact#[(w,k)::l,rfl,by rw[C0,e]]
def rJoin(K:W.Frag):V->List V->Hp->VK->Prop:=λx h H Q=>∃(f:Str) (p:Addr) (g:List Str),x=.str f/\h=[.ref p]/\eR K H p (g.map V.str)/\QK ((g.toArray).foldl (·+·.length+f.length) 0)=false/\(jn f g).length<=sizeLine/\Q (.str (jn f g)) H
def wj7:Aj X "str.join" (rJoin X.K):=by
 intro pins s y H x B v C Q I i j h;let#[f,p,A,rfl,rfl,o,r,g,q]:=h;let#[t,rfl]:=i;let#[u,rfl,k]:=j.one;cases k;let#[its,m,n,_]:=I.list o;let#[l,rfl,e]:=us9 m;apply Dt F.slot_str_join (Zy _ _ _) F.entry_str_join (F.args_str_join_2 _ _) (meets_str_join_list f t p l (by rw[e];exact r)) #[n.isList,?_]
 match l,e with
 | [],e =>subst e;exact#[g,.str _,H,I.tok _,#[_,rfl],q]| [a],e =>subst e;exact#[.str _,H,I,#[_,rfl],q]| a::b::l,e =>subst e;exact#[g,.str _,H,I.tok _,#[_,rfl],q]
end
end L2
namespace L3
open PySem PySem.Spec PyProof.Rows L2
section
variable{X:Cx}{K:W.Frag}{H:Hp}{o e:Expr}{es:List Expr}{to:bC}{ts:eW}{apos aO:Pos}
@[reducible] def x83:M3:=λx h G q=>∃(f:Str) (a:Addr) (g:List Str),x=.str f/\h=[.ref a]/\bB (G a)=some (g.map .str)/\QK ((g.toArray).foldl (·+·.length+f.length) 0)=false/\(jn f g).length<=sizeLine/\q (.str (jn f g)) G
theorem v19:∀{f:List Str} {vs:List V},ag K H (f.map .str) vs->vs=f.map V.str
 | [],vs,r=>r.a_| w::f,vs,r=>by let#[x,i,rfl,h,g]:=r.ay;rw[v19 g,h.str_inv];rfl
def ty_str(K:W.Frag):∀G H x v,bY K G H->ae K H x v->lE G "str" x->Gz K "str" v H:=by
 intro G H x v c r t;cases x with
 | str i=>cases r.str_inv;exact rfl
 | int _=>simp[lE] at t| ref a=>cases e:G a with
  | none=>simp[lE,e] at t| some o=>cases o <;> simp[lE,e] at t
 | _=>exact t.elim
def xb5(r:E3 X o to)(u:A3 X (e::es) ts)(C:O2 o "join" X.env (eval o X.env)=eval o X.env:=by rfl)
  (n:((backTo aO (D1 (e::es) X.env)).all (λx=>!x.1)&&(X5 aO (P4 [] X.env)).all (λx=>x.1.isSome)
   && decide ((e::es).length+([]:List Keyword).length+(if([]:List Keyword).isEmpty then 0 else 1)<30))=true:=by rfl)
  (E:(apos.endLine==aO.line)=true:=by rfl) (p:D1 (e::es) X.env=(false,eval e X.env)::D1 es X.env:=by rfl) (B:(backTo aO (D1 es X.env)).any (·.1)=false:=by rfl):
  E3 X (.Call (.Attribute o "join" apos) (e::es) [] aO) (EM "str" x83 to ts):=
 dX (RI PySem.F.plainAttrs_str PySem.F.slot_str_join PySem.F.type_str_join (Ux (r':=uB X.K x83) wj7 <| by rintro x xs H Q ⟨d,L,G,q,l,k,c,⟨g,a,h,rfl,rfl,es,A,y,t⟩,f⟩;let#[v,rfl,j]:=k.one;cases j.ar;cases l.str_inv;let#[I,i,m]:=e_ c es;obtain rfl:=v19 m;exact#[g,a,h,rfl,rfl,i,A,y,f _ _ _ _ ae.BE c (Le.refl H) t]) r u C n E p B) λ_ _ _=>Uh (ty_str X.K)
def x95:∀g:List Str,(jn U0 g).length=(g.map Fb).sum:=by
 have key:∀(g:List Str) (f:Array Nat),(g.foldl (λf p=>f++U0.cps++p.cps) f).size=f.size+(g.map Fb).sum:=by
  intro g;induction g with
  | nil=>intro f;simp| cons w g h =>
   intro f;rw[Z6,h,B05,B05];show f.size+0+w.cps.size+_=_;rw[C0,K9];show _=f.size+(w.cps.size+_)
   omega
 intro g;cases g with
 | nil=>rfl| cons w g =>show(g.foldl (λf p=>f++U0.cps++p.cps) w.cps).size=_;rw[key];rfl
end
end L3
namespace L3
open PySem PySem.Spec PyProof.Rows L2 Rw
inductive mK
 | num (i:Nat)
 | box (x:Str)
def aD:mK->D
 | .num i=>.int (i:Int)| .box x=>.str x
inductive av
 | is (x:Str) (a:mK)
 | op (x o:Str) (a b:mK)
 | fG (a:mK) (ys ns:List av)
 | kx (k:Nat) (ys:List av)
mutual
def gM:av->D
 | .is x a=>.tup [.str "is",.str x,aD a]| .op x o a b=>.tup [.str "op",.str x,.str o,aD a,aD b]| .fG a f g=>.tup [.str "choose",aD a,.tup (cq f),.tup (cq g)]| .kx k f=>.tup [.str "times",.int (k:Int),.tup (cq f)]
def cq:List av->List D
 | []=>[]| r::f=>gM r::cq f
end
theorem yg:∀rs:List av,cq rs=rs.map gM
 | []=>rfl| r::rs=>by rw[cq,yg rs];rfl
def ye(rs:List av):(cq rs).length=rs.length:=by rw[yg,B0]
def ut6(a b:List av):cq (a++b)=cq a++cq b:=by rw[yg,yg,yg,B7]
def j0(W:Nat)(bs:List Str):mK->Prop
 | .num i=>i<2^W| .box x=>x∈bs
def signs:List Str:=["+", "-", "&", "|", "^", "<", "="]
mutual
def tN(W:Nat)(bs:List Str):av->Prop
 | .is x a=>x∈bs/\j0 W bs a| .op x o a b=>x∈bs/\o∈signs/\j0 W bs a/\j0 W bs b| .fG a f g=>j0 W bs a/\d8 W bs f/\d8 W bs g| .kx k f=>k<=20/\d8 W bs f
def d8(W:Nat)(bs:List Str):List av->Prop
 | []=>True| r::f=>tN W bs r/\d8 W bs f
end
theorem d7:∀{a b:List av},d8 W bs (a++b)↔d8 W bs a/\d8 W bs b
 | [],b=>by simp[d8]| r::a,b=>by show tN W bs r/\d8 W bs (a++b)↔(tN W bs r/\d8 W bs a)/\d8 W bs b;rw[d7,and_assoc]
mutual
def j8:av->Nat
 | .is _ _=>0| .op _ _ _ _=>0| .fG _ f g=>1+max (bj f) (bj g)| .kx _ f=>1+bj f
def bj:List av->Nat
 | []=>0| r::f=>max (j8 r) (bj f)
end
theorem Ea:∀{a b:List av},bj (a++b)=max (bj a) (bj b)
 | [],b=>by simp[bj]| r::a,b=>by show max (j8 r) (bj (a++b))=max (max (j8 r) (bj a)) (bj b);rw[Ea];omega
mutual
def qP:av->Nat
 | .is _ _=>1| .op _ _ _ _=>1| .fG _ f g=>1+dw f+dw g| .kx k f=>k*dw f
def dw:List av->Nat
 | []=>0| r::f=>qP r+dw f
end
theorem U_:∀{a b:List av},dw (a++b)=dw a+dw b
 | [],b=>by simp[dw]| r::a,b=>by show qP r+dw (a++b)=qP r+dw a+dw b;rw[U_];omega
mutual
def pR:av->Nat
 | .is _ _=>1| .op _ _ _ _=>1| .fG _ f g=>1+bZ f+bZ g| .kx _ f=>1+bZ f
def bZ:List av->Nat
 | []=>0| r::f=>pR r+bZ f
end
theorem D':∀{a b:List av},bZ (a++b)=bZ a+bZ b
 | [],b=>by simp[bZ]| r::a,b=>by show pR r+bZ (a++b)=pR r+bZ a+bZ b;rw[D'];omega
def w74:∀r:av,1<=pR r
 | .is _ _=>B9 _| .op _ _ _ _=>B9 _| .fG _ f g=>by show 1<=1+bZ f+bZ g;omega| .kx _ f=>by show 1<=1+bZ f;omega
theorem Ue:∀rs:List av,rs.length<=bZ rs
 | []=>B9 _| r::rs=>by have:=w74 r;have:=Ue rs;show rs.length+1<=pR r+bZ rs;omega
inductive Hd
 | c1 (a:mK)
 | c2 (a:mK) (ys:List av)
 | tm (k:Nat)
def hdD:Hd->D
 | .c1 a=>.tup [.str "choose",aD a]| .c2 a f=>.tup [.str "choose",aD a,.tup (cq f)]| .tm k=>.tup [.str "times",.int (k:Int)]
structure Fr where
 p:Addr
 ahead:List av
 hd:Hd
 o:Nat
def Hd.wt:Hd->Nat
 | .c1 _=>1| .c2 _ f=>1+dw f| .tm _=>0
def Hd.ok(W:Nat)(bs:List Str):Hd->Prop
 | .c1 a=>j0 W bs a| .c2 a f=>j0 W bs a/\d8 W bs f| .tm k=>k<=20
theorem UR:∀{ys:List av} {d:Nat},bj ys<=d->∀r∈ys,j8 r<=d
 | [],_,_,r,h=>by cases h
 | y::ys,d,f,r,h=>by
  simp only[bj] at f;rcases D7.mp h with e|e
  .subst e;omega
  .exact UR () r e
end L3
namespace L2
open PySem PySem.Spec PyProof.Rows
section
variable{X:Cx}
def xi6(K:W.Frag):R2:=λx y H Q=>∃a b xs f,x=.ref a/\y=.ref b/\eF K H a xs/\eF K H b f/\xs.length+f.length<=sizeLine /\
 (xs=[]->Q (.ref b) H)/\(xs≠[]->f=[]->Q (.ref a) H)/\(∀p,H p=none->Q (.ref p) (upd H p (.tup (xs++f))))
def wj2:dg X (N0 .Add) (xi6 X.K):=by
 intro pins s t H x y v u Q I l k h;let#[a,b,xs,A,rfl,rfl,r,q,S,M,L,J]:=h;by_cases g:xs=[]
 .cases l;cases k;let#[its,G,O,_]:=I.tuple r;let#[Y,Z,N,_]:=I.tuple q;let#[#[U,dd,data,E],m,p,n,o]:=id O;let#[#[YW,C,data2,B],i,j,R,f]:=id N;simp only at p o j f;subst p o j f;exact ZM #[_,m,rfl] #[_,i,rfl] B33 ZV A44 A36 (A26 _ _)
   (tuple_addW0 a b its.toArray Y.toArray n R dd C E B (by simp[G.je.mpr g])) #[m,i,#[.ref b,H,I,rfl,M g]]
 .exact q_ pins s t H (.ref a) (.ref b) v u Q I l k #[a,b,xs,A,rfl,rfl,r,q,g,S,L g,λ_=>J]
end
end L2
namespace L3
open PySem PySem.Spec PyProof.Rows L2
section
variable{X:Cx}
def wr7:R3:=λx y G q=>match x,y with
 | .tup a,.tup b=>a.length+b.length<=sizeLine/\q (.tup (a++b)) G| _,_=>False
def wr5:fT X (N0 .Add) wr7:=tH wj2 <| by
 rintro x y H Q ⟨d,e,G,q,r,o,c,t,f⟩;unfold wr7 at t;split at t
 .let#[a,xs,rfl,l,i]:=r.aS;let#[b,n,rfl,k,g]:=o.aS;have e:∀{m:List D},ag X.K H m []->m=[]:=λh=>E8 h.length;apply#[a,b,xs,n,rfl,rfl,l,k,by rw[<- i.length,<- g.length];exact t.1,λz=>?_,λ_ z=>?_,λp j=>?_]
  .apply f (.tup _) G (.ref b) _ ?_ c (Le.refl _) t.2;rw[ae];subst z;rw[e i,J6];exact#[b,_,rfl,k,g]
  .apply f (.tup _) G (.ref a) _ ?_ c (Le.refl _) t.2;rw[ae];subst z;rw[e g,D9];exact#[a,_,rfl,l,i]
  .apply f (.tup _) G (.ref p) _ ?_ (c.side j) (Le.fresh j) t.2;rw[ae];exact#[p,_,rfl,eF.of iq,ag.le (Le.fresh j) (i.append g)]
 .exact t.elim
end
end L3
namespace L2
open PySem PySem.Spec PyProof.Rows
def tyN:Bool->String
 | true => "tuple_iterator"| false => "list_iterator"
def eC(c:Bool)(h:Heap)(it l:Addr)(i:Nat):Prop:=∃o,h.get? it=some o/\o.cls=.type (tyN c)/\o.data=.fields [.ref l,.int i 0].toArray
def fL(c:Bool)(h:Heap)(l:Addr)(xs:Array Value):Prop:=∃o,h.get? l=some o/\o.cls=.type (cond c "tuple" "list")/\∃n,o.data=.seq xs n
def eC.at{h h':Heap}(x:eC c h it l i)(e:∀o,h.get? it=some o->h'.get? it=some o):eC c h' it l i:=let ⟨o,f,r⟩:=x;#[o,e _ f,r]
def fL.at{h h':Heap}(x:fL c h l xs)(e:∀o,h.get? l=some o->h'.get? l=some o):fL c h' l xs:=let ⟨o,f,r⟩:=x;#[o,e _ f,r]
section
variable{prog:Program}{w:World}{A:Around}{E:Value->Shared->Prop}{s:Shared}
def x80(h:s.heap.IsTupleIter j l i)(m:s.heap.IsTuple l xs)(k:xs[i]?=some x) (q:∀h',h'.IsTupleIter j l (i+1)->U9 j s.heap h'->Q x { s with heap:=h'}):wpAny (model prog w) A (K5 (.ref j)) Q E s:=by
 let#[u,g,o,f]:=id h;let#[v,ev,_,p,n]:=m;unfold K5;apply B5 (O5 (name:=J0 "__next__") h.typeIs F.slot_tuple_iterator_next (P3 F.slot_tuple_iterator_next h.typeIs F.entry_tuple_iterator_next ?_ (F.args_tuple_iterator_next_1 _)));show wpAny _ _ (field (.ref j) 0 >>= _) _ _ s;apply B5 (L9 g f (x:=.ref l) rfl ?_);show wpAny _ _ (if(F0 l==X7)=true then _ else _) _ _ s;rw[if_neg (c:=(F0 l==X7)=true) λz=>C9 z];show wpAny _ _ (field (.ref j) 1 >>= _) _ _ s;apply B5 (L9 g f (x:=.int i 0) rfl ?_);show wpAny _ _ (seqItems? (.ref l) >>= _) _ _ s;apply B5 (N3 ev n ?_);simp only[U2,k];apply B5 (wpAny_setField g f (by simp) (C4 #[x,rfl,C4 (q _ ?_ (B71 ..))]));apply#[_,B58 _ g (Obj.isFreed_of_fields (B85 f _)),(Obj.cls_mapFields ..).trans o,?_];rw[B85 f];simp[rawInt]
def v68(hh:A.handled=none)(f:s.heap.IsTupleIter j l i)(n:s.heap.IsTuple l xs)(k:xs[i]?=none) (q:∀h' e,D03 j s.heap h'->(∃o,h'.get? e=some o/\o.cls=.type "StopIteration")->E (.ref e) { s with heap:=h'}):wpAny (model prog w) A (K5 (.ref j)) Q E s:=by
 let#[u,g,t,h]:=id f;let#[v,ev,_,r,p]:=n;unfold K5;apply B5 (O5 (name:=J0 "__next__") f.typeIs F.slot_tuple_iterator_next (P3 F.slot_tuple_iterator_next f.typeIs F.entry_tuple_iterator_next ?_ (F.args_tuple_iterator_next_1 _)));show wpAny _ _ (field (.ref j) 0 >>= _) _ _ s;apply B5 (L9 g h (x:=.ref l) rfl ?_);show wpAny _ _ (if(F0 l==X7)=true then _ else _) _ _ s;rw[if_neg (c:=(F0 l==X7)=true) λz=>C9 z];show wpAny _ _ (field (.ref j) 1 >>= _) _ _ s;apply B5 (L9 g h (x:=.int i 0) rfl ?_);show wpAny _ _ (seqItems? (.ref l) >>= _) _ _ s;apply B5 (N3 ev p ?_);simp only[U2,k];apply B5 (Du (B5 (wpAny_setField g h (by simp) ?_)));show wpAny _ _ (newExc (.type "StopIteration") [] >>= _) _ _ _;apply B5 ?_;simp only[newExc,newTuple];apply B5 (U6 ?_ (by size_fits));apply B5 (m:=firstArgMember _ _) (wpAny_of_eq (a:=X7) (by first|rfl|(simp only[firstArgMember];rfl)) ?_);apply U6 ?_ (by size_fits);simp only[raiseNew];apply B5 (wpAny_handled ?_);first|rw[show A.in1.handled=none from hh]|rw[hh]
 apply B5 (C4 (wpAny_throw ?_));exact q _ _ (((B71 ..).extBut.push _).push _) ⟨_,E4 _ rfl,rfl⟩
def Ge(h:eC c s.heap j l i)(g:fL c s.heap l xs)(f:xs[i]?=some x) (q:∀h',eC c h' j l (i+1)->U9 j s.heap h'->Q x { s with heap:=h'}):wpAny (model prog w) A (K5 (.ref j)) Q E s:=by
 cases c with
 | true=>exact x80 h g f q| false=>exact wpAny_nextOf_list_item h g f q
def Uo(hh:A.handled=none)(h:eC c s.heap j l i)(g:fL c s.heap l xs)(f:xs[i]?=none) (q:∀h' e,D03 j s.heap h'->(∃o,h'.get? e=some o/\o.cls=.type "StopIteration")->E (.ref e) { s with heap:=h'}):wpAny (model prog w) A (K5 (.ref j)) Q E s:=by
 cases c with
 | true=>exact v68 hh h g f q| false=>exact wpAny_nextOf_list_end hh h g f q
def w54{c d:Bool}{z TI TO i g G C:Addr}{I k2:Nat}{xs ys:Array Value}{x y a b:Value}{Q:Value->Shared->Prop}(D:xH z TI TO i g G C) (p:IsZip s.heap z TI TO .none) (eI:IsPair s.heap TI (.ref i) (.ref g)) (eO:IsPair s.heap TO a b) (j1:eC c s.heap i G I) (j2:eC d s.heap g C k2) (m1:fL c s.heap G xs) (m2:fL d s.heap C ys) (hx:xs[I]?=some x) (hy:ys[k2]?=some y) (q:∀h',IsZip h' z TI TO (rawInt s.heap.objs.size)->IsPair h' TO x y->eC c h' i G (I+1)->eC d h' g C (k2+1)->IsPair h' s.heap.objs.size x y->h'.objs.size=s.heap.objs.size+1->(∀e o,e≠z->e≠TO->e≠i->e≠g->s.heap.get? e=some o->h'.get? e=some o)->Q (.ref s.heap.objs.size) { s with heap:=h'}): wpAny (model prog w) A (Builtin.«zip.__next__» #[[.ref z],[]]) (λfin s'=>∃v,fin=.done (.ret v)/\Q v s') E s:=by
 show wpAny _ _ (field (.ref z) 2 >>= _) _ _ _;apply B5 (L9 p rfl (x:=.bool false) rfl ?_);show wpAny _ _ (field (.ref z) 3 >>= _) _ _ _;apply B5 (L9 p rfl (x:=.ref TI) rfl ?_);apply B5 (N3 eI rfl ?_);show wpAny _ _ (M0 (.ref z) >>= _) _ _ _;apply B5 ?_;unfold M0;apply B5 (L9 p rfl (x:=.none) rfl (C4 ?_));simp only[if_true];apply B5 (Du ?_);apply B5 (L9 p rfl (x:=.ref TO) rfl ?_);apply B5 (Q5 p (by simp) λg1 L b1=>?_);replace L:IsZip g1 z TI TO .ellipsis:=L;have j:∀{e o},e≠z->s.heap.get? e=some o->g1.get? e=some o:=λn z=>(b1.2 _ n).trans z;apply B5 ?_;simp only[C14,C32,MO,Qu];apply B5 (B5 (Qn ?_));show wpAny _ _ (K5 (.ref i) >>= _) _ _ _;apply B5 (Ge (j1.at λo=>j D.i1z) (m1.at λo=>j D.l1z) hx λg2 n1 b2=>C4 ?_);have m:∀{e o},e≠i->g1.get? e=some o->g2.get? e=some o:=λn z=>(b2.2 _ n).trans z;have o2:IsPair g2 TO a b:=m D.TOi1 (j D.TOz eO);apply B5 (N3 o2 rfl ?_);apply B5 (A71 o2 λg3 o3 b3=>?_);replace o3:IsPair g3 TO x b:=o3;have l:∀{e o},e≠TO->g2.get? e=some o->g3.get? e=some o:=λn z=>(b3.2 _ n).trans z;apply B5 (ZE (C4 ?_));apply B5 (B5 (Qn ?_));show wpAny _ _ (K5 (.ref g) >>= _) _ _ _;apply B5 (Ge (j2.at λo e=>l (D3 D.TOi2) (m (D3 D.i12) (j D.i2z e))) (m2.at λo e=>l D.l2TO (m D.l2i1 (j D.l2z e))) hy λJ n2 b4=>C4 ?_);have B:∀{e o},e≠g->g3.get? e=some o->J.get? e=some o:=λn z=>(b4.2 _ n).trans z;have o4:IsPair J TO x b:=B D.TOi2 o3;apply B5 (N3 o4 rfl ?_);apply B5 (A71 o4 λf o5 b5=>?_);replace o5:IsPair f TO x y:=o5;have u:∀{e o},e≠TO->J.get? e=some o->f.get? e=some o:=λn z=>(b5.2 _ n).trans z;apply B5 (ZE (C4 (C4 ?_)));apply B5 (N3 o5 rfl ?_);apply B5 (wpAny_newTuple ?_);have S:f.objs.size=s.heap.objs.size:=by rw[b5.1,b4.1,b3.1,b2.1,b1.1]
 have N:IsZip f z TI TO .ellipsis:=u (D3 D.TOz) (B (D3 D.i2z) (l (D3 D.TOz) (m (D3 D.i1z) L)));have zl:z<f.objs.size:=D8 N;show wpAny _ _ (A23 (.ref z) (.ref f.objs.size) >>= _) _ _ _;apply B5 ?_;unfold A23;have z6:IsZip (f.push { cls:=.type "tuple",data:=.seq [x,y].toArray}) z TI TO .ellipsis:=B8 _ N;apply B5 (Q5 z6 (by simp) λg7 H b7=>?_);replace H:IsZip g7 z TI TO (rawInt f.objs.size):=H;apply Q5 H (by simp) λk r Z=>?_;replace r:IsZip k z TI TO (rawInt f.objs.size):=r;have O:∀{e o},e≠z->(f.push { cls:=.type "tuple",data:=.seq [x,y].toArray}).get? e=some o->k.get? e=some o:=λn z=>(Z.2 _ n).trans ((b7.2 _ n).trans z);have R:IsPair k f.objs.size x y:=O (Z1 zl) (E4 _ rfl);have U:k.objs.size=f.objs.size+1:=by rw[Z.1,b7.1,T8]
 rw[S] at r R U;apply C4 #[_,rfl,?_];show Q (.ref f.objs.size) _;rw[S];have t:∀{e o},e≠z->f.get? e=some o->k.get? e=some o:=λn z=>O n (B8 _ z);exact q k r (t D.TOz o5) (n1.at λo e=>t D.i1z (u (D3 D.TOi1) (B D.i12 (l (D3 D.TOi1) e)))) (n2.at λo e=>t D.i2z (u (D3 D.TOi2) e)) R U
  λe o Y X p3 p4 h=>t Y (u X (B p4 (l X (m p3 (j Y h)))))
def wq8{c d:Bool}{z TI TO k p J I:Addr}{j k2:Nat}{xs ys:Array Value}{a b:Value}{Q:Fin->Shared->Prop}(hh:A.handled=none)(D:xH z TI TO k p J I) (t:IsZip s.heap z TI TO .none) (eI:IsPair s.heap TI (.ref k) (.ref p)) (eO:IsPair s.heap TO a b) (S:eC c s.heap k J j) (j2:eC d s.heap p I k2) (R:fL c s.heap J xs) (m2:fL d s.heap I ys) (CI:xs[j]?=none\/ys[k2]?=none) (q:∀h' e,(∀e o,e≠z->e≠TO->e≠k->e≠p->s.heap.get? e=some o->h'.get? e=some o)->(∃o,h'.get? e=some o/\o.cls=.type "StopIteration")->E (.ref e) { s with heap:=h'}): wpAny (model prog w) A (Builtin.«zip.__next__» #[[.ref z],[]]) Q E s:=by
 show wpAny _ _ (field (.ref z) 2 >>= _) _ _ _;apply B5 (L9 t rfl (x:=.bool false) rfl ?_);show wpAny _ _ (field (.ref z) 3 >>= _) _ _ _;apply B5 (L9 t rfl (x:=.ref TI) rfl ?_);apply B5 (N3 eI rfl ?_);show wpAny _ _ (M0 (.ref z) >>= _) _ _ _;apply B5 ?_;unfold M0;apply B5 (L9 t rfl (x:=.none) rfl (C4 ?_));simp only[if_true];apply B5 (Du ?_);apply B5 (L9 t rfl (x:=.ref TO) rfl ?_);apply B5 (Q5 t (by simp) λg1 y b1=>?_);replace y:IsZip g1 z TI TO .ellipsis:=y;have i:∀{e o},e≠z->s.heap.get? e=some o->g1.get? e=some o:=λn z=>(b1.2 _ n).trans z;apply B5 ?_;simp only[C14,C32,MO,Qu];apply B5 (B5 (Qn ?_));show wpAny _ _ (K5 (.ref k) >>= _) _ _ _;have M:∀{g:Heap} {e:Addr},IsZip g z TI TO .ellipsis->(∃o,g.get? e=some o/\o.cls=.type "StopIteration")->e≠z:=λhz ⟨o,U,h2⟩ n=>by subst n;rw[hz] at U;cases U;simp at h2
 cases L:xs[j]? with
 | none =>apply B5 (Uo hh (S.at λo=>i D.i1z) (R.at λo=>i D.l1z) L λg2 e C r=>?_);have O:IsZip g2 z TI TO .ellipsis:=C _ _ (D3 D.i1z) y;have ne:=M O r;let#[H,j,k2]:=r;apply Q5 O (by simp) λg3 _ B=>q g3 e (λf o m _ G _ h=>(B.2 _ m).trans (C _ _ G (i m h))) #[H,(B.2 _ ne).trans j,k2]| some x =>
  have hy:ys[k2]?=none:=by
   rcases CI with h|h
   .rw[L] at h;cases h
   .exact h
  apply B5 (Ge (S.at λo=>i D.i1z) (R.at λo=>i D.l1z) L λg2 n1 C=>C4 ?_);have l:∀{e o},e≠k->g1.get? e=some o->g2.get? e=some o:=λn z=>(C.2 _ n).trans z;have o2:IsPair g2 TO a b:=l D.TOi1 (i D.TOz eO);apply B5 (N3 o2 rfl ?_);apply B5 (A71 o2 λg3 o3 B=>?_);have u:∀{e o},e≠TO->g2.get? e=some o->g3.get? e=some o:=λn z=>(B.2 _ n).trans z;apply B5 (ZE (C4 ?_));apply B5 (B5 (Qn ?_));show wpAny _ _ (K5 (.ref p) >>= _) _ _ _;apply B5 (Uo hh (j2.at λo e=>u (D3 D.TOi2) (l (D3 D.i12) (i D.i2z e))) (m2.at λo e=>u D.l2TO (l D.l2i1 (i D.l2z e))) hy λg4 e Y r=>?_);have N:IsZip g4 z TI TO .ellipsis:=Y _ _ (D3 D.i2z) (u (D3 D.TOz) (l (D3 D.i1z) y));have ne:=M N r;let#[H,j,k2]:=r;apply Q5 N (by simp) λg5 _ X=>q g5 e (λf o m p2 G Z h=>(X.2 _ m).trans (Y _ _ Z (u p2 (l G (i m h))))) #[H,(X.2 _ ne).trans j,k2]
def w53{c d:Bool}{z TI TO g f i h:Addr}{j k2:Nat}{xs ys:Array Value}{x y a b:Value}{Q:Option Value->Shared->Prop}(D:xH z TI TO g f i h) (k:IsZip s.heap z TI TO .none) (B:IsPair s.heap TI (.ref g) (.ref f)) (u:IsPair s.heap TO a b) (p:eC c s.heap g i j) (n:eC d s.heap f h k2) (m:fL c s.heap i xs) (l:fL d s.heap h ys) (t:xs[j]?=some x) (r:ys[k2]?=some y) (q:∀h',IsZip h' z TI TO (rawInt s.heap.objs.size)->IsPair h' TO x y->eC c h' g i (j+1)->eC d h' f h (k2+1)->IsPair h' s.heap.objs.size x y->h'.objs.size=s.heap.objs.size+1->(∀e o,e≠z->e≠TO->e≠g->e≠f->s.heap.get? e=some o->h'.get? e=some o)->Q (some (.ref s.heap.objs.size)) { s with heap:=h'}): wpAny (model prog w) A (pyNext (.ref z)) Q E s:=by
 have ty:s.TypeIs (.ref z) "zip" := #[_,k,rfl];unfold pyNext;apply B5 (Qm (O5 (name:=J0 "__next__") ty F.slot_zip_next (P3 F.slot_zip_next ty F.entry_zip_next ?_ (F.args_zip_next_1 _))));exact w54 D k B u p n m l t r λh' M L J I H G C=>C4 (q h' M L J I H G C)
def w52{c d:Bool}{z TI TO h g j i:Addr}{f k2:Nat}{xs ys:Array Value}{a b:Value}{Q:Option Value->Shared->Prop}(hh:A.handled=none)(D:xH z TI TO h g j i) (k:IsZip s.heap z TI TO .none) (u:IsPair s.heap TI (.ref h) (.ref g)) (t:IsPair s.heap TO a b) (p:eC c s.heap h j f) (n:eC d s.heap g i k2) (m:fL c s.heap j xs) (l:fL d s.heap i ys) (x:xs[f]?=none\/ys[k2]?=none) (q:∀h',(∀e o,e≠z->e≠TO->e≠h->e≠g->s.heap.get? e=some o->h'.get? e=some o)->Q none { s with heap:=h'}):wpAny (model prog w) A (pyNext (.ref z)) Q E s:=by
 have ty:s.TypeIs (.ref z) "zip" := #[_,k,rfl];unfold pyNext;apply B5 (Qm (O5 (name:=J0 "__next__") ty F.slot_zip_next (P3 F.slot_zip_next ty F.entry_zip_next ?_ (F.args_zip_next_1 _))));apply wq8 hh D k u t p n m l x λh' e r ⟨o,f,k2⟩=>?_;exact B5 (MP (T:= "StopIteration") (b:=true) #[o,f,k2] isSubtype_stop (C4 (q _ r)))
end
abbrev itO(c:Bool)(l:Addr):Obj:={ cls:=.type (tyN c),data:=.fields [.ref l,.int 0 0].toArray}
abbrev MV(h:Heap)(c:Bool)(f:Addr):Heap:=h.push (itO c f)
abbrev MU(h:Heap)(c d:Bool)(g f:Addr):Heap:=(MV h c g).push (itO d f)
abbrev MT(h:Heap)(c d:Bool)(f g:Addr):Heap:=(MU h c d f g).push { cls:=.type "tuple",data:=.seq [.ref h.objs.size,.ref (MV h c f).objs.size].toArray}
abbrev MS(h:Heap)(c d:Bool)(g f:Addr):Heap:=(MT h c d g f).push { cls:=.type "tuple",data:=.seq [.none,.none].toArray}
abbrev Bc(h:Heap)(c d:Bool)(g f:Addr):Heap:=(MS h c d g f).push { cls:=.type "zip",data:=.fields [.none,.bool false,.bool false,.ref (MU h c d g f).objs.size,.ref (MT h c d g f).objs.size].toArray}
theorem fL.push(x:fL c h l xs)(o:Obj):fL c (h.push o) l xs:=x.at λ_ e=>B8 o e
set_option maxHeartbeats 4000000 in
def wq7(c d:Bool)(f i:Addr)(xs ys:Array Value): Meets (Builtin.«zip.__new__» #[[.type "zip",.ref f,.ref i],[]]) (λ_ R s=>fL c s.heap f xs/\fL d s.heap i ys/\R (.ok (.ret (.ref (MS s.heap c d f i).objs.size))) { s with heap:=Bc s.heap c d f i}):=
 .of_wp λp w A R s h=>by
  let#[m,g,dd,l,os]:=s;let#[q,o,h]:=h;have sub:=sub_zip;cases c with
  | true =>
   have n:ZN (Fc #[m,g,dd,l,os]) f xs:=q;cases d with
   | true =>
    have k:ZN (Fc #[m.push { cls:=.type "tuple_iterator",data:=.fields [.ref f,.int 0 0].toArray},g,dd,l,os]) i ys:=o.push _
    wp_walk using Z4 n,Z4 k
    exact#[_,rfl,h]
   | false =>
    have k:ZH (Fc #[m.push { cls:=.type "tuple_iterator",data:=.fields [.ref f,.int 0 0].toArray},g,dd,l,os]) i ys:=o.push _
    wp_walk using Z4 n,X6 k
    exact#[_,rfl,h]
  | false =>
   have n:ZH (Fc #[m,g,dd,l,os]) f xs:=q;cases d with
   | true =>
    have k:ZN (Fc #[m.push { cls:=.type "list_iterator",data:=.fields [.ref f,.int 0 0].toArray},g,dd,l,os]) i ys:=o.push _
    wp_walk using X6 n,Z4 k
    exact#[_,rfl,h]
   | false =>
    have k:ZH (Fc #[m.push { cls:=.type "list_iterator",data:=.fields [.ref f,.int 0 0].toArray},g,dd,l,os]) i ys:=o.push _
    wp_walk using X6 n,X6 k
    exact#[_,rfl,h]
def Sq(c:Bool)(K:W.Frag)(H:Hp)(a:Addr)(xs:List V):Prop:=match c with
 | true=>eF K H a xs| false=>eR K H a xs
def Inv.sq(I:Inv X pins i H s)(h:Sq c X.K H a xs):∃its:List Value,Vals xs its/\fL c s.heap a its.toArray:=by
 cases c with
 | true =>let#[its,r,p,_]:=I.tuple h;exact#[its,r,p]| false =>let#[its,r,p,_]:=I.list h;let#[o,e,g,f]:=p.isList;exact#[its,r,o,e,g,f]
end L2
namespace L3
open PySem PySem.Spec PyProof.Rows L2
def uj(G:Gp):D->Option (List D)
 | .tup f=>some f| .ref a=>bB (G a)| _=>none
def wv0{K:W.Frag}{G:Gp}{i:Hp}{x:D}{v:V}{ds:List D}(r:ae K i x v)(n:bY K G i)(h:uj G x=some ds):∃c a,v=.ref a/\(∃xs,Sq c K i a xs)/\∀j f,Le i f->bY K j f->uj j x=some ds->∃xs,Sq c K f a xs/\ag K f ds xs:=by
 cases x with
 | tup o =>cases h;let#[a,xs,rfl,g,k]:=r.aS;exact#[true,a,rfl,#[xs,g],λj f l c _=>#[xs,l.GR g,ag.le l k]]
 | ref a =>cases r.ar;let#[xs,g,k]:=e_ n h;apply#[false,a,rfl,#[xs,g],λj f l c m=>e_ c m]
 | _=>cases h
end L3
namespace L3
open PySem PySem.Spec PyProof.Rows L2 Rw
mutual
def iX:av->List av
 | .is x a=>[.is x a]| .op x o a b=>[.op x o a b]| .fG a f g=>[.fG a (aW f) (aW g)]| .kx k f=>(D2 k (aW f)).flatten
def aW:List av->List av
 | []=>[]| r::f=>iX r++aW f
end
theorem v26:∀{a b:List av},aW (a++b)=aW a++aW b
 | [],b=>rfl| r::a,b=>by show iX r++aW (a++b)=(iX r++aW a)++aW b;rw[v26,D4]
theorem vb0:∀k:Nat,bZ (D2 k ys).flatten=k*bZ ys
 | 0=>by simp[bZ]| k+1=>by rw[K4,L4,D',vb0 k,W7];omega
theorem v46(h:bj ys<=d):∀k:Nat,bj (D2 k ys).flatten<=d
 | 0=>by simp[bj]| k+1=>by have:=v46 h k;rw[K4,L4,Ea];omega
mutual
def xg:av->Prop
 | .is _ _=>True| .op _ _ _ _=>True| .fG _ f g=>fW f/\fW g| .kx _ _=>False
def fW:List av->Prop
 | []=>True| r::f=>xg r/\fW f
end
theorem fF:∀{a b:List av},fW (a++b)↔fW a/\fW b
 | [],b=>by simp[fW]| r::a,b=>by show xg r/\fW (a++b)↔(xg r/\fW a)/\fW b;rw[fF,and_assoc]
theorem ve6(h:fW ys):∀k:Nat,fW (D2 k ys).flatten
 | 0=>trivial| k+1=>by rw[K4,L4];exact fF.mpr #[h,ve6 h k]
mutual
theorem w27:∀r:av,bZ (iX r)=qP r
 | .is _ _=>rfl| .op _ _ _ _=>rfl| .fG a f g=>by have i:=DY f;have h:=DY g;show(1+bZ (aW f)+bZ (aW g))+0=1+dw f+dw g;omega| .kx k f=>by show bZ (D2 k (aW f)).flatten=k*dw f;rw[vb0,DY f]
theorem DY:∀rs:List av,bZ (aW rs)=dw rs
 | []=>rfl| r::rs=>by show bZ (iX r++aW rs)=qP r+dw rs;rw[D',w27 r,DY rs]
end
mutual
theorem wj1:∀r:av,bj (iX r)<=j8 r
 | .is _ _=>B9 _| .op _ _ _ _=>B9 _| .fG a f g=>by have h:=Gn f;have i:=Gn g;show max (1+max (bj (aW f)) (bj (aW g))) 0<=1+max (bj f) (bj g);omega| .kx k f=>by have h:=Gn f;show bj (D2 k (aW f)).flatten<=1+bj f;exact v46 () k
theorem Gn:∀rs:List av,bj (aW rs)<=bj rs
 | []=>B9 _| r::rs=>by have g:=wj1 r;have f:=Gn rs;show bj (iX r++aW rs)<=max (j8 r) (bj rs);rw[Ea];omega
end
mutual
theorem wy1:∀r:av,fW (iX r)
 | .is _ _=>#[trivial,trivial]| .op _ _ _ _=>#[trivial,trivial]| .fG a f g=>#[#[Gg f,Gg g],trivial]| .kx k f=>ve6 (Gg f) k
theorem Gg:∀rs:List av,fW (aW rs)
 | []=>trivial| r::rs=>fF.mpr #[wy1 r,Gg rs]
end
def vd7(rs:List av):(aW rs).length<=dw rs:=by have:=Ue (aW rs);rw[DY] at this;exact this
theorem ut5(ys:List av):∀k:Nat,(D2 k (cq ys)).flatten=cq (D2 k ys).flatten
 | 0=>rfl| k+1=>by rw[K4,K4,L4,L4,ut5 ys k,ut6]
theorem vx1:∀{rs:List av} {r:av},r∈rs->qP r<=dw rs
 | s::rs,r,h=>by
  show qP r<=qP s+dw rs;rcases D7.mp h with e|e
  .subst e;omega
  .have:=vx1 e;omega
theorem w31:∀{rs:List av} {r:av},fW rs->r∈rs->xg r
 | s::rs,r,h,m=>by
  rcases D7.mp m with e|e
  .subst e;exact h.1
  .exact w31 h.2 e
mutual
def EN:av->Prop
 | .is _ _=>True| .op _ _ _ _=>True| .fG _ f g=>jV f/\jV g| .kx k f=>dw f<=10000000/\jV f/\k<=20
def jV:List av->Prop
 | []=>True| r::f=>EN r/\jV f
end
theorem w48:∀{rs:List av} {r:av},jV rs->r∈rs->EN r
 | s::rs,r,h,m=>by
  rcases D7.mp m with e|e
  .subst e;exact h.1
  .exact w48 h.2 e
end L3
namespace L2
open PySem PySem.Spec PyProof.Rows
def vv1:entryFor table "zip.__getattribute__" = some Builtin.«object.__getattribute__» :=entryFor_alias (id':= "object.__getattribute__") (by kernel_rfl) ∅ ∅ (by kernel_rfl)
def wn3:My (.type "zip") "__getattr__" = pure none:=by rw[Z',A56];kernel_rfl
def vj9:My (.type "zip") "keys" = pure none:=by rw[Z',A56];kernel_rfl
def wn4(z TI TO:Addr)(u:Tok):Meets (Builtin.«object.__getattribute__» ⟨[.ref z,.str "keys" u],[]⟩) (λA R s=>IsZip s.heap z TI TO .none/\raisesAttr (.ref z) "keys" A R s):=
 Meets.of_wp λh w A R s f=>by
  let#[k,g,d,i,os]:=s;let#[j,f]:=f;have ty:(#[k,g,d,i,os]:Shared).TypeIs (.ref z) "zip" := #[_,j,rfl];have mi:=vj9;unfold Builtin.«object.__getattribute__»;repeat(any_goals (first|assumption|wp_step))
  exact wpAny_raiseAttrError f.1 f.2 ∅
def wn6{prog:Program}{w:World}{A:Around}{E:Value->Shared->Prop}{s:Shared}{z TI TO:Addr}{Q:Option Value->Shared->Prop}(h:IsZip s.heap z TI TO .none)(k:A.handled=none) (q:∀h' tk,(∀b o,s.heap.get? b=some o->h'.get? b=some o)->Q none { s with heap:=h',toks:=tk}):wpAny (model prog w) A (PR (.ref z) "keys") Q E s:=by
 let#[j,g,d,tk,os]:=s;have ty:∀i,(#[j,g,d,i,os]:Shared).TypeIs (.ref z) "zip" := λ_=>#[_,h,rfl];have f1:=sub_AttributeError;have t:=F.slot_zip_getattribute.lookup;have r:=F.slot_zip_getattribute.bind (.ref z);have p:=wn3;unfold PR getAttrBy? getAttrBy;repeat(any_goals (first|assumption|exact ty _|((with_reducible show wpAny _ _ (call (ZX "zip.__getattribute__") _ _) _ _ _);apply Dt F.slot_zip_getattribute (ty _) vv1 (F.args_zip_getattribute_2 _ _) (wn4 z TI TO _) ⟨h,k,λh' i e f=>?_⟩)|wp_step))
 let#[m,l,n]:=f.there;show wpAny _ _ (QH _ _ _ _ _ _ _) _ _ _;unfold QH;repeat(any_goals (first|assumption|wp_step))
 exact q _ _ f.keeps
section
variable{prog:Program}{w:World}{A:Around}{E:Value->Shared->Prop}{s:Shared}
def vn5{c d:Bool}{z TI TO j i l g T:Addr}{f:Bool}{J:Obj}{r k2:Nat}{xs ys:Array Value}{x y:Value}{Q:Value->Shared->Prop}(D:xH z TI TO j i l g)(m:wX s.heap z TI TO T f)(Y:s.heap.get? T=some J) (Z:IsPair s.heap TI (.ref j) (.ref i)) (S:eC c s.heap j l r) (R:eC d s.heap i g k2) (N:fL c s.heap l xs) (M:fL d s.heap g ys) (X:xs[r]?=some x) (U:ys[k2]?=some y) (q:∀h':Heap,wX h' z TI TO T true->eC c h' j l (r+1)->eC d h' i g (k2+1)->IsPair h' s.heap.objs.size x y->h'.objs.size=s.heap.objs.size+1->(∀e o,e≠z->e≠j->e≠i->s.heap.get? e=some o->h'.get? e=some o)->Q (.ref s.heap.objs.size) { s with heap:=h'}): wpAny (model prog w) A (Builtin.«zip.__next__» { pos:=[.ref z]}) (λfin L=>∃v,fin=Fin.done (Flow.ret v)/\Q v L) E s:=by
 unfold Builtin.«zip.__next__»;apply B5 (C4 ?_);apply B5 (L9 m rfl rfl ?_);apply B5 (L9 m rfl rfl ?_);apply B5 (N3 Z rfl ?_);apply B5 ?_;unfold M0;apply B5 (L9 m rfl rfl ?_);apply B5 (W.kdx_alive (a:=T) (o:=J) Y ?_);apply bg (Q:=λa I=>a=false/\∃G,I={ s with heap:=G}/\wX G z TI TO T true/\U9 z s.heap G) ?_ ?_
 .rw[if_neg (by simp)];apply B5 (L9 m rfl rfl ?_);cases f with
  | true=>exact C4 #[rfl,s.heap,rfl,m,rfl,λ_ _=>rfl]| false =>apply B5 (Q5 m (by simp) λh' e k=>?_);exact C4 #[rfl,h',rfl,e,k]
 .rintro a I ⟨rfl,h,rfl,Ce,k⟩;simp only[L7,if_false];simp only[<- Z0,MO,Qu];have Ex:eC c h j l r:=S.at λo e=>(k.2 j D.i1z).trans e;have Jk:eC d h i g k2:=R.at λo e=>(k.2 i D.i2z).trans e;have B:fL c h l xs:=N.at λo e=>(k.2 l D.l1z).trans e;have u:fL d h g ys:=M.at λo e=>(k.2 g D.l2z).trans e;apply B5 (B5 (B5 (N5 ?_)));apply B5 (Ge Ex B X λh' a1 n=>?_);apply C4 ?_;apply C4 ?_;have Xl:eC d h' i g k2:=Jk.at λo e=>(n.2 i (D3 D.i12)).trans e;have Xb:fL d h' g ys:=u.at λo e=>(n.2 g D.l2i1).trans e;apply B5 (B5 (N5 ?_));apply B5 (Ge Xl Xb U λt a2 p=>?_);apply C4 ?_;apply C4 ?_;apply C4 ?_;apply B5 (wpAny_newTuple ?_ (by simp;decide));have C:t.objs.size=s.heap.objs.size:=p.1.trans (n.1.trans k.1);apply C4 #[_,rfl,?_];show Q (.ref t.objs.size) _;rw[C];have O:∀c o,c≠z->c≠j->c≠i->s.heap.get? c=some o->t.get? c=some o:=λc o c1 c2 H e=>(p.2 c H).trans ((n.2 c c2).trans ((k.2 c c1).trans e));apply q _ ?_ ?_ ?_ ?_ ?_ λc o c1 c2 H e=>B8 _ (O c o c1 c2 H e)
  .exact B8 _ ((p.2 z (D3 D.i2z)).trans ((n.2 z (D3 D.i1z)).trans Ce))
  .exact a1.at λo e=>B8 _ ((p.2 j D.i12).trans e)
  .exact a2.at λo e=>B8 _ e
  .rw[<- C];exact E4 _ rfl
  .show(t.push _).objs.size=_;rw[<- C];simp[Heap.push]
def w51{c d:Bool}{z TI TO j l k u T:Addr}{f:Bool}{p:Obj}{r k2:Nat}{xs ys:Array Value}{Q:D29->Shared->Prop}(hh:A.handled=none)(D:xH z TI TO j l k u)(g:wX s.heap z TI TO T f)(C:s.heap.get? T=some p) (G:IsPair s.heap TI (.ref j) (.ref l)) (x:eC c s.heap j k r) (t:fL c s.heap k xs) (y:xs[r]?=none) (q:∀(h':Heap) (e:Addr),(∀e o,e≠z->e≠j->e≠l->s.heap.get? e=some o->h'.get? e=some o)->(∃o,h'.get? e=some o/\o.cls=.type "StopIteration")->E (.ref e) { s with heap:=h'}): wpAny (model prog w) A (Builtin.«zip.__next__» { pos:=[.ref z]}) Q E s:=by
 unfold Builtin.«zip.__next__»;apply B5 (C4 ?_);apply B5 (L9 g rfl rfl ?_);apply B5 (L9 g rfl rfl ?_);apply B5 (N3 G rfl ?_);apply B5 ?_;unfold M0;apply B5 (L9 g rfl rfl ?_);apply B5 (W.kdx_alive (a:=T) (o:=p) C ?_);apply bg (Q:=λa n=>a=false/\∃m,n={ s with heap:=m}/\wX m z TI TO T true/\U9 z s.heap m) ?_ ?_
 .rw[if_neg (by simp)];apply B5 (L9 g rfl rfl ?_);cases f with
  | true=>exact C4 #[rfl,s.heap,rfl,g,rfl,λ_ _=>rfl]| false =>apply B5 (Q5 g (by simp) λh' e i=>?_);exact C4 #[rfl,h',rfl,e,i]
 .rintro a n ⟨rfl,h,rfl,I,i⟩;simp only[L7,if_false];simp only[<- Z0,MO,Qu];apply B5 (B5 (B5 (N5 ?_)));apply B5 (Uo hh (x.at λo e=>(i.2 j D.i1z).trans e) (t.at λo e=>(i.2 k D.l1z).trans e) y λh' e ext B=>?_);exact q h' e (λc o c1 c2 H e=>ext c o c2 ((i.2 c c1).trans e)) B
def vn4{c d:Bool}{z TI TO h g j i T:Addr}{f:Bool}{m:Obj}{k k2:Nat}{xs ys:Array Value}{x y:Value}{Q:Option Value->Shared->Prop}(D:xH z TI TO h g j i)(l:wX s.heap z TI TO T f)(C:s.heap.get? T=some m) (G:IsPair s.heap TI (.ref h) (.ref g)) (t:eC c s.heap h j k) (r:eC d s.heap g i k2) (p:fL c s.heap j xs) (n:fL d s.heap i ys) (B:xs[k]?=some x) (u:ys[k2]?=some y) (q:∀h':Heap,wX h' z TI TO T true->eC c h' h j (k+1)->eC d h' g i (k2+1)->IsPair h' s.heap.objs.size x y->h'.objs.size=s.heap.objs.size+1->(∀e o,e≠z->e≠h->e≠g->s.heap.get? e=some o->h'.get? e=some o)->Q (some (.ref s.heap.objs.size)) { s with heap:=h'}): wpAny (model prog w) A (pyNext (.ref z)) Q E s:=by
 have ty:s.TypeIs (.ref z) "zip" := #[_,l,rfl];apply B5 (Qm (O5 ty F.slot_zip_next (P3 F.slot_zip_next ty F.entry_zip_next ?_ (F.args_zip_next_1 (.ref z)))));exact vn5 D l C G t r p n B u λh' N M L J I H=>C4 (q h' N M L J I H)
def vn3{c d:Bool}{z TI TO g j h n T:Addr}{f:Bool}{l:Obj}{i:Nat}{xs:Array Value}{Q:Option Value->Shared->Prop}(hh:A.handled=none)(D:xH z TI TO g j h n)(k:wX s.heap z TI TO T f)(u:s.heap.get? T=some l) (x:IsPair s.heap TI (.ref g) (.ref j)) (p:eC c s.heap g h i) (m:fL c s.heap h xs) (r:xs[i]?=none) (q:∀h':Heap,(∀e o,e≠z->e≠g->e≠j->s.heap.get? e=some o->h'.get? e=some o)->Q none { s with heap:=h'}):wpAny (model prog w) A (pyNext (.ref z)) Q E s:=by
 have ty:s.TypeIs (.ref z) "zip" := #[_,k,rfl];apply B5 (Qm (O5 ty F.slot_zip_next (P3 F.slot_zip_next ty F.entry_zip_next ?_ (F.args_zip_next_1 (.ref z)))));apply w51 (d:=d) (k2:=i) (ys:=xs) hh D k u x p m r λh' e t ⟨o,B,y⟩=>?_;exact B5 (MP #[o,B,y] isSubtype_stop (C4 (q h' t)))
end
structure Zq(c d:Bool)(l1 l2 z TI TO i1 i2 S:Addr)(xs ys:Array Value)(i:Nat)(h:Heap):Prop where
 zz:IsZip h z TI TO .none\/∃T f oT,wX h z TI TO T f/\h.get? T=some oT/\T≠z/\T≠TO/\T≠i1/\T≠i2/\T≠S
 ti:IsPair h TI (.ref i1) (.ref i2)
 to:∃u v,IsPair h TO u v
 h1:eC c h i1 l1 i
 h2:eC d h i2 l2 i
 m1:fL c h l1 xs
 m2:fL d h l2 ys
def putAll:List Key->List V->List (Key×V)->List (Key×V)
 | k::g,v::f,kvs=>putAll g f (putK kvs k v)| _,_,kvs=>kvs
def Oj:entryFor table "dict.update.loop" = some Builtin.«dict.update.loop»:=entryFor_of_tree (by kernel_rfl)
def zG:plainId "dict.update.loop" = true:=∅
def wn5{prog:Program}{w:World}{A:Around}{s:Shared}{R:Result->Shared->Prop}{c d:Bool}{N M z TI TO E C S:Addr}{xs ys:Array Value}{h1:Heap}(hh:A.in1.handled=none)(D:xH z TI TO E C N M)(hS:S≠z/\S≠TI/\S≠TO/\S≠E/\S≠C/\S≠N/\S≠M) {ks:List Key} {rv:List V} (rk:Vals (ks.map kV) xs.toList) (rr:Vals rv ys.toList) (hn:ks.length=rv.length) (hz:ks.length<=1000) (q:∀(h':Heap) (tk:Nat) (vs:List (Key×Value)),(∀b o,b≠S->b≠z->b≠TO->b≠E->b≠C->h1.get? b=some o->h'.get? b=some o)->KV (putAll ks rv []) vs->h'.DictOf (eD prog w) S vs->R (.ok (.ret .none)) { s with heap:=h',toks:=tk}): ∀(k i:Nat) (h:Heap) (tk:Nat) (ii:Int) (kvs:List (Key×V)) (vs:List (Key×Value)),ks.length-i=k->i<=ks.length->Zq c d N M z TI TO E C S xs ys i h->KV kvs vs->h.DictOf (eD prog w) S vs->kvs.length<=i->putAll (ks.drop i) (rv.drop i) kvs=putAll ks rv [] -> (∀b o,b≠S->b≠z->b≠TO->b≠E->b≠C->h1.get? b=some o->h.get? b=some o)->tD (model prog w) A (.builtin "dict.update.loop" { pos:=[.ref S,.ref z,rawInt ii,.none]}) R { s with heap:=h,toks:=tk}:=by
 let#[S1,S2,S3,S4,S5,S6,S7]:=hS;have lx:xs.size=ks.length:=by have:=rk.length;simp at this;omega
 have ly:ys.size=ks.length:=by have:=rr.length;simp at this;omega
 intro k;induction k with
 | zero =>
  intro i h tk ii kvs vs hk hi st l dd hl he kp;have hi:i=ks.length:=()
  subst hi;have I:xs[ks.length]?=none:=by simp[lx]
  have sR:putAll ks rv []=kvs:=by rw[<- he,C15];rfl
  apply Qv Oj ?_;rw[QM zG];rcases st.zz with p|⟨T,f,L,p,J,T1,T2,T3,Z,Y⟩
  .let#[u,v,to]:=st.to;apply B5 (w52 (s:={ s with heap:=h,toks:=tk}) hh D p st.ti to st.h1 st.h2 st.m1 st.m2 (.inl I) λh' O=>?_);apply B5 (C4 (C4 ?_));exact q h' tk vs (λb o t r n j g e=>O b o r n j g (kp b o t r n j g e)) (by rw[sR];exact l) (dd.at λo e=>O S o S1 S3 S4 S5 e)
  .apply B5 (vn3 (s:={ s with heap:=h,toks:=tk}) (d:=d) hh D p J st.ti st.h1 st.m1 I λh' O=>?_);apply B5 (C4 (C4 ?_));exact q h' tk vs (λb o t r n j g e=>O b o r j g (kp b o t r n j g e)) (by rw[sR];exact l) (dd.at λo e=>O S o S1 S4 S5 e)
 | succ k ih =>
  intro i h tk ii kvs vs hk hi st l dd hl he kp;have c9:i<ks.length:=()
  have I:xs[i]?=some (xs[i]'()):=B01 _;have hy:ys[i]?=some (ys[i]'()):=B01 _;obtain⟨B,ek⟩:∃B,ks[i]?=some B:=#[ks[i],B6 c9];obtain⟨G,ev⟩:∃G,rv[i]?=some G:=#[rv[i]'(),B6 _];have rkk:RelV (kV B) (xs[i]'()):=by
   let#[u,Q,ru]:=rk.get (i:=i) (x:=kV B) (by rw[F7,ek];rfl);have:u=xs[i]'():=by simp only[V7,I] at Q;exact(E1 Q).symm
   rw[<- this];exact ru
  have rvv:RelV G (ys[i]'()):=by
   let#[u,Q,ru]:=rr.get ev;have:u=ys[i]'():=by simp only[V7,hy] at Q;exact(E1 Q).symm
   rw[<- this];exact ru
  have JR:putAll (ks.drop (i+1)) (rv.drop (i+1)) (putK kvs B G)=putAll ks rv []:=by
   rw[<- he];have e1:ks.drop i=B::ks.drop (i+1):=by rw[N7 c9];congr 1;exact E1 ((B6 c9).symm.trans ek)
   have e2:rv.drop i=G::rv.drop (i+1):=by rw[N7 ()];congr 1;exact E1 ((B6 ()).symm.trans ev)
   rw[e1,e2];rfl
  apply Qv Oj ?_;rw[QM zG];have hsz:vs.length<=sizeLine:=by rw[<- l.length];exact D5 (m:=1000) () ∅
  have go:∀h':Heap,(∃T f L,wX h' z TI TO T f/\h'.get? T=some L/\T≠z/\T≠TO/\T≠E/\T≠C/\T≠S)->(∃u v,IsPair h' TO u v)->eC c h' E N (i+1)->eC d h' C M (i+1)->IsPair h' h.objs.size (xs[i]'()) (ys[i]'())->(∀c o,c≠z->c≠TO->c≠E->c≠C->h.get? c=some o->h'.get? c=some o) ->
    wpAny (model prog w) A.in1 (dictSet S (xs[i]'()) (ys[i]'())) (λ_ s1=>wpAny (model prog w) A.in1 (again (.builtin "dict.update.loop" { pos:=[.ref S,.ref z,rawInt (ii+1),.none]}))
     (λfin H=>match fin with|.done f=>R (.ok f) H|.again c'=>c'.quiet=true/\tD (model prog w) A c' R H) (λe H=>R (.error e) H) s1) (λe H=>R (.error e) H) { s with heap:=h',toks:=tk}:=by
   rintro h' ⟨T,f,L,p,J,T1,T2,T3,Z,Y⟩ ⟨u,v,to⟩ a1 a2 a3 X;have qI:h'.DictOf (eD prog w) S vs:=dd.at λo e=>X S o S1 S3 S4 S5 e;apply wpAny_dictSet_pairs (s:={ s with heap:=h',toks:=tk}) (hsz:=hsz) (Bn rkk) qI λCO xB dW=>?_;apply C4 #[Ql zG _,?_];have y:∀b o,b≠S->h'.get? b=some o->CO.get? b=some o:=λb o hb e=>(dW.2 b hb).trans e;have hlp:=By kvs B G;apply ih (i+1) _ _ _ (putK kvs B G) _ () c9 #[.inr #[T,f,L,y _ _ (D3 S1) p,y _ _ Y J,T1,T2,T3,Z,Y],y _ _ (D3 S2) (X TI _ D.TIz D.TITO D.TIi1 D.TIi2 st.ti),#[u,v,y _ _ (D3 S3) to],a1.at λo e=>y _ _ (D3 S4) e,a2.at λo e=>y _ _ (D3 S5) e,st.m1.at λo e=>y _ _ (D3 S6) (X N _ D.l1z D.l1TO D.l1i1 D.l1i2 e),st.m2.at λo e=>y _ _ (D3 S7) (X M _ D.l2z D.l2TO D.l2i1 D.l2i2 e)] (l.put B rvv) xB () JR λb o t r n j g e=>y b o t (X b o r n j g (kp b o t r n j g e))
  rcases st.zz with p|⟨T,f,L,p,J,T1,T2,T3,Z,Y⟩
  .let#[u,v,to]:=st.to;have ne:∀{b o},h.get? b=some o->h.objs.size≠b:=λe=>Z1 (D8 e);apply B5 (w53 (s:={ s with heap:=h,toks:=tk}) D p st.ti to st.h1 st.h2 st.m1 st.m2 I hy λh' t r n j g b6 U=>?_);have neS:h.objs.size≠S:=by let#[o,_,_,e,_]:=dd;exact ne e
   have:=go h' #[h.objs.size,false,_,t,g,ne p,ne to,(by let#[o,e,_]:=st.h1;exact ne e),(by let#[o,e,_]:=st.h2;exact ne e),neS] #[_,_,r] n j g U;apply B5 (N5 (B5 (ZY ?_)));unfold A46;apply B5 (Fe #[_,g,rfl] ?_);rw[if_pos ∅];apply B5 (N3 g rfl (C4 ?_));exact N5 this
  .apply B5 (vn4 (s:={ s with heap:=h,toks:=tk}) D p J st.ti st.h1 st.h2 st.m1 st.m2 I hy λh' t n j g b6 U=>?_);let#[u,v,to]:=st.to;have:=go h' #[T,true,_,t,U T _ T1 T3 Z J,T1,T2,T3,Z,Y] #[u,v,U TO _ D.TOz D.TOi1 D.TOi2 to] n j g λc o c1 c2 c3 c4 e=>U c o c1 c3 c4 e;apply B5 (N5 (B5 (ZY ?_)));unfold A46;apply B5 (Fe #[_,g,rfl] ?_);rw[if_pos ∅];apply B5 (N3 g rfl (C4 ?_));exact N5 this
section
variable{prog:Program}{w:World}{A:Around}{E:Value->Shared->Prop}{s:Shared}
def vn6(B:fL c s.heap f xs)(y:fL d s.heap g ys) (q:∀h',IsZip h' (s.heap.objs.size+4) (s.heap.objs.size+2) (s.heap.objs.size+3) .none->IsPair h' (s.heap.objs.size+2) (.ref s.heap.objs.size) (.ref (s.heap.objs.size+1))->IsPair h' (s.heap.objs.size+3) .none .none -> eC c h' s.heap.objs.size f 0->eC d h' (s.heap.objs.size+1) g 0->h'.objs.size=s.heap.objs.size+5->(∀e o,s.heap.get? e=some o->h'.get? e=some o)->Q (.ref (s.heap.objs.size+4)) { s with heap:=h'}): wpAny (model prog w) A (call (.type "zip") [.ref f,.ref g]) Q E s:=by
 apply callType_new F.called_zip ∅ (F.typeCall_zip_2 _ _) (F.newCall_zip_2 _ _) (λi=>F.args_object_init_3 i _ _) F.entry_zip_new (wq7 c d f g xs ys) #[B,y,?_];have m:(MV s.heap c f).objs.size=s.heap.objs.size+1:=T8 ..;have l:(MU s.heap c d f g).objs.size=s.heap.objs.size+2:=by rw[T8,m]
 have k:(MT s.heap c d f g).objs.size=s.heap.objs.size+3:=by rw[T8,l]
 have j:(MS s.heap c d f g).objs.size=s.heap.objs.size+4:=by rw[T8,k]
 have u:(Bc s.heap c d f g).objs.size=s.heap.objs.size+5:=by rw[T8,j]
 have h:(Bc s.heap c d f g).get? (MS s.heap c d f g).objs.size=some _:=E4 _ rfl;have n:(Bc s.heap c d f g).get? (MT s.heap c d f g).objs.size=some _:=B8 _ (E4 _ rfl);have p:(Bc s.heap c d f g).get? (MU s.heap c d f g).objs.size=some _:=B8 _ (B8 _ (E4 _ rfl));have r:(Bc s.heap c d f g).get? (MV s.heap c f).objs.size=some _:=B8 _ (B8 _ (B8 _ (E4 _ rfl)));have t:(Bc s.heap c d f g).get? s.heap.objs.size=some _:=B8 _ (B8 _ (B8 _ (B8 _ (E4 _ rfl))));show _/\_;rw[l,k,j] at h;rw[m,l] at p;rw[k] at n;rw[m] at r;rw[j];apply#[#[_,h,rfl],q _ h p n #[_,t,rfl,rfl] #[_,r,rfl,rfl] u λe o x=>?_];exact B8 _ (B8 _ (B8 _ (B8 _ (B8 _ x))))
end
def us1{prog:Program}{w:World}{A:Around}{E:Value->Shared->Prop}{s:Shared}{c d:Bool}{m l z TI TO k j:Addr}{xs ys:Array Value}{Q:Value->Shared->Prop}(hh:A.in1.in1.handled=none)(D:xH z TI TO k j m l) (h:IsZip s.heap z TI TO .none) (r:IsPair s.heap TI (.ref k) (.ref j)) (to:∃u v,IsPair s.heap TO u v) (h1:eC c s.heap k m 0) (n:eC d s.heap j l 0) (y:fL c s.heap m xs) (x:fL d s.heap l ys) {ks:List Key} {rv:List V} (H:Vals (ks.map kV) xs.toList) (G:Vals rv ys.toList) (M:ks.length=rv.length) (L:ks.length<=1000) (q:∀(h':Heap) (tk:Nat) (vs:List (Key×Value)),(∀b o,b≠z->b≠TO->b≠k->b≠j->s.heap.get? b=some o->h'.get? b=some o)->KV (putAll ks rv []) vs->h'.DictOf (eD prog w) s.heap.objs.size vs->Q (.ref s.heap.objs.size) { s with heap:=h',toks:=tk}): wpAny (model prog w) A (call (.type "dict") [.ref z]) Q E s:=by
 apply callType_codes (Q₁:=λi t=>i=.ref s.heap.objs.size/\t={ s with heap:=s.heap.push { cls:=.type "dict",data:=.dict [].toArray}}) F.kt_called_dict (F.kt_typeCall_dict_1 (.ref z)) F.entry_dict_init (kt_code_dict_new (.ref z) #[rfl,rfl]) λi t J=>?_;let#[O,N]:=J;subst O;subst N;have ed:(s.heap.push { cls:=.type "dict",data:=.dict [].toArray}).DictOf (eD prog w) s.heap.objs.size []:=B51 s.heap;have up:∀b o,s.heap.get? b=some o->(s.heap.push { cls:=.type "dict",data:=.dict [].toArray}).get? b=some o:=λb o e=>B8 _ e;have ne:∀{b o},s.heap.get? b=some o->s.heap.objs.size≠b:=λe=>Z1 (D8 e);let#[u,v,to]:=to;apply#[ed.typeIs,F.args_dict_init_2 _ _,?_];unfold Builtin.«dict.__init__» B14;apply B5 (B5 (wpAny_notOrdered_dict ed.typeIs (C4 ?_)));show wpAny _ _ (Y6 "dict.__init__" s.heap.objs.size (.ref z) [] .none) _ _ { s with heap:=s.heap.push { cls:=.type "dict",data:=.dict [].toArray}};unfold Y6;apply B5 (Fe #[_,up _ _ h,rfl] ?_);rw[if_pos ∅];apply B5 (wn6 (s:={ s with heap:=s.heap.push { cls:=.type "dict",data:=.dict [].toArray}}) (up _ _ h) hh λh' tk B=>?_);simp only[B86,if_true];apply B5 (Du ?_);have f:∀b o,s.heap.get? b=some o->h'.get? b=some o:=λb o e=>B b o (up b o e);apply B5 (wpAny_pyIter_zip (s:={ s with heap:=h',toks:=tk}) (f _ _ h) ?_);apply C4 #[Ql zG _,?_];have Z:s.heap.objs.size≠z/\s.heap.objs.size≠TI/\s.heap.objs.size≠TO/\s.heap.objs.size≠k/\s.heap.objs.size≠j/\s.heap.objs.size≠m/\s.heap.objs.size≠l:=by
  apply#[ne h,ne r,ne to,?_,?_,?_,?_]
  .let#[o,e,_]:=h1;exact ne e
  .let#[o,e,_]:=n;exact ne e
  .let#[o,e,_]:=y;exact ne e
  .let#[o,e,_]:=x;exact ne e
 apply wn5 (s:=s) (h1:=h') (c:=c) (d:=d) hh D Z H G M L (λn Y vs I p dd=>#[rfl,q n Y vs (λb o X U S R e=>I b o (D3 (ne e)) X U S R (f b o e)) p dd]) ks.length 0 h' tk 0 [] [] rfl (J4 _)
  #[.inl (f _ _ h),f _ _ r,#[u,v,f _ _ to],h1.at λo e=>f _ _ e,n.at λo e=>f _ _ e,y.at λo e=>f _ _ e,x.at λo e=>f _ _ e] .nil (ed.at λo e=>B _ _ e) (B9 _) rfl λb o _ _ _ _ _ e=>e
def v09(K:W.Frag)(k:TA):TE:=λi H Q=>k i H λj g=>∃c d a b f h,j=[.ref a,.ref b]/\Sq c K g a (f.map kV)/\Sq d K g b h/\f.length=h.length/\f.length<=1000/\∀p,g p=none->Q (.ref p) (upd g p (.dK (putAll f h [])))
theorem VP:∀(ks:List Key) (rv:List V) (kvs:List (Key×V)),(putAll ks rv kvs).length<=ks.length+kvs.length
 | [],_,kvs=>by simp[putAll]| _::_,[],kvs=>by simp[putAll]| k::ks,v::rv,kvs=>by have g:=VP ks rv (putK kvs k v);have f:=By kvs k v;show(putAll ks rv (putK kvs k v)).length<=(ks.length+1)+kvs.length;omega
def v67{X:Cx}{a b:Expr}{N:TA}{p p2 pos O:Pos}{k:Nat}(hr:aU k X.A)(hg:Gl X "zip")(hm:X.mg "zip" = none)(sQ:Gl X "dict")(nu:X.mg "dict" = none)(ha:PA X [a,b] N) (hs:D1 [a,b] X.env=(false,eval a X.env)::D1 [b] X.env:=by rfl) (Co:(backTo pos (D1 [b] X.env)).any (·.1)=false:=by rfl)
  (S:D1 [.Call (.Name "zip" p) [a,b] [] pos] X.env=[(false,eval (.Call (.Name "zip" p) [a,b] [] pos) X.env)]:=by rfl):
  PE X (.Call (.Name "dict" p2) [.Call (.Name "zip" p) [a,b] [] pos] [] O) (v09 X.K N):=by
 intro pins s U H Q I h;apply N8 (sE I sQ nu (show R5 "dict" = some (.type "dict") by decide) ?_);apply K1 ?_ S rfl;rw[S];show wpAny _ _ (spliced ((false,eval (.Call (.Name "zip" p) [a,b] [] pos) X.env)::backTo O [])) _ _ s;apply Q4 ?_;apply N8 (sE I hg hm boot_zip (K1 (bg (ha pos pins s U H _ I h) λus u ⟨M,H1,t,C,q1⟩=>?_) hs Co));let#[c,d,l,m,i,g,e,hq,rA,hn,R,q]:=q1;subst e;cases C with
 | cons r x =>
  cases x with
  | cons B x =>
   cases x;cases r;cases B;let#[its,C,E]:=t.sq hq;let#[bA,B,L]:=t.sq rA;have Y:l<u.heap.objs.size:=by let#[o,e,_]:=E;exact D8 e
   have J:m<u.heap.objs.size:=by let#[o,e,_]:=L;exact D8 e
   apply vn6 E L λn k1 k2 k3 k4 k5 k6 G=>?_;apply U1 ?_;apply us1 hr.hd (zipApart_new Y J) k1 k2 #[_,_,k3] k4 k5 (E.at λo e=>G _ _ e) (L.at λo e=>G _ _ e) (ks:=i) (rv:=g) (by simpa using C) (by simpa using B) hn R λh' Z M kp y dd=>?_;have Jh:∀b o,u.heap.get? b=some o->h'.get? b=some o:=λb o e=>kp b o (J7 (C5 (D8 e) (Q7 _ _))) (J7 (C5 (D8 e) (Q7 _ _))) (J7 (D8 e)) (J7 (C5 (D8 e) (Q7 _ _))) (G b o e);have f:u.heap.objs.size<=n.objs.size:=by rw[k6];exact Q7 _ _
   have hp:H1 n.objs.size=none:=t.aE.fresh f;have j:(putAll i g []).length<=sizeLine:=D5 (VP i g []) (D5 (m:=1000) (by simpa using R) ∅);have Ci:(n.objs.size==R4)=false:=beq_eq_false_iff_ne.mpr (Z1 (C5 t.big f));have I2:=t.laid (a:=n.objs.size) (t':=Z) (o:=.dK (putAll i g [])) Jh f #[j,Ci,M,y,dd];exact#[.ref n.objs.size,_,I2,rfl,q _ hp]
end L2
namespace L3
open PySem PySem.Spec PyProof.Rows L2
def dI(kvs:List (Key×D))(k:Key):Option D:=(kvs.find? λf=>decide (f.1=k)).map (·.2)
def mR(kvs:List (Key×D))(k:Key)(v:D):List (Key×D):=if(kvs.any λf=>decide (f.1=k))=true then kvs.map (λf=>if f.1=k then(f.1,v) else f) else kvs++[(k,v)]
def tK:List Key->List D->List (Key×D)->List (Key×D)
 | k::g,v::f,kvs=>tK g f (mR kvs k v)| _,_,kvs=>kvs
section
variable{X:Cx}{K:W.Frag}{G:Gp}{H:Hp}{p:Addr}
theorem Gs:∀{kvs:List (Key×D)} {ys:List (Key×V)},aF K H kvs ys->(dI kvs k=none/\dh ys k=none)\/∃d v,dI kvs k=some d/\dh ys k=some v/\ae K H d v
 | [],ys,⟨f,i⟩=>by
  have:ys=[]:=by cases ys with|nil=>rfl|cons y ys=>simp at f
  subst this;exact .inl #[rfl,rfl]
 | (g,d)::kvs,[],⟨f,i⟩=>by simp at f| (g,d)::kvs,(q,v)::ys,⟨f,i⟩=>by
  rw[C0,C0] at f;let#[l,u]:=Y0 f;have l:g=q:=l;subst l;let#[x,B,m,o,n]:=i.ay;rw[C0] at m;let#[j,t]:=Y0 m;have j:v=x:=j;subst j;by_cases h:g=k
  .right;exact#[d,v,by simp[dI,M6,h],Ef h,o]
  .have r:=Gs (k:=k) (kvs:=kvs) (ys:=ys) #[u,by rw[t];exact n];have A:dI ((g,d)::kvs) k=dI kvs k:=by simp[dI,M6,h]
   rw[A,Ee h];exact r
theorem v33(q:ae K H d v):∀{kvs:List (Key×D)} {ys:List (Key×V)},aF K H kvs ys->aF K H (kvs.map (λf=>if f.1=k then(f.1,d) else f)) (ys.map (λf=>if f.1=k then(f.1,v) else f))/\(kvs.any λf=>decide (f.1=k))=(ys.any λf=>decide (f.1=k))
 | [],ys,⟨g,j⟩=>by
  have:ys=[]:=by cases ys with|nil=>rfl|cons y ys=>simp at g
  subst this;exact#[#[rfl,.nil],rfl]
 | (h,J)::kvs,[],⟨g,j⟩=>by simp at g| (h,J)::kvs,(A,r)::ys,⟨g,j⟩=>by
  rw[C0,C0] at g;let#[m,I]:=Y0 g;have m:h=A:=m;subst m;let#[x,L,o,u,t]:=j.ay;rw[C0] at o;let#[l,E]:=Y0 o;have l:r=x:=l;subst l;let#[#[C,n],B]:=v33 (k:=k) q (kvs:=kvs) (ys:=ys) #[I,by rw[E];exact t];apply#[#[?_,?_],by rw[O7,O7,B]]
  .rw[C0,C0,C0,C0,C];by_cases i:h=k <;> simp[i]
  .rw[C0,C0,C0,C0];by_cases i:h=k
   .simp only[i,if_true];exact .cons q n
   .simp only[i,if_false];exact .cons u n
def Vo(q:ae K H d v)(h:aF K H kvs ys):aF K H (mR kvs k d) (putK ys k v):=by
 let#[g,f]:=v33 (k:=k) q h;unfold mR putK;rw[f];split
 .exact g
 .exact#[by rw[B7,B7,h.1];rfl,by rw[B7,B7];exact h.2.append (.cons q .nil)]
theorem VQ:∀{ks:List Key} {ds:List D} {vs:List V} {kvs:List (Key×D)} {ys:List (Key×V)},ag K H ds vs->aF K H kvs ys->aF K H (tK ks ds kvs) (putAll ks vs ys)
 | [],_,_,_,_,_,h=>h| _::_,[],vs,_,_,r,h=>by rw[r.a_];exact h| k::ks,d::ds,vs,kvs,ys,r,h=>by let#[x,i,rfl,g,f]:=r.ay;exact VQ (ks:=ks) f (Vo g h)
def Br(r:ae K H (kD k) v):v=kV k:=by
 cases k with
 | inl i=>exact(show ae K H (.int i) v from r).int_inv| inr x=>exact(show ae K H (.str x) v from r).str_inv
def wV(i h:bC):bC:=λf G q=>i f G λx j=>h f j λy g=>∃a kvs k d,x=.ref a/\y=kD k/\g a=some (.bM kvs)/\dI kvs k=some d/\q d g
def vt5(h:aJ K (wV C B) o H Q):TM (aJ K C) (aJ K B) o H Q:=by
 let#[g,G,q,j,c,t,f]:=h;apply#[g,G,_,j,c,t,λx S v H1 N c1 m J=>#[g,S,_,j.le m,c1,J,λy G2 u Z M c2 l I=>?_]];let#[a,kvs,k,d,rfl,rfl,O,n,E]:=I;have R:=ae.le l N;cases R.ar;obtain rfl:=Br M;let#[U,e,L]:=c2 a _ O;rcases Gs (k:=k) L with⟨z,_⟩|⟨Y,w,i,A,r⟩
 .rw[n] at z;cases z
 .rw[n] at i;cases i;exact⟨a,w,rfl,by rw[<- A];exact mr.k e,f _ _ _ _ r c2 (m.trans l) E⟩
def x9(h:aU k X.A)(j:E3 X o to)(hi:E3 X i f)(g:tu i:=by exact λ_ _=>rfl):E3 X (.Subscript o i pos) (wV to f):=dX (vd5 (Ng h) j hi g) λ_ _ _=>vt5
def Fz(j i h:bC):ic:=λn f G=>h f G λv m=>j f m λx l=>i f l λy g=>∃(a:Addr) (kvs:List (Key×D)) (k:Key),x=.ref a/\y=kD k/\g a=some (.bM kvs)/\kvs.length<sizeLine/\n.nx f (aH g a (.bM (mR kvs k v)))
def NR{pos g:Pos}(hr:aU k X.A)(ho:E3 X o to)(hi:E3 X i L)(Y:E3 X value J) (Z:Y8 value (some (.Subscript o i g)) pos.line X.env=pure false:=by rfl):S3 X (.Assign [.Subscript o i g] value pos) (Fz to L J):=
 pN (wh1 (Ng hr) ho hi Y Z) λD σ H h=>by
  let#[j,G,d,l,c,t,f]:=h;apply#[j,G,_,l,c,t,λv G1 w H1 U c1 r Q=>#[j,G1,_,l.le r,c1,Q,λx G2 u H2 S c2 q O=>#[j,G2,_,l.le (r.trans q),c2,O,λy G3 z I R E n N=>?_]]];let#[a,kvs,k,rfl,rfl,hg,hl,M]:=N;have Wr:=ae.le n S;cases Wr.ar;obtain rfl:=Br R;let#[B,e,C]:=E a _ hg;have m:Le I (upd I a (.dK (putK B k w))):=Le.dK e;have Xc:B.length=kvs.length:=by have:=congrArg J5 C.1;rw[B0,B0] at this;exact this.symm
  apply#[a,_,rfl,wN.k e (by rw[Xc];exact hl),?_];apply f.nx _ _ _ _ (((l.le r).le q).le (n.trans m)) ?_ (r.trans (q.trans (n.trans m))) M;exact E.put m #[_,iq,(Vo (ae.le (q.trans n) U) C).le m]
def Vi(t:eW):bC:=λi G q=>t i G λj g=>match j with
 | [x,y]=>∃(f:List Key) (h:List D),uj g x=some (f.map kD)/\uj g y=some h/\f.length=h.length/\f.length<=1000/\∀p,g p=none->q (.ref p) (aH g p (.bM (tK f h [])))| _=>False
def uy0(h:aJ K (Vi t) A H Q):v09 K (eh K t) A H Q:=by
 let#[i,G,q,N,c,t,f]:=h;apply#[i,G,_,N,c,t,λds u vs r R c1 Y j=>?_];split at j
 .rename_i x y;let#[m,es,e,n,hn,hz,E]:=j;let#[v,C,rfl,M,O]:=R.ay;let#[v2,rfl,k]:=O.one;let#[k1,a,rfl,_,U]:=wv0 M c1 e;let#[Z,b,rfl,_,S]:=wv0 k c1 n;let#[xs,J,L]:=U u r (Le.refl _) c1 e;let#[B,I,l]:=S u r (Le.refl _) c1 n;obtain rfl:=Vp L;apply#[k1,Z,a,b,m,B,rfl,J,I,by rw[hn,l.length],hz,λp g=>?_];apply f (.ref p) _ (.ref p) _ ae.fe (c1.put (o:=.bM (tK m es [])) (Le.fresh g) #[_,iq,?_]) (Y.trans (Le.fresh g)) (E p (c1.fresh g));exact(VQ l #[rfl,.nil]).le (Le.fresh g)
 .exact j.elim
def vj7{a b:Expr}{f:eW}{p h pos j:Pos}{k:Nat}(m:aU k X.A)(o:Gl X "zip")(n:X.mg "zip" = none)(g:Gl X "dict")(i:X.mg "dict" = none)(q:A3 X [a,b] f) (l:D1 [a,b] X.env=(false,eval a X.env)::D1 [b] X.env:=by rfl) (t:(backTo pos (D1 [b] X.env)).any (·.1)=false:=by rfl)
  (r:D1 [.Call (.Name "zip" p) [a,b] [] pos] X.env=[(false,eval (.Call (.Name "zip" p) [a,b] [] pos) X.env)]:=by rfl):
  E3 X (.Call (.Name "dict" h) [.Call (.Name "zip" p) [a,b] [] pos] [] j) (Vi f):=dX (v67 m o n g i q l t r) λ_ _ _=>uy0
end
end L3
namespace L3
open PySem PySem.Spec PyProof.Rows L2 Rw
def iG:List Str->Str->Nat
 | [],_=>0| b::f,x=>if b=x then 0 else 1+iG f x
def gtB(bs:List Str)(vs:List Nat)(x:Str):Nat:=(vs[iG bs x]?).getD 0
def eN(bs:List Str)(vs:List Nat)(x:Str)(v:Nat):List Nat:=vs.set (iG bs x) v
def bH(bs:List Str)(vs:List Nat):List (Key×D):=(bs.zip vs).map λp=>(Y2 p.1,D.int (p.2:Int))
theorem Uc:∀{bs:List Str} {x:Str},x∈bs->iG bs x<bs.length
 | b::bs,x,h=>by
  unfold iG;by_cases e:b=x
  .rw[if_pos e];simp
  .rw[if_neg e];have:=Uc (bs:=bs) (x:=x) (by rcases D7.mp h with z|z;exact absurd z.symm e;exact z);simp only[C1];omega
theorem yd:∀{bs:List Str} {vs:List Nat} {x:Str},x∈bs->vs.length=bs.length->dI (bH bs vs) (.inr x)=some (.int (gtB bs vs x:Int))
 | b::bs,[],x,h,f=>by simp at f| b::bs,v::vs,x,h,f=>by
  by_cases e:b=x
  .subst e;simp[dI,bH,gtB,iG,M6]
  .have i:x∈bs:=by rcases D7.mp h with z|z;exact absurd z.symm e;exact z
   have g:=yd (bs:=bs) (vs:=vs) (x:=x) i (by simpa using f);have j:dI (bH (b::bs) (v::vs)) (.inr x)=dI (bH bs vs) (.inr x):=by simp[dI,bH,M6,e]
   rw[j,g];have:gtB (b::bs) (v::vs) x=gtB bs vs x:=by unfold gtB;rw[show iG (b::bs) x=1+iG bs x from by rw[iG,if_neg e],P0,U5]
   rw[this]
theorem Ur:∀{bs:List Str} {vs:List Nat},x∉bs->(bH bs vs).map (λf=>if f.1=Y2 x then(f.1,w) else f)=bH bs vs/\((bH bs vs).any λf=>decide (f.1=Y2 x))=false
 | [],_,_=>#[rfl,rfl]| _::_,[],_=>#[rfl,rfl]| b::bs,v::vs,h=>by
  have j:b≠x:=λe=>h (by rw[e];simp);let#[i,g]:=Ur (x:=x) (w:=w) (bs:=bs) (vs:=vs) λz=>h (C2 _ z);unfold bH at i g⊢;apply#[?_,?_]
  .rw[Q1,C0,C0,i];simp[j]
  .rw[Q1,C0,O7,g];simp[j]
def VJ:∀{bs:List Str} {vs:List Nat} {x:Str} {v:Nat},x∈bs->bs.Nodup->vs.length=bs.length->mR (bH bs vs) (.inr x) (.int (v:Int))=bH bs (eN bs vs x v):=by
 intro bs vs x v h o j;have key:((bH bs vs).any λf=>decide (f.1=Y2 x))=true/\(bH bs vs).map (λf=>if f.1=Y2 x then(f.1,D.int (v:Int)) else f)=bH bs (eN bs vs x v):=by
  induction bs generalizing vs with
  | nil=>cases h
  | cons b bs m =>
   cases vs with
   | nil=>simp at j| cons u vs =>
    let#[l,k]:=O1.mp o;by_cases e:b=x
    .subst e;let#[g,i]:=Ur (x:=b) (w:=D.int (v:Int)) (vs:=vs) l;unfold bH at g⊢;apply#[by simp,?_];rw[Q1,C0,C0,g];simp[eN,iG]
    .have n:x∈bs:=by rcases D7.mp h with z|z;exact absurd z.symm e;exact z
     let#[g,i]:=m (vs:=vs) n k (by simpa using j);have p:eN (b::bs) (u::vs) x v=u::eN bs vs x v:=by unfold eN;rw[show iG (b::bs) x=iG bs x+1 from by rw[iG,if_neg e,P0],B87]
     rw[p];unfold bH at g i⊢;apply#[?_,?_]
     .rw[Q1,C0,O7,g,Qg]
     .rw[Q1,Q1,C0,C0,C0,i];simp[e]
 unfold mR;rw[if_pos key.1];exact key.2
theorem um0:∀{bs cs:List Str} {vs us:List Nat},vs.length=bs.length->us.length=cs.length->(cs++bs).Nodup->tK (bs.map Y2) (vs.map nD) (bH cs us)=bH (cs++bs) (us++vs)
 | [],cs,[],us,_,_,_=>by simp[tK]| [],cs,_::_,us,h,_,_=>by simp at h| _::_,cs,[],us,h,_,_=>by simp at h| b::bs,cs,v::vs,us,h,g,f=>by
  show tK (bs.map Y2) (vs.map nD) (mR (bH cs us) (.inr b) (.int (v:Int)))=_;have k:b∉cs:=λz=>by have:=Z9.mp f;exact this.2.2 b z b (by simp) rfl
  let#[_,j]:=Ur (x:=b) (w:=D.int (v:Int)) (vs:=us) k;have l:mR (bH cs us) (.inr b) (.int (v:Int))=bH (cs++[b]) (us++[v]):=by unfold mR;rw[j,if_neg (by simp)];unfold bH;rw[List.zip_append g.symm,B7];rfl
  rw[l];have i:((cs++[b])++bs).Nodup:=by rw[D4];exact f
  rw[um0 (bs:=bs) (cs:=cs++[b]) (vs:=vs) (us:=us++[v]) (by simpa using h) (by simp[g]) i,D4,D4];rfl
def v64{bs:List Str}{vs:List Nat}(g:vs.length=bs.length)(f:bs.Nodup):tK (bs.map Y2) (vs.map nD) []=bH bs vs:=by have:=um0 (bs:=bs) (cs:=[]) (vs:=vs) (us:=[]) g rfl f;simpa[bH] using this
def Gv(bs:List Str)(vs:List Nat):(bH bs vs).length<=bs.length:=by unfold bH;rw[B0,B53];exact Nat.min_le_left _ _
theorem w29:∀{rs:List av} {r:av},d8 W bs rs->r∈rs->tN W bs r
 | s::rs,r,h,m=>by
  rcases D7.mp m with e|e
  .subst e;exact h.1
  .exact w29 h.2 e
def pw(W:Nat):(1:Int)*2^W=((2^W:Nat):Int):=by rw[MA,C33];rfl
theorem UQ:∀{bs:List Str} {vs:List Nat},bs.Nodup->vs.length=bs.length->bs.map (gtB bs vs)=vs
 | [],[],_,_=>rfl| [],_::_,_,h=>by simp at h| _::_,[],_,h=>by simp at h| b::bs,v::vs,j,h=>by
  let#[g,f]:=O1.mp j;have m:gtB (b::bs) (v::vs) b=v:=by simp[gtB,iG]
  have l:bs.map (gtB (b::bs) (v::vs))=bs.map (gtB bs vs):=by apply M9 λx i=>?_;have k:b≠x:=λz=>g (z▸i);unfold gtB;rw[show iG (b::bs) x=iG bs x+1 from by rw[iG,if_neg k,P0],U5]
  rw[C0,m,l,UQ f (by simpa using h)]
theorem vj0:∀{f:List Str} {k c:Nat},(∀w∈f,w.length=1)->f[k]?=some #[[c].toArray]->((f.map λw=>w.cps.toList).flatten)[k]?=some c
 | [],k,c,_,h=>by simp at h| w::f,0,c,_,h=>by
  have e:w=#[[c].toArray]:=by simpa using h
  subst e;rfl
 | w::f,k+1,c,hw,h=>by
  have g:w.cps.toList.length=1:=by have:=hw w C6;simpa[Fb] using this
  rw[C0,L4,E7 (by rw[g];omega),g];exact vj0 (λv i=>hw v (C2 _ i)) (by simpa using h)
def wl9:∀g:List Str,(jn U0 g).cps.toList=(g.map λw=>w.cps.toList).flatten:=by
 have key:∀(g:List Str) (f:Array Nat),(g.foldl (λf p=>f++U0.cps++p.cps) f).toList=f.toList++(g.map λw=>w.cps.toList).flatten:=by
  intro g;induction g with
  | nil=>intro f;simp| cons w g h =>intro f;rw[Z6,h,C0,L4];have:U0.cps=[].toArray:=rfl;rw[this];simp
 intro g;cases g with
 | nil=>rfl| cons w g=>exact key g w.cps
def xk4{f:List Str}{k c:Nat}(hw:∀w∈f,w.length=1)(h:f[k]?=some #[[c].toArray]):(jn U0 f).cps[k]?=some c:=by rw[<- V7,wl9];exact vj0 hw h
def xc9{a b:Str}{k c:Nat}(h:a.cps[k]?=some c):(a++b).cps[k]?=some c:=by
 show(a.cps++b.cps)[k]?=some c;have f:k<a.cps.size:=by
  rcases Dw k a.cps.size with z|z
  .exact z
  .rw[Array.getElem?_eq_none z] at h;cases h
 rw[Array.getElem?_append_left f];exact h
def vr7{bs:List Str}{sp:Nat}{l:Int}(m:bs.length<=6)(h:∀(t:Nat) (b:Str),bs[t]?=some b->b.cps[sp]?=some (97+((l+5*(t:Int))%26).toNat)):bs.Nodup:=by rw[List.Nodup,List.pairwise_iff_getElem];intro i j hi g n e;have f:=h i bs[i] (B6 hi);have k:=h j bs[j] (B6 g);rw[e,k] at f;have:=E1 f;omega
theorem ve2(h:d8 W bs ys):∀k:Nat,d8 W bs (D2 k ys).flatten
 | 0=>trivial| k+1=>by rw[K4,L4];exact d7.mpr #[h,ve2 h k]
mutual
theorem wj3:∀(r:av),tN W bs r->d8 W bs (iX r)
 | .is _ _,h=>#[h,trivial]| .op _ _ _ _,h=>#[h,trivial]| .fG a f g,h=>#[#[h.1,Gf f h.2.1,Gf g h.2.2],trivial]| .kx k f,h=>ve2 (Gf f h.2) k
theorem Gf:∀(rs:List av),d8 W bs rs->d8 W bs (aW rs)
 | [],_=>trivial| r::rs,h=>d7.mpr #[wj3 r h.1,Gf rs h.2]
end
end L3
namespace L3
open PySem PySem.Spec PyProof.Rows L2
section
variable{X:Cx}{K:W.Frag}{H:Hp}{o e tg:Expr}{es:List Expr}{te to:bC}{ts:eW}{apos aO pos:Pos}{x:Str}
def xc3:bC:=λ_ G q=>∀p,G p=none->q (.ref p) (aH G p (.bM []))
def wn1:E3 X (.Dict [] [] pos) xc3:=dX vr2 λj H Q h=>by let#[i,G,q,k,c,t,f]:=h;exact λp g=>f (.ref p) _ (.ref p) _ (by rw[ae]) (c.put (o:=.bM []) (Le.fresh g) #[[],iq,rfl,.nil]) (Le.fresh g) (t p (c.fresh g))
end
end L3
namespace L2
open PySem PySem.Spec PyProof.Rows
def ut0(i:TA):TE:=λg H Q=>i g H λh f=>∃j:Int,h=[.int j]/\(-1000000<=j/\j<=1000000)/\∀l,f l=none->Q (.ref l) (upd f l (.lst ((E6 (j-0).toNat).map λk:Nat=>V.int (0+k))))
def ux4{X:Cx}(hr:aU k X.A)(hg:Gl X "range")(hm:X.mg "range" = none)(R:Gl X "list")(Z:X.mg "list" = none)(ha:PA X [a] O) (hs:D1 [a] X.env=[(false,eval a X.env)]:=by rfl)
  (C:D1 [.Call (.Name "range" p) [a] [] pos] X.env=[(false,eval (.Call (.Name "range" p) [a] [] pos) X.env)]:=by rfl):
  PE X (.Call (.Name "list" p2) [.Call (.Name "range" p) [a] [] pos] [] jZ) (ut0 O):=by
 intro pins s J H Q I h;apply N8 (sE I R Z v51 ?_);apply K1 ?_ C rfl;rw[C];show wpAny _ _ (spliced ((false,eval (.Call (.Name "range" p) [a] [] pos) X.env)::backTo jZ [])) _ _ s;apply Q4 ?_;apply N8 (sE I hg hm Qb (K1 (bg (ha pos pins s J H _ I h) λus x ⟨vs,H1,G,U,Y⟩=>?_) hs rfl));let#[j,e,#[b3,b4],q]:=Y;subst e;cases U with
 | cons r S =>
   cases S;let#[t2,rfl]:=r;apply call_range_1 ?_;apply U1 ?_;have hn:A34 0 j 1=(((j-0).toNat:Nat):Int):=by rw[ZW];split <;> omega
   apply call_list_range (hh:=hr.hd) (ZJ ..) (Zv () () () ()) hn () λu N f c kp M g=>?_;have Jh:∀b o,x.heap.get? b=some o->u.get? b=some o:=λb o e=>kp b o (B8 _ e);have hv:Vals ((E6 (j-0).toNat).map λk:Nat=>V.int (0+k)) f.toList:=by
    have i:f.size=(j-0).toNat:=g.1;have key:∀(m:Nat) (l:List Value),(∀(y:Nat) v,l[y]?=some v->∃t,v=.int (0+(y:Int)) t)->l.length=m->Vals ((E6 m).map λk:Nat=>V.int (0+k)) l:=by
     intro m;induction m with
     | zero=>intro l _ n;have:l=[]:=E8 n;subst this;exact .nil| succ m ih =>
      intro l n i;rcases V5 l with e|⟨B,v,e⟩
      .subst e;simp at i
      .rw[V6] at e;subst e;have E:B.length=m:=by simpa using i
       rw[W5,B7];apply(ih B (λy v e=>n y v ?_) E).append (.cons ?_ .nil)
       .rw[F9 (L8.mp e).1];exact e
       .let#[t,e]:=n m v (by rw[<- E];simp);exact#[t,e]
    apply key _ f.toList (λy v e=>?_) (by simpa using i);let#[t,e]:=g.2 y v (by simpa using e);exact#[t,by rw[e,Qe]]
   have L:((E6 (j-0).toNat).map λk:Nat=>V.int (0+k)).length<=sizeLine:=by rw[B0,J2];exact P8 (C8 (m:=3000000) () ∅)
   have I2:=G.laid (h':=u) (a:=x.heap.objs.size+1) (o:=.lst ((E6 (j-0).toNat).map λk:Nat=>V.int (0+k))) (t':=N) Jh (V2 _) #[L,f.toList,c,hv,by simpa using M];exact#[_,_,I2,by simp;rfl,q _ (G.aE.fresh (V2 _))]
end L2
namespace L3
open PySem PySem.Spec PyProof.Rows L2
def VE(t:eW):bC:=λg G q=>t g G λh f=>match h with
 | [.int j]=>(-1000000<=j/\j<=1000000)/\∀p,f p=none->q (.ref p) (aH f p (.lst (b_ 0 (j-0).toNat)))| _=>False
def uu5{K:W.Frag}{t:eW}{l:L2.St}{H:Hp}{Q:VK}(h:aJ K (VE t) l H Q):ut0 (eh K t) l H Q:=by
 let#[i,G,q,n,c,t,f]:=h;apply#[i,G,_,n,c,t,λy B u A o c1 r g=>?_];split at g
 .rename_i j;let#[x,rfl,m]:=o.one;cases m.int_inv;exact#[j,rfl,g.1,λp k=>f _ _ _ _ ae.fe (c1.cP k (US _)) (r.trans (Le.fresh k)) (g.2 p (c1.fresh k))]
 .exact g.elim
def v80{X:Cx}(j:aU k X.A)(m:Gl X "range")(l:X.mg "range" = none)(g:Gl X "list")(h:X.mg "list" = none)(n:A3 X [a] f) (i:D1 [a] X.env=[(false,eval a X.env)]:=by rfl)
  (o:D1 [.Call (.Name "range" p) [a] [] pos] X.env=[(false,eval (.Call (.Name "range" p) [a] [] pos) X.env)]:=by rfl):
  E3 X (.Call (.Name "list" q) [.Call (.Name "range" p) [a] [] pos] [] r) (VE f):=dX (ux4 j m l g h n i o) λ_ _ _=>uu5
def Ua(l i j:bC):bC:=λf G q=>l f G λx h=>(∃a kvs,x=.ref a/\h a=some (.bM kvs))/\i f h λy m=>j f m λz g=>∃a kvs k,x=.ref a/\y=kD k/\g a=some (.bM kvs)/\q ((dI kvs k).getD z) g
def vg5{K:W.Frag}{H:Hp}{E B C:bC}{A:L2.St}{Q:VK}(h:aJ K (Ua E B C) A H Q):vy1 (aJ K E) (aJ K B) (aJ K C) A H Q:=by
 let#[g,G,q,o,c,t,f]:=h;apply#[g,G,_,o,c,t,λx G1 v H1 S c1 j n=>?_];let#[#[a,kvs,rfl,X],n]:=n;let#[L,e,rp]:=c1 a _ X;apply#[a,S.ar,.inl #[L,.of e],g,G1,_,o.le j,c1,n,λy G2 u H2 R c2 p N=>#[g,G2,_,o.le (j.trans p),c2,N,λz G3 w H3 O r I M=>?_]];let#[a',Jf,k,Z,rfl,U,i]:=M;cases Z;obtain rfl:=Br R;let#[MW,Y,OB]:=r a _ U;apply#[dh MW k,mr.k Y,?_];rcases Gs (k:=k) OB with⟨m,l⟩|⟨d',w',m,l,J⟩
 .rw[m] at i;rw[l];exact f _ _ _ _ O r (j.trans (p.trans I)) i
 .rw[m] at i;rw[l];exact f _ _ _ _ J r (j.trans (p.trans I)) i
def xb7{X:Cx}{g h:Pos}(l:aU k X.A)(m:E3 X o to)(p:E3 X e te)(n:E3 X f i)(q:O2 o "get" X.env (eval o X.env)=eval o X.env:=by rfl)
  (j:((backTo h (D1 [e,f] X.env)).all (λx=>!x.1)&&(X5 h (P4 [] X.env)).all (λx=>x.1.isSome)
   && decide (([e,f]:List Expr).length+([]:List Keyword).length+(if([]:List Keyword).isEmpty then 0 else 1)<30))=true:=by rfl)
  (r:(g.endLine==h.line)=true:=by rfl) (t:D1 [e,f] X.env=[(false,eval e X.env),(false,eval f X.env)]:=by rfl):E3 X (.Call (.Attribute o "get" g) [e,f] [] h) (Ua to te i):=
 dX (vr4 (Ng l) m p n ⟨q,j,r,by rw[t];rfl⟩) λ_ _ _=>vg5
end L3
namespace Rw
open PySem PySem.Spec PyProof.Rows L2 L3 Law
def kB(rs:List Row)(bs:List Int):List Int:=rs.foldl (cB 1) bs
def Od:kB (r::b) bs=kB b (cB 1 bs r):=rfl
def wg0:kB [] bs=bs:=rfl
def tg(fr f:Nat):Row->Prop
 | .add x o=>fr<=x/\x<f/\o.ok f x| .take x o=>fr<=x/\x<f/\o.ok f x| .turn x i g=>fr<=x/\x<f/\i<32/\g.length<=2/\∀c∈g,c.1<f/\c.1≠x/\c.2<32| _=>False
def Ob{a b x:Nat}{o:oZ}(h:o.ok a x)(f:a<=b):o.ok b x:=by
 cases o with
 | num n=>exact h| box y=>exact#[C5 h.1 f,h.2]
def Bu(h:tg fr l r)(f:g<=fr)(h1:l<=k):tg g k r:=by
 cases r with
 | add x o=>exact#[D5 f h.1,C5 h.2.1 h1,Ob h.2.2 h1]| take x o=>exact#[D5 f h.1,C5 h.2.1 h1,Ob h.2.2 h1]| turn x i m=>exact#[D5 f h.1,C5 h.2.1 h1,h.2.2.1,h.2.2.2.1,λc j=>#[C5 (h.2.2.2.2 c j).1 h1,(h.2.2.2.2 c j).2]]| _=>exact h.elim
def DD(h:tg fr g r)(f:g<=sz):r.ok sz:=by
 have h:=Bu h (B9 _) f;cases r with
 | add x o=>exact#[h.2.1,h.2.2]| take x o=>exact#[h.2.1,h.2.2]| turn x i j=>exact#[h.2.1,h.2.2.1,h.2.2.2.1,h.2.2.2.2]| _=>exact h.elim
def Ed(h:tg fr f r):r.plain=true:=by
 cases r with
 | go=>exact h.elim| aP=>exact h.elim| _=>rfl
def FR{bs:List Int}(h:x<bs.length):gt (cB 1 bs (.add x o)) i=if i=x then(gt bs x+val bs o)%4294967296 else gt bs i:=by show gt (bs.set x ((gt bs x+1*val bs o)%4294967296)) i=_;rw[mw h,MA]
def DX{bs:List Int}(h:x<bs.length):gt (cB 1 bs (.take x o)) i=if i=x then(gt bs x-val bs o)%4294967296 else gt bs i:=by show gt (bs.set x ((gt bs x-1*val bs o)%4294967296)) i=_;rw[mw h,MA]
def FY{bs:List Int}(h:x<bs.length):gt (cB 1 bs (.turn x i cs)) j=if j=x then(if con bs cs=true then eU (gt bs x) i else gt bs x) else gt bs j:=by
 show gt (if con bs cs=true then bs.set x (eU (gt bs x) i) else bs) j=_;by_cases f:con bs cs=true
 .rw[if_pos f,if_pos f,mw h]
 .rw[if_neg f,if_neg f];split
  .rename_i e;rw[e]
  .rfl
def w68{bs:List Int}(h:tg fr f r)(g:f<=bs.length)(hi:i<fr\/f<=i):gt (cB 1 bs r) i=gt bs i:=by
 cases r with
 | add x o=>have:=h.1;have:=h.2.1;rw[FR (),if_neg ()]| take x o=>have:=h.1;have:=h.2.1;rw[DX (),if_neg ()]| turn x j k=>have:=h.1;have:=h.2.1;rw[FY (),if_neg ()]| _=>exact h.elim
structure Wv(fr df:Nat)(new:List Row)(F:List Int->List Int->Prop):Prop where
 le:fr<=df
 tg:∀r∈new,tg fr df r
 ef:∀sz bs,cn sz bs->df<=sz->(∀i,fr<=i->gt bs i=0)->F bs (kB new bs)
theorem Vx:∀{new:List Row} {bs:List Int},(∀r∈new,Rw.tg fr l r)->cn sz bs->l<=sz->cn sz (kB new bs)/\∀i,i<fr\/l<=i->gt (kB new bs) i=gt bs i
 | [],bs,_,f,_=>#[f,λ_ _=>rfl]| r::new,bs,h,f,j=>by have k:=h r C6;have g:=Nz (s:=1) f (DD k j);let#[n,m]:=Vx (new:=new) (bs:=cB 1 bs r) (λx o=>h x (C2 _ o)) g j;exact#[n,λi hi=>by rw[Od,m i hi,w68 k (by rw[f.len];exact j) hi]]
def Wv.keep(h:Wv fr f new F)(j:cn sz bs)(g:f<=sz):cn sz (kB new bs)/\∀i,i<fr\/f<=i->gt (kB new bs) i=gt bs i:=Vx h.tg j g
def Wv.nil(h:∀bs,F bs bs):Wv fr fr [] F:=#[B9 _,λr f=>(by cases f),λ_ bs _ _ _=>h bs]
def Wv.imp(h:Wv fr g new F)(k:∀bs f,F bs f->i bs f):Wv fr g new i:=#[h.le,h.tg,λsz bs a b c=>k _ _ (h.ef sz bs a b c)]
theorem Oc(h:∀r∈rs,r.plain=true)(m:Nat):∀(t:List Row) (s:Nat) (bs:List Int),rs.drop s=t->s+t.length=rs.length->rn true rs (t.length+m) s bs=(t.length,rs.length,kB t bs)
 | [],s,bs,e,f=>by
  have f:s=rs.length:=by simpa using f
  rw[ud (by show bw rs bs s=false;unfold bw;rw[M8 ()])];rw[f];rfl
 | r::t,s,bs,e,f=>by
  have i:s<rs.length:=by rw[C1] at f;omega
  rw[N7 i] at e;injection e with n l;let#[j,g]:=Nx (bs:=bs) i (h _ (M5 _));rw[show(r::t).length+m=(t.length+m)+1 by rw[C1];omega,sD (show da true rs bs s=true from j)];have g:cY true rs bs s=(s+1,cB 1 bs rs[s]):=g;rw[g];have k:=Oc h m t (s+1) (cB 1 bs rs[s]) l (by rw[C1] at f;omega);show((rn true rs (t.length+m) (s+1) (cB 1 bs rs[s])).1+1,(rn true rs (t.length+m) (s+1) (cB 1 bs rs[s])).2)=_;rw[k,n];rfl
def Bz(h:∀r∈rs,r.plain=true):Pairs rs:=by
 apply#[λj x n k e=>?_,λj x n k e=>?_]
 .have:=h _ (K3 e);cases this
 .have:=h _ (K3 e);cases this
def OG(h:W<=16):2^W<=65536:=T9 ∅ h
def wZ:(cB 1 bs r).length=bs.length:=by
 cases r with
 | add=>exact J9| take=>exact J9| turn x i f=>show(if con bs f=true then bs.set x _ else bs).length=_;split;exact J9;rfl| swap=>show((bs.set _ _).set _ _).length=_;rw[J9,J9]| go=>rfl| aP=>rfl
def YL(i:Nat):eU 0 i=2^i:=by
 have:bit 0 i=0:=by unfold bit;rw[Int.zero_ediv];rfl
 show(0:Int)+2^i*(1-2*bit 0 i)=_;rw[this];omega
def o1(k:Nat)(h:x<fr):x<fr+k:=Nat.lt_add_right k h
def o2(k:Nat)(h:x<fr):x≠fr+k:=J7 (o1 k h)
def o3{a:Nat}(h:a<65536):((0:Int)+a)%4294967296=a:=()
def o4{a c:Nat}(h:a<65536)(h':c<65536):((a:Int)+c)%4294967296=((a+c:Nat):Int):=()
def o5{v k:Nat}(h:v<4294967296)(h':k<=v):((v:Int)-k)%4294967296=((v-k:Nat):Int):=()
def o6(g:a<P)(f:c<P):(a+c) / P=if P<=a+c then 1 else 0:=by
 split
 .exact Nat.div_eq_of_lt_le () ()
 .exact Nat.div_eq_of_lt ()
def o8{a c P:Nat}(h:a<P)(g:c<P)(f:P<=65536):(((a:Int)-c)%4294967296+(if a<c then(P:Int) else 0))%4294967296=(((a+(P-c))%P:Nat):Int):=by
 by_cases q:a<c
 .rw[if_pos q,C16 ()];omega
 .rw[if_neg q,Nat.mod_eq_sub_mod (),C16 ()];omega
def cV(fr x y:Nat)(k:Nat):List Row:=(E6 k).map λi=>.turn fr i [(x,i),(y,i)]
def qw(rp:Addr)(W fr st:Nat):List (Str×D):=[("wide",.int (W:Int)),("fresh",.int (fr:Int)),("rows",.ref rp),("steps",.int (st:Int))]
def Er:(("fresh" :Str) == "wide")=false/\(("rows" :Str) == "wide")=false/\(("rows" :Str) == "fresh")=false/\(("steps" :Str) == "wide")=false/\(("steps" :Str) == "fresh")=false/\(("steps" :Str) == "rows")=false /\ (("fresh_box" :Str) == "wide")=false/\(("fresh_box" :Str) == "fresh")=false/\(("fresh_box" :Str) == "rows")=false/\(("fresh_box" :Str) == "steps")=false/\(("put" :Str) == "wide")=false/\(("put" :Str) == "fresh")=false/\(("put" :Str) == "rows")=false/\(("put" :Str) == "steps")=false /\ (("wide" :Str) = "fresh")=False/\(("wide" :Str) = "rows")=False/\(("wide" :Str) = "steps")=False/\(("fresh" :Str) = "rows")=False/\(("fresh" :Str) = "steps")=False/\(("rows" :Str) = "steps")=False/\(("fresh" :Str) = "wide")=False/\(("rows" :Str) = "wide")=False/\(("rows" :Str) = "fresh")=False/\(("steps" :Str) = "wide")=False/\(("steps" :Str) = "fresh")=False/\(("steps" :Str) = "rows")=False /\ (("put_unless" :Str) == "wide")=false/\(("put_unless" :Str) == "fresh")=false/\(("put_unless" :Str) == "rows")=false/\(("put_unless" :Str) == "steps")=false/\(("put_by_choice" :Str) == "wide")=false/\(("put_by_choice" :Str) == "fresh")=false/\(("put_by_choice" :Str) == "rows")=false/\(("put_by_choice" :Str) == "steps")=false:=by
 apply#[?_,?_,?_,?_,?_,?_,?_,?_,?_,?_,?_,?_,?_,?_,?_,?_,?_,?_,?_,?_,?_,?_,?_,?_,?_,?_,?_,?_,?_,?_,?_,?_,?_,?_] <;> first|decide|exact eq_false ∅
def aI{rp:Addr}{W fr st:Nat}:K0 ("wide" :Str) (qw rp W fr st)=some (.int (W:Int))/\K0 ("fresh" :Str) (qw rp W fr st)=some (.int (fr:Int))/\K0 ("rows" :Str) (qw rp W fr st)=some (.ref rp)/\K0 ("steps" :Str) (qw rp W fr st)=some (.int (st:Int)) /\ K0 ("fresh_box" :Str) (qw rp W fr st)=none/\K0 ("put" :Str) (qw rp W fr st)=none/\K0 ("put_unless" :Str) (qw rp W fr st)=none/\K0 ("put_by_choice" :Str) (qw rp W fr st)=none/\(∀v:Nat,putD ("fresh" :Str) (.int (v:Int)) (qw rp W fr st)=qw rp W v st)/\(∀v:Nat,putD ("steps" :Str) (.int (v:Int)) (qw rp W fr st)=qw rp W fr v):=by
 apply⟨?_,?_,?_,?_,?_,?_,?_,?_,λv=>?_,λv=>?_⟩ <;> simp only[qw,Er,beq_self_eq_true,I0,O8,putD,if_false,if_true]
def Ug{rp:Addr}{W fr st:Nat}:(qw rp W fr st).length<1000:=show 4<1000 by decide
structure ax(C:Addr)(G:Gp)(p rp:Addr)(W fr:Nat)(rows:List Row)(st:Nat):Prop where
 ob:G p=some (.ins C (qw rp W fr st))
 ro:G rp=some (.lst (rows.map Row.d))
def ax.pr{C:Addr}{G:Gp}{p rp:Addr}{W fr st:Nat}{rows:List Row}(h:ax C G p rp W fr rows st):p≠rp:=λe=>by have:=h.ro;rw[<- e,h.ob] at this;cases this
def cG(p rp:Addr)(G f:Gp):Prop:=∀b o,b≠p->b≠rp->G b=some o->f b=some o
def cG.refl:cG p rp G G:=λ_ _ _ _ h=>h
def cG.trans(h:cG p rp G G1)(k:cG p rp G1 i):cG p rp G i:=λb o g f e=>k b o g f (h b o g f e)
def cG.new(h:cG p rp G G1)(f:G1 q=none):cG p rp G (aH G1 q o):=λb o i g e=>by have:=h b o i g e;rw[aB (aL this f)];exact this
def ax.new{C:Addr}{G:Gp}{p rp q:Addr}{W fr st:Nat}{rows:List Row}{o:DO}(h:ax C G p rp W fr rows st)(f:G q=none):ax C (aH G q o) p rp W fr rows st:=#[by rw[aB (aL h.ob f)];exact h.ob,by rw[aB (aL h.ro f)];exact h.ro]
def gC(W x y fr:Nat)(o:Str):List Row:=
 if o = "+" then[.add fr (.box x),.add fr (.box y),.turn (fr+1) W [(fr,W)],.take fr (.box (fr+1))]
 else if o = "-" then[.add fr (.box x),.take fr (.box y)]++[.turn (fr+1) W [(fr,31)],.add fr (.box (fr+1))]
 else if o = "&" then cV fr x y W
 else if o = "|" then cV fr x y W++([.add (fr+1) (.box x),.add (fr+1) (.box y)]++D2 1 (.take (fr+1) (.box fr)))
 else if o = "^" then cV fr x y W++([.add (fr+1) (.box x),.add (fr+1) (.box y)]++D2 2 (.take (fr+1) (.box fr)))
 else if o = "<" then[.add fr (.box x),.take fr (.box y)]++[.turn (fr+1) 0 [(fr,31)]]
 else([.add fr (.box x),.take fr (.box y)]++[.add (fr+1) (.box y),.take (fr+1) (.box x)])++[.turn (fr+2) 0 [],.turn (fr+2) 0 [(fr,31)],.turn (fr+2) 0 [(fr+1,31)]]
def BH(fr:Nat)(o:Str):Nat:=if o = "+" then fr else if o = "-" then fr else if o = "&" then fr else if o = "|" then fr+1 else if o = "^" then fr+1 else if o = "<" then fr+1 else fr+2
def mY(fr:Nat)(o:Str):Nat:=if o = "+" then fr+2 else if o = "-" then fr+2 else if o = "&" then fr+1 else if o = "|" then fr+2 else if o = "^" then fr+2 else if o = "<" then fr+2 else fr+3
def Vs(h:o∈L3.signs):o = "+" \/ o = "-" \/ o = "&" \/ o = "|" \/ o = "^" \/ o = "<" \/ o = "=" := by simpa[L3.signs] using h
def wv2(h:W<=16)(g:o∈L3.signs):(gC W x y fr o).length<=20:=by
 have f:(cV fr x y W).length=W:=by unfold cV;rw[B0,J2]
 rcases Vs g with rfl|rfl|rfl|rfl|rfl|rfl|rfl
 .exact(by decide:4<=20)
 .exact(by decide:4<=20)
 .show(cV fr x y W).length<=20;omega
 .show(cV fr x y W++_).length<=20;rw[B4,f];show W+3<=20;omega
 .show(cV fr x y W++_).length<=20;rw[B4,f];show W+4<=20;omega
 .exact(by decide:3<=20)
 .exact(by decide:7<=20)
def vy5:fr<=mY fr o/\mY fr o<=fr+3/\BH fr o<mY fr o:=by
 unfold mY BH;split
 .omega
 split
 .omega
 split
 .omega
 split
 .omega
 split
 .omega
 split <;> omega
def dF(fr:Nat):mK->List Row
 | .num i=>[.add fr (.num (i:Int))]| .box _=>[]
def bh(fr:Nat):mK->Nat
 | .num _=>fr+1| .box _=>fr
def fE(bs:List Str)(pl:List Nat)(fr:Nat):mK->Nat
 | .num _=>fr| .box x=>gtB bs pl x
def vu7{pl:List Nat}(f:x∈bs)(g:pl.length=bs.length):pl[iG bs x]?=some (gtB bs pl x):=by
 have:iG bs x<pl.length:=by rw[g];exact Uc f
 unfold gtB;rw[B6 this];rfl
def pO(a:mK):fr<=bh fr a/\bh fr a<=fr+1/\(dF fr a).length<=1:=by
 cases a with
 | num i=>exact#[V2 _,B9 _,by show 1<=1;omega]| box x=>exact#[B9 _,V2 _,by show 0<=1;omega]
def wU(W:Nat)(bs:List Str)(pl:List Nat)(fr:Nat):av->List Row×List Nat×Nat
 | .is x a=>(dF fr a,eN bs pl x (fE bs pl fr a),bh fr a)| .op x o a b=>(dF fr a++dF (bh fr a) b++gC W (fE bs pl fr a) (fE bs pl (bh fr a) b) (bh (bh fr a) b) o,eN bs pl x (BH (bh (bh fr a) b) o),mY (bh (bh fr a) b) o)| _=>([],pl,fr)
def At(rs:List Row)(a:Nat)(new:List Row):Prop:=∀(j:Nat) (r:Row),new[j]?=some r->rs[a+j]?=some r
def At.left(h:At rs a (f++g)):At rs a f:=λj r e=>h j r (by rw[F9 (pM e)];exact e)
def At.right(h:At rs a (g++f)):At rs (a+g.length) f:=λj r e=>by rw[K8];exact h _ r (by rw[E7 (Q7 _ _),A38];exact e)
def At.head(h:At rs a (r::t)):rs[a]?=some r:=h 0 r rfl
def At.tail(h:At rs a (r::t)):At rs (a+1) t:=λj x e=>by rw[K8,P0 1 j];exact h (j+1) x e
def eJ(rs:List Row)(n s:Nat)(b:List Int)(f:Nat)(b':List Int):Prop:=∀m,rn true rs (n+m) s b=(n+(rn true rs m f b').1,(rn true rs m f b').2)
def eJ.refl:eJ rs 0 s b s b:=λm=>by rw[L5,L5]
def eJ.trans(h1:eJ rs g s b i l)(j:eJ rs f i l h k):eJ rs (g+f) s b h k:=λm=>by rw[K8,h1 (f+m),j m];show(g+(f+_),_)=_;rw[K8]
def eJ.step(h:bw rs b s=true)(e:bS rs b s=(f,b')):eJ rs 1 s b f b':=λm=>by rw[P0 1 m,sD (fw:=true) h];show((rn true rs m (bS rs b s).1 (bS rs b s).2).1+1,(rn true rs m (bS rs b s).1 (bS rs b s).2).2)=_;rw[e,P0]
def eJ.cast(h:eJ rs n s b f b')(e:n=g)(i:f=t):eJ rs g s b t b':=by subst e i;exact h
theorem eJ.plain(e:rs[s]?=some r)(i:r.plain=true):eJ rs 1 s b (s+1) (cB 1 b r):=by
 have f:=pM e;have g:rs[s]=r:=by rw[B6 f] at e;exact E1 e
 have h:=Nx (bs:=b) f (by rw[g];exact i);rw[g] at h;exact eJ.step h.1 h.2
theorem eJ.lU:∀{t:List Row} {s:Nat} {b:List Int},At rs s t->(∀r∈t,r.plain=true)->eJ rs t.length s b (s+t.length) (kB t b)
 | [],s,b,_,_=>eJ.refl| r::t,s,b,h,f=>by have g:=eJ.lU (t:=t) (s:=s+1) (b:=cB 1 b r) h.tail λx i=>f x (C2 _ i);exact((eJ.plain h.head (f r C6)).trans g).cast (by rw[C1];omega) (by rw[C1];omega)
def eJ.goT(e:rs[s]?=some (.go x n k))(h:gt b x=n):eJ rs 1 s b (k+1) b:=eJ.step (by unfold bw;rw[e]) (by unfold bS;rw[e];exact if_pos h)
def eJ.goF(e:rs[s]?=some (.go x n k))(h:gt b x≠n):eJ rs 1 s b (s+1) b:=eJ.step (by unfold bw;rw[e]) (by unfold bS;rw[e];exact if_neg h)
theorem eJ.aP(e:rs[s]?=some (.aP x n k))(h:gt b x≠n):eJ rs 1 s b (s+1) b:=eJ.step (by unfold bw;rw[e];show(!decide (gt b x=n))=true;rw[decide_eq_false h];rfl) (by unfold bS;rw[e];rfl)
def Vr{a b:Nat}{r:Row}(h:r.ok a)(f:a<=b):r.ok b:=by
 cases r with
 | add x o=>exact#[C5 h.1 f,Ob h.2 f]| take x o=>exact#[C5 h.1 f,Ob h.2 f]| turn x i j=>exact#[C5 h.1 f,h.2.1,h.2.2.1,λc g=>#[C5 (h.2.2.2 c g).1 f,(h.2.2.2 c g).2]]| swap x y=>exact#[C5 h.1 f,C5 h.2.1 f,h.2.2]| go x n k=>exact#[C5 h.1 f,h.2]| aP x n k=>exact#[C5 h.1 f,h.2]
structure cf(a:Nat)(new:List Row):Prop where
 go:∀(j x:Nat) (n:Int) (k:Nat),new[j]?=some (Row.go x n k)->a<=k/\new[k-a]?=some (.aP x n (a+j))
 co:∀(j x:Nat) (n:Int) (k:Nat),new[j]?=some (Row.aP x n k)->a<=k/\new[k-a]?=some (.go x n (a+j))
theorem cf.plain(h:∀r∈new,r.plain=true):cf a new:=by
 apply#[λj x n k e=>?_,λj x n k e=>?_]
 .have:=h _ (K3 e);cases this
 .have:=h _ (K3 e);cases this
def cf.pairs(h:cf 0 new):Pairs new:=#[λj x n k e=>by have:=(h.go j x n k e).2;rw[Dx,L5] at this;exact this,λj x n k e=>by have:=(h.co j x n k e).2;rw[Dx,L5] at this;exact this]
def cf.app(h1:cf a f)(g:cf (a+f.length) h):cf a (f++h):=by
 apply#[λj x n k e=>?_,λj x n k e=>?_]
 .rcases Dw j f.length with q|q
  .rw[F9 q] at e;let#[u,v]:=h1.go j x n k e;exact#[u,by rw[F9 (pM v)];exact v]
  .rw[E7 q] at e;let#[u,v]:=g.go _ x n k e;apply#[(),?_];rw[E7 (),show k-a-f.length=k-(a+f.length) by omega,v];congr 2;omega
 .rcases Dw j f.length with q|q
  .rw[F9 q] at e;let#[u,v]:=h1.co j x n k e;exact#[u,by rw[F9 (pM v)];exact v]
  .rw[E7 q] at e;let#[u,v]:=g.co _ x n k e;apply#[(),?_];rw[E7 (),show k-a-f.length=k-(a+f.length) by omega,v];congr 2;omega
def cf.fence(h:∀r∈t,r.plain=true):cf a (.go x n (a+t.length+1)::(t++[.aP x n a])):=by
 have key:∀(j:Nat) (r:Row),(Row.go x n (a+t.length+1)::(t++[.aP x n a]))[j]?=some r->(j=0/\r=.go x n (a+t.length+1))\/(j=t.length+1/\r=.aP x n a)\/r.plain=true:=by
  intro j r e;cases j with
  | zero=>exact .inl #[rfl,(E1 e).symm]| succ j =>
   rw[U5] at e;rcases Dw j t.length with q|q
   .rw[F9 q] at e;exact .inr (.inr (h r (K3 e)))
   .rw[E7 q] at e;have i:j-t.length<1:=by simpa using pM e
    rw[show j-t.length=0 by omega] at e;exact .inr (.inl ⟨(),(E1 e).symm⟩)
 apply⟨λj f g k e=>?_,λj f g k e=>?_⟩
 .rcases key j _ e with⟨rfl,q⟩|⟨rfl,q⟩|q
  .cases q;apply⟨(),?_⟩;rw[show a+t.length+1-a=t.length+1 by omega,U5,E7 (B9 _),Fl];rfl
  .cases q
  .cases q
 .rcases key j _ e with⟨rfl,q⟩|⟨rfl,q⟩|q
  .cases q
  .cases q;apply⟨B9 _,?_⟩;rw[Fl];show some (Row.go x n (a+t.length+1))=some (Row.go x n (a+(t.length+1)));rw[K8]
  .cases q
structure Wk(a fr df:Nat)(new:List Row)(st:Nat)(P:List Int->Prop)(F:List Int->List Int->Prop):Prop where
 le:fr<=df
 ok:∀r∈new,r.ok df
 pr:cf a new
 run:∀sz rs bs,At rs a new->cn sz bs->df<=sz->(∀i,fr<=i->gt bs i=0)->P bs->∃Ae,cn sz Ae/\(∀i,i<fr\/df<=i->gt Ae i=gt bs i)/\F bs Ae/\eJ rs st a bs (a+new.length) Ae
def Wk.of(h:Wv fr n new F):Wk a fr n new new.length P F:=by have i:∀r∈new,r.plain=true:=λr f=>Ed (h.tg r f);apply#[h.le,λr f=>DD (h.tg r f) (B9 _),cf.plain i,λsz o bs l j g m _=>?_];have k:=h.keep j g;exact#[kB new bs,k.1,k.2,h.ef sz bs j g m,eJ.lU l i]
def Wk.imp{a fr j st:Nat}{new:List Row}{P f:List Int->Prop}{F k:List Int->List Int->Prop}(h:Wk a fr j new st P F)(r:∀b,f b->P b)(t:∀b b',f b->(∀i,i<fr->gt b' i=gt b i)->F b b'->k b b'):Wk a fr j new st f k:=#[h.le,h.ok,h.pr,λsz l bs x u q y p=>by let#[b',o,g,n,m]:=h.run sz l bs x u q y (r _ p);exact#[b',o,g,t _ _ p (λi hi=>g i (.inl hi)) n,m]]
def Wk.seq(h1:Wk a fr t m x P q)(g:Wk (a+m.length) t M G u P2 N)(I:∀b f,P b->q b f->(∀i,i<fr->gt f i=gt b i)->P2 f): Wk a fr M (m++G) (x+u) P (λb b'=>∃f,q b f/\N f b'/\(∀i,i<fr->gt f i=gt b i)/\∀i,i<t->gt b' i=gt f i):=by
 apply#[D5 h1.le g.le,λr hr=>?_,h1.pr.app g.pr,λsz j bs n J H o p=>?_]
 .rcases E9.mp hr with hr|hr
  .exact Vr (h1.ok r hr) g.le
  .exact g.ok r hr
 .have Q:=h1.le;have O:=g.le;let#[f,E,h,l,C]:=h1.run sz j bs n.left J () o p;let#[L,B,k,A,y]:=g.run sz j f n.right E H (λi hi=>by rw[h i (.inr hi)];exact o i ()) (I _ _ p l λi hi=>h i (.inl hi));apply#[L,B,λi hi=>?_,#[f,l,A,λi hi=>h i (.inl hi),λi hi=>k i (.inl hi)],(C.trans y).cast rfl (by rw[B4];omega)];rw[k i (),h i ()]
def s_(a ch:Nat)(ys ns:List Row):List Row:=(.go ch 0 (a+ys.length+1)::(ys++[.aP ch 0 a]))++(.go ch 1 (a+(ys.length+2)+ns.length+1)::(ns++[.aP ch 1 (a+(ys.length+2))]))
def Wk.choice(f:Wv fr m ys O)(j:Wv fr m ns Q)(X:ys.length=ns.length)(x:ch<fr): Wk a fr m (s_ a ch ys ns) (ys.length+3) (λb=>gt b ch=0\/gt b ch=1) (λb b'=>(gt b ch=1->O b b')/\(gt b ch=0->Q b b')):=by
 have G:∀r∈ys,r.plain=true:=λr hr=>Ed (f.tg r hr);have H:∀r∈ns,r.plain=true:=λr hr=>Ed (j.tg r hr);have le:=f.le;have u:(Row.go ch 0 (a+ys.length+1)::(ys++[.aP ch 0 a])).length=ys.length+2:=by rw[C1,B4];rfl
 have h:∀(n:Int) (k:Nat) (t:List Row) (I:Nat) (F:List Int->List Int->Prop),0<=n->n<4294967296->Wv fr m t F->∀r∈(Row.go ch n k::(t++[.aP ch n I])),r.ok m:=by
  intro n k t I F M L hw r hr;rcases D7.mp hr with e|hr
  .rw[e];exact⟨(),M,L⟩
  rcases E9.mp hr with hr|hr
  .exact DD (hw.tg r hr) (B9 _)
  .rw[F5.mp hr];exact⟨(),M,L⟩
 apply⟨le,λr hr=>?_,?_,λsz U bs J l i N p=>?_⟩
 .rcases E9.mp hr with hr|hr
  .exact h 0 _ ys _ O ∅ ∅ f r hr
  .exact h 1 _ ns _ Q ∅ ∅ j r hr
 .apply cf.app (cf.fence G) ?_;rw[u];exact cf.fence H
 .have E:=At.left J;have o:=At.right J;rw[u] at o;have g1:=E.head;have S:=(At.left E.tail);have c1:=(At.right E.tail).head;have g2:=o.head;have R:=(At.left o.tail);have c2:=(At.right o.tail).head;have g:(s_ a ch ys ns).length=ys.length+2+(ns.length+2):=by unfold s_;rw[B4,u,C1,B4];rfl
  rw[g];rcases p with p|p
  .have k:=j.keep l i;apply⟨kB ns bs,k.1,k.2,⟨λq=>(by rw[p] at q;cases q),λ_=>j.ef sz bs l i N⟩,?_⟩;have C:=eJ.goT (b:=bs) g1 p;have B:=(eJ.goF (b:=bs) g2 (by rw[p];decide));have A:=eJ.lU (b:=bs) R H;have y:=eJ.aP (b:=kB ns bs) c2 (by rw[k.2 ch (.inl x),p];decide);exact(((C.cast rfl (show a+ys.length+1+1=a+(ys.length+2) by omega)).trans B).trans A |>.trans y).cast () ()
  .have k:=f.keep l i;apply⟨kB ys bs,k.1,k.2,⟨λ_=>f.ef sz bs l i N,λq=>(by rw[p] at q;cases q)⟩,?_⟩;have C:=eJ.goF (b:=bs) g1 (by rw[p];decide);have B:=eJ.lU (b:=bs) S G;have A:=eJ.aP (b:=kB ys bs) c1 (by rw[k.2 ch (.inl x),p];decide);have y:=eJ.goT (b:=kB ys bs) g2 (by rw[k.2 ch (.inl x),p]);exact((C.trans B).trans A |>.cast rfl (show a+1+ys.length+1=a+(ys.length+2) by omega) |>.trans y).cast () ()
def jd(fr:Nat):List Nat->List Row
 | []=>[]| p::f=>.add fr (.box p)::jd (fr+1) f
theorem ya:∀{ps:List Nat} {fr:Nat},(jd fr ps).length=ps.length
 | [],_=>rfl| p::ps,fr=>by show(jd (fr+1) ps).length+1=_;rw[ya];rfl
def gD(fr:Nat):List Nat->List Nat->List Nat
 | p::g,q::f=>if p=q then p::gD fr g f else fr::gD (fr+1) g f| _,_=>[]
def uY:List Nat->List Nat->List Nat
 | p::g,q::f=>if p=q then uY g f else p::uY g f| _,_=>[]
def uN:List Nat->List Nat->List Nat
 | p::g,q::f=>if p=q then uN g f else q::uN g f| _,_=>[]
theorem DE:∀{ps qs:List Nat},(uY ps qs).length=(uN ps qs).length
 | [],_=>by cases ‹List Nat› <;> rfl
 | _::_,[]=>rfl| p::ps,q::qs=>by
  unfold uY uN;split
  .exact DE
  .rw[C1,C1,DE]
theorem Uw:∀{ps qs:List Nat} {x:Nat},x∈uY ps qs->x∈ps
 | [],qs,x,h=>by cases qs <;> exact h
 | _::_,[],x,h=>by cases h
 | p::ps,q::qs,x,h=>by
  unfold uY at h;split at h
  .exact C2 _ (Uw h)
  .rcases D7.mp h with e|h
   .rw[e];exact C6
   .exact C2 _ (Uw h)
theorem Uv:∀{ps qs:List Nat} {x:Nat},x∈uN ps qs->x∈qs
 | [],qs,x,h=>by cases qs <;> cases h
 | _::_,[],x,h=>by cases h
 | p::ps,q::qs,x,h=>by
  unfold uN at h;split at h
  .exact C2 _ (Uv h)
  .rcases D7.mp h with e|h
   .rw[e];exact C6
   .exact C2 _ (Uv h)
theorem Gd:∀{ps qs:List Nat} {fr:Nat},ps.length=qs.length->(gD fr ps qs).length=ps.length
 | [],qs,fr,h=>by cases qs <;> rfl
 | p::ps,[],fr,h=>by cases h
 | p::ps,q::qs,fr,h=>by
  have h:ps.length=qs.length:=P1 h;unfold gD;split
  .rw[C1,Gd h,C1]
  .rw[C1,Gd h,C1]
theorem Uj:∀{ps qs:List Nat} {fr f0:Nat},f0<=fr->(∀p∈ps,p<f0)->∀x∈gD fr ps qs,x<fr+(uY ps qs).length
 | [],qs,fr,f0,_,_,x,hx=>by cases qs <;> cases hx
 | p::ps,[],fr,f0,_,_,x,hx=>by cases hx
 | p::ps,q::qs,fr,f0,i,h,x,hx=>by
  have j:=h p C6;have f:=λy g=>h y (C2 _ g);unfold gD at hx;unfold uY;split at hx
  .rename_i e;rw[if_pos e];rcases D7.mp hx with z|hx
   .omega
   .exact Uj i f x hx
  .rename_i e;rw[if_neg e,C1];rcases D7.mp hx with z|hx
   .omega
   .have:=Uj (fr:=fr+1) (f0:=f0) () f x hx;omega
mutual
def cH(W:Nat)(bs:List Str):av->Nat->List Nat->Nat->List Row×List Nat×Nat×Nat
 | .is x c,_,g,h=>((wU W bs g h (.is x c)).1,(wU W bs g h (.is x c)).2.1,(wU W bs g h (.is x c)).2.2,(wU W bs g h (.is x c)).1.length)| .op x o c d,_,g,h=>((wU W bs g h (.op x o c d)).1,(wU W bs g h (.op x o c d)).2.1,(wU W bs g h (.op x o c d)).2.2,(wU W bs g h (.op x o c d)).1.length)| .fG c i j,a,g,h =>
  let y:=bt W bs i a g h;let n:=bt W bs j (a+y.1.length) g y.2.2.1;let f:=bh n.2.2.1 c;let pre:=y.1++n.1++dF n.2.2.1 c++[.take f (.box (fE bs g n.2.2.1 c)),.turn (f+1) 0 [(f,31)]]
  (pre++s_ (a+pre.length) (f+1) (jd (f+2) (uY y.2.1 n.2.1)) (jd (f+2) (uN y.2.1 n.2.1)),gD (f+2) y.2.1 n.2.1,f+2+(uY y.2.1 n.2.1).length,y.2.2.2+n.2.2.2+(dF n.2.2.1 c).length+2+((uY y.2.1 n.2.1).length+3))
 | .kx _ _,_,g,h=>([],g,h,0)
def bt(W:Nat)(bs:List Str):List av->Nat->List Nat->Nat->List Row×List Nat×Nat×Nat
 | [],_,f,g=>([],f,g,0)| r::h,a,f,g =>
  let x:=cH W bs r a f g;let t:=bt W bs h (a+x.1.length) x.2.1 x.2.2.1
  (x.1++t.1,t.2.1,t.2.2.1,x.2.2.2+t.2.2.2)
end
theorem Bv:∀{ps qs:List Nat},(uY ps qs).length<=ps.length
 | [],qs=>by cases qs <;> exact B9 _
 | _::_,[]=>J4 _| p::ps,q::qs=>by
  have:=Bv (ps:=ps) (qs:=qs);unfold uY;split
  .rw[C1];omega
  .rw[C1,C1];omega
def wp1:(s_ a ch ys ns).length=ys.length+ns.length+4:=by unfold s_;rw[B4,C1,C1,B4,B4];show ys.length+1+1+(ns.length+1+1)=_;omega
def EU(bs:List Str)(fr sz:Nat)(x:List Row×List Nat×Nat×Nat):Prop:=x.1.length<=22*sz/\x.2.2.1<=fr+9*sz/\fr<=x.2.2.1/\x.2.1.length=bs.length/\x.2.2.2<=22*sz
mutual
theorem v98{bs:List Str}(A:W<=16)(J:bs.length<=6):∀(r:av) {a:Nat} {pl:List Nat} {fr:Nat},tN W bs r->xg r->pl.length=bs.length->EU bs fr (pR r) (cH W bs r a pl fr)
 | .is x c,a,pl,fr,q,_,p=>by have G:=pO (fr:=fr) c;exact#[by show(dF fr c).length<=22*1;omega,by show bh fr c<=fr+9*1;omega,G.1,by show(eN bs pl x _).length=_;unfold eN;rw[J9];exact p,by show(dF fr c).length<=22*1;omega]| .op x o c d,a,pl,fr,q,_,p=>by
  obtain⟨hx,Q,_,_⟩:x∈bs/\o∈L3.signs/\j0 W bs c/\j0 W bs d:=q;have G:=pO (fr:=fr) c;have lc:=pO (fr:=bh fr c) d;have sl:=vy5 (fr:=bh (bh fr c) d) (o:=o);have lg:=wv2 (W:=W) (x:=fE bs pl fr c) (y:=fE bs pl (bh fr c) d) (fr:=bh (bh fr c) d) A Q;have H:(dF fr c++dF (bh fr c) d++gC W (fE bs pl fr c) (fE bs pl (bh fr c) d) (bh (bh fr c) d) o).length<=22*1:=by rw[B4,B4];omega
  exact#[H,by show mY _ o<=fr+9*1;omega,by show fr<=mY _ o;omega,by show(eN bs pl x _).length=_;unfold eN;rw[J9];exact p,H]
 | .fG c f g,a,pl,fr,q,u,p=>by
  obtain⟨_,U,X⟩:j0 W bs c/\d8 W bs f/\d8 W bs g:=q;obtain⟨S,R⟩:fW f/\fW g:=u;have I:=tL A J f (a:=a) (fr:=fr) U S p;show EU bs fr (1+bZ f+bZ g) ((bt W bs f a pl fr).1++(bt W bs g (a+(bt W bs f a pl fr).1.length) pl (bt W bs f a pl fr).2.2.1).1++_++_++_,_,_,_);generalize bt W bs f a pl fr=y at I⊢;let#[l,h,m,B]:=y;obtain⟨y1,y2,Z,L,Y⟩:l.length<=22*bZ f/\m<=fr+9*bZ f/\fr<=m/\h.length=bs.length/\B<=22*bZ f:=I;have E:=tL A J g (a:=a+l.length) (fr:=m) X R p;show EU bs fr (1+bZ f+bZ g) (l++(bt W bs g (a+l.length) pl m).1++_++_++_,_,_,_);generalize bt W bs g (a+l.length) pl m=n at E⊢;let#[t,i,j,C]:=n;obtain⟨n1,n2,n3,n4,n5⟩:t.length<=22*bZ g/\j<=m+9*bZ g/\m<=j/\i.length=bs.length/\C<=22*bZ g:=E;have hp:=pO (fr:=j) c;have hu:=Bv (ps:=h) (qs:=i);have O:=DE (ps:=h) (qs:=i);apply#[?_,?_,?_,?_,?_]
  .show(l++t++dF j c++[_,_]++s_ _ _ (jd _ (uY h i)) (jd _ (uN h i))).length<=_;rw[B4,B4,B4,B4,wp1,ya,ya];show l.length+t.length+(dF j c).length+2+_<=_;omega
  .show bh j c+2+(uY h i).length<=_;omega
  .show fr<=bh j c+2+(uY h i).length;omega
  .show(gD _ h i).length=_;rw[Gd ()];exact L
  .show B+C+(dF j c).length+2+((uY h i).length+3)<=_;omega
 | .kx k f,a,pl,fr,_,u,_=>u.elim
theorem tL{bs:List Str}(q:W<=16)(p:bs.length<=6):∀(rs:List av) {a:Nat} {pl:List Nat} {fr:Nat},d8 W bs rs->fW rs->pl.length=bs.length->EU bs fr (bZ rs) (bt W bs rs a pl fr)
 | [],a,pl,fr,_,_,k=>#[J4 _,Q7 _ _,B9 _,k,J4 _]| r::rs,a,pl,fr,G,H,k=>by obtain⟨j,I⟩:tN W bs r/\d8 W bs rs:=G;obtain⟨x,E⟩:xg r/\fW rs:=H;have u:=v98 q p r (a:=a) (fr:=fr) j x k;show EU bs fr (pR r+bZ rs) ((cH W bs r a pl fr).1++_,_,_,_);generalize cH W bs r a pl fr=y at u⊢;let#[g,i,f,l]:=y;obtain⟨N,M,L,A,J⟩:g.length<=22*pR r/\f<=fr+9*pR r/\fr<=f/\i.length=bs.length/\l<=22*pR r:=u;have t:=tL q p rs (a:=a+g.length) (fr:=f) I E A;show EU bs fr (pR r+bZ rs) (g++(bt W bs rs (a+g.length) i f).1,_,_,_);generalize bt W bs rs (a+g.length) i f=n at t⊢;let#[o,B,h,m]:=n;obtain⟨S,R,Q,C,O⟩:o.length<=22*bZ rs/\h<=f+9*bZ rs/\f<=h/\B.length=bs.length/\m<=22*bZ rs:=t;exact#[by show(g++o).length<=_;rw[B4];omega,by show h<=_;omega,by show fr<=h;omega,C,by show l+m<=_;omega]
end
end Rw
namespace L2
open PySem PySem.Spec PyProof.Rows
section
variable{X:Cx}{tg:Expr}
def uv5:bK X (.type "dict") (λxs H Q=>∃a kvs,xs=[.ref a]/\H a=some (.dK kvs)/\∀p,H p=none->Q (.ref p) (upd H p (.dK kvs))):=by intro pins s k H xs l Q I r h;let#[a,kvs,rfl,i,q]:=h;let#[u,rfl,f]:=vals1 r;cases f;exact vv7 I (.of i) λp m g j=>#[.ref p,_,j,rfl,q p g]
def wu1(k ty:TE):TE:=λi H Q=>k i H λx j=>∃a,x=.ref a/\PH j a/\ty i j λy h=>∃b g f,y=.ref b/\a≠b/\h a=some (.dK g)/\h b=some (.dK f)/\g.length+f.length<=sizeLine/\Q .non (upd h a (.dK (DS g f)))
def wi2(ho:PE X o J)(i:PE X e ty)(m:M1 X o "update" f e aO):PE X (.Call (.Attribute o "update" f) [e] [] aO) (wu1 J ty):=by
 intro pins s l H Q I h
 (apply B07 m.base m.few m.line Y3 B15 PySem.F.type_dict_update (bg (ho pins s l H _ I h) ?_);rintro u R ⟨x,H1,A,U,a,ex,d,Z⟩)
 subst ex;obtain rfl:u=F0 a:=U;let#[M,L,_]:=Nq A d;apply#[M,L,?_];rw[m.trees]
 (apply V0 rfl (QO (Q4 (bg (i pins R l H1 _ A Z) ?_)));rintro iv O ⟨y,H2,k,S,b,k1,k2,ey,E,p,hb,n,Y⟩;apply U1 ?_)
 subst ey;obtain rfl:iv=F0 b:=S;let#[z1,Ym,TX,C,t]:=FA k.aE p;let#[z2,j,g,B,G]:=FA k.aE hb;apply MI B15 t.typeIs PySem.F.entry_dict_update (PySem.F.args_dict_update_2 _ _) (meets_dict_update (eD X.prog X.w) a b E j) #[TX,g,t,G,by rw[<- C.length,<- B.length];exact n,λh' r d2 N=>?_];have i:∃q,h'.get? a=some q:=let ⟨q,_,_,hq,_⟩:=r;#[q,hq];have hl:=ud2 k2 k1;exact#[.non,_,DW (t':=O.toks) k (by rw[p];exact Q3) N i (Nn (D5 hl n) Ym (B.merge C) r),rfl,Y]
def Zm(a:Addr)(o:Obj)(kvs:List (Key×V)):It:=#[λi H=>(∃f,H a=some (.dG o (.dK f))/\f.map (·.1)=kvs.map (·.1))/\i<kvs.length,λi H v g=>g=H/\∃p,kvs[i]?=some p/\v=kV p.1,λi H=>(∃f,H a=some (.dG o (.dK f))/\f.map (·.1)=kvs.map (·.1))/\kvs.length<=i]
def x94(h:(eD P w).is k u=true):RelV (kV k) u:=by
 rcases xb h with⟨i,t,rfl,rfl⟩|⟨x,t,rfl,rfl⟩
 .exact⟨t,rfl⟩
 .exact⟨t,rfl⟩
def w40(ok:gB P w H h)(e:H a=some (.dG o (.dK kvs)))(k:o.data=.dict r ep):(a==R4)=false/\∃vs,KV kvs vs/\h.DictAt (eD P w) a vs ep:=by let#[j,z,l,vs,f,t,x,u,i,q,g,p,m,n]:=(show bu P w H h a (.dG o (.dK kvs)) from ok a _ e);rw[j] at i;cases i;rw[k] at g;cases g;exact#[l,vs,f,o,r,j,q,k,p,m,n]
def va6{P:Program}{w:World}{K:W.Frag}(it a:Addr)(o:Obj)(kvs:List (Key×V)){es:Array C80}{ep:Nat}(S:o.data=.dict es ep):Turn P w K tg (Zm a o kvs) [it] it (λi h=>h.IsKeyIter it a i kvs.length ep) where
 mem:=by simp
 obj:=λi h st b j=>by
  have e:b=it:=by simpa using j
  subst e;let#[o,e,c,d]:=st;exact#[o,e,λv z=>by rw[d] at z;cases z]
 keep:=λi h t st k=>let ⟨o,e,r⟩:=st;#[o,k it (by simp) o e,r]
 item:=by
  intro X B hw C U i pins s O H E I n st A;subst B hw C;let#[M,f1,f2,L,J,G]:=n it (by simp);obtain⟨⟨g,N,u⟩,sQ⟩:(∃g,H a=some (.dG o (.dK g))/\g.map (·.1)=kvs.map (·.1))/\i<kvs.length:=A;let#[_,m,f,l]:=w40 I.aE N S;have x:kvs.length=m.length:=by have:=congrArg J5 u;rw[B0,B0] at this;rw[<- f.length,this]
  have hk:=u.symm.trans f.keys;obtain⟨p,R⟩:∃p,m[i]?=some p:=#[_,B6 ()];have CD:kvs[i]?.map (·.1)=some p.1:=by rw[<- F7,hk,F7,R];rfl
  let#[q,hq,rA]:=F6.mp CD;rw[x] at st;apply wpAny_pyNext_dict_item (k:=p.1) (v:=p.2) st l R λkey t y Q Z=>?_;have I1:Inv X pins O H { s with heap:=t}:=I.turned (t':=s.toks) (λb o j e=>(Z.2 b j).trans e) M f1 L J G;let#[o2,e,cc,d]:=id Q;exact#[_,rfl,FE (s:={ s with heap:=t}) e cc d ∅ #[kV p.1,H,I1,x94 y,#[rfl,q,hq,by rw[rA]],by rw[x];exact Q,λb j=>(n b j).1]]
 done:=by
  intro X B hw C U i pins s O H E I n st A;subst B hw C;let#[M,f1,f2,L,J,G]:=n it (by simp);obtain⟨⟨g,N,u⟩,sQ⟩:(∃g,H a=some (.dG o (.dK g))/\g.map (·.1)=kvs.map (·.1))/\kvs.length<=i:=A;let#[_,m,f,l]:=w40 I.aE N S;have x:kvs.length=m.length:=by have:=congrArg J5 u;rw[B0,B0] at this;rw[<- f.length,this]
  rw[x] at st;exact wpAny_pyNext_dict_end (I.ok.hd U) st l (M8 ()) λt eb=>#[rfl,I.turned (t':=s.toks) (λb o j e=>eb b o j e) M f1 L J G]
 self:=λ_ _ _ _ _ st h=>wpAny_pyIter_keyiter st h
def xa7(h:TE):TI:=λg H R=>h g H λv f=>∃a kvs,v=.ref a/\f a=some (.dK kvs)/\∀o,R (Zm a o kvs) (upd f a (.dG o (.dK kvs)))
def vq4(L:PE X l B):PI X tg l (xa7 B):=by
 intro pins s k H R I h
 (apply bg (L pins s k H _ I h) ?_;rintro v f ⟨y,A,x,C,E⟩)
 let#[a,kvs,rfl,r,q]:=E;obtain rfl:v=F0 a:=C;let#[z,p,m,g,dd]:=FA x.aE r;let#[o,S,u,i,N,t,M,G,J]:=id dd;have j:Inv X pins k (upd A a (.dG o (.dK kvs))) { f with heap:=f.heap,toks:=f.toks}:=DW x (by rw[r];exact Q3) (D28 _ _) #[o,i] #[i,z,p,m,g,dd];have Q:∀b∈[f.heap.objs.size],iN X pins (upd A a (.dG o (.dK kvs))) b:=λb O=>by
  have e:b=f.heap.objs.size:=by simpa using O
  subst e;exact j.qD (B9 _) (j.aE.fresh (B9 _))
 apply wpAny_pyIter_dict p (kvs:=m) (ep:=u) #[o,S,i,N,t,M,G,J] ?_;apply#[f.heap.objs.size,[f.heap.objs.size],_,_,_,rfl,j.kept (t':=f.toks) λb o e=>B8 _ e,va6 (f.heap.objs.size) a o kvs t,?_,Q,q o];rw[g.length];exact#[_,E4 _ rfl,rfl,rfl]
end
end L2
namespace L3
open PySem PySem.Spec PyProof.Rows L2
section
variable{X:Cx}{K:W.Frag}{G:Gp}{H:Hp}{tg e:Expr}{te:bC}
@[reducible] def w61:C3:=λf G q=>∃a kvs,f=[.ref a]/\G a=some (.bM kvs)/\∀p,G p=none->q (.ref p) (aH G p (.bM kvs))
def VA:Call3 X (.type "dict") w61:=pP uv5 <| by rintro xs H Q ⟨l,G,q,r,c,⟨a,kvs,rfl,k,t⟩,f⟩;let#[v,rfl,i]:=r.one;cases i.ar;let#[h,e,j]:=c a _ k;exact#[a,h,rfl,e,λp g=>f (.ref p) _ (.ref p) _ ae.fe (c.put (o:=.bM kvs) (Le.fresh g) #[_,iq,j.le (Le.fresh g)]) (Le.fresh g) (t p (c.fresh g))]
def DR(kvs more:List (Key×D)):List (Key×D):=more.foldl (λf g=>mR f g.1 g.2) kvs
theorem uu4:∀{more:List (Key×D)} {ms:List (Key×V)} {kvs:List (Key×D)} {ys:List (Key×V)},aF K H more ms->aF K H kvs ys->aF K H (DR kvs more) (DS ys ms)
 | [],ms,kvs,ys,h,k=>by
  have:ms=[]:=by have:=congrArg J5 h.1;simpa using this.symm
  subst this;exact k
 | p::more,[],kvs,ys,h,k=>by have:=congrArg J5 h.1;simp at this| p::more,m::ms,kvs,ys,h,k=>by
  let#[g,f]:=h;rw[C0,C0] at g f;let#[v,t,e,j,i]:=f.ay;injection e with r q;injection g with o n;have l:aF K H (mR kvs p.1 p.2) (putK ys m.1 m.2):=by rw[<- o];exact Vo (by rw[r];exact j) k
  exact uu4 (more:=more) (ms:=ms) #[n,by rw[q];exact i] l
def CQ(k ty:bC):bC:=λi G q=>k i G λx j=>(∃a kvs,x=.ref a/\j a=some (.bM kvs))/\ty i j λy h=>∃a b g f,x=.ref a/\y=.ref b/\a≠b/\h a=some (.bM g)/\h b=some (.bM f)/\g.length+f.length<=sizeLine/\q .non (aH h a (.bM (DR g f)))
def vc6{κ:Type}{kvs:List (κ×D)}{ys:List (κ×V)}(rp:aF K H kvs ys):ys.length=kvs.length:=by have:=congrArg J5 rp.1;rw[B0,B0] at this;exact this.symm
def wk3{p ty:bC}{l:L2.St}{Q:VK}(h:aJ K (CQ p ty) l H Q):wu1 (aJ K p) (aJ K ty) l H Q:=by let#[g,G,q,r,c,t,f]:=h;apply#[g,G,_,r,c,t,λx G1 v H1 O c1 C j=>?_];let#[#[a,kvs,rfl,Z],j]:=j;let#[I,e,rp]:=c1 a _ Z;apply#[a,O.ar,.inl #[I,.of e],g,G1,_,r.le C,c1,j,λy G2 u E N c2 R M=>?_];let#[a',b,U,S,i,rfl,J,h1,h2,Y,L]:=M;cases i;cases N.ar;let#[n,i,B]:=c2 a _ h1;let#[m,e2,A]:=c2 b _ h2;have k:Le E (upd E a (.dK (DS n m))):=Le.dK i;exact#[b,n,m,rfl,J,i,e2,by rw[vc6 B,vc6 A];exact Y,f _ _ _ _ ae.yD (c2.put (o:=.bM (DR U S)) k #[_,iq,(uu4 A B).le k]) (C.trans (R.trans k)) L]
def xk6{f g:Pos}(i:E3 X o to)(j:E3 X e te)(k:O2 o "update" X.env (eval o X.env)=eval o X.env:=by rfl)
  (h:((backTo g (D1 [e] X.env)).all (λx=>!x.1)&&(X5 g (P4 [] X.env)).all (λx=>x.1.isSome)
   && decide (([e]:List Expr).length+([]:List Keyword).length+(if([]:List Keyword).isEmpty then 0 else 1)<30))=true:=by rfl)
  (l:(f.endLine==g.line)=true:=by rfl) (m:D1 [e] X.env=[(false,eval e X.env)]:=by rfl):E3 X (.Call (.Attribute o "update" f) [e] [] g) (CQ to te):=
 dX (wi2 i j #[k,h,l,by rw[m];rfl]) λ_ _ _=>wk3
theorem Le.dG(h:H a=some (.dK ys)):Le H (upd H a (.dG o (.dK ys))):=
 #[λb f q=>by
  by_cases e:b=a
  .subst e;rw[h] at q;cases q
  .rw[c_ e];exact q,λb o u q=>by
  by_cases e:b=a
  .subst e;rw[h] at q;cases q
  .rw[c_ e];exact q]
def v77{kvs:List (Key×D)}{ys:List (Key×V)}(g:kvs.map (·.1)=ys.map (·.1)):jJ K u #[kvs.map λf=>kD f.1,λG=>G a=some (.qC o kvs)] (Zm a o ys) where
 go:=λi G H l c n hi=>by let#[h,k,j]:=c a _ n;have hi:i<(kvs.map λf=>kD f.1).length:=hi;have m:=congrArg J5 g;rw[B0,B0] at m;rw[B0] at hi;exact#[#[h,k,j.1.symm.trans g],()]
 stop:=λi G H l c n hi=>by let#[h,k,j]:=c a _ n;have hi:(kvs.map λf=>kD f.1).length<=i:=hi;have m:=congrArg J5 g;rw[B0,B0] at m;rw[B0] at hi;exact#[#[h,k,j.1.symm.trans g],()]
 qO:=λi G H v A l c _ hi y=>by
  let#[rfl,p,r,rfl]:=y;apply#[c,Le.refl _,kD p.1,?_,?_]
  .show(kvs.map λf=>kD f.1)[i]?=_;have e:(kvs.map (·.1))[i]?=some p.1:=by rw[g,F7,r];rfl
   rw[F7] at e⊢;let#[w,hw,q]:=F6.mp e;rw[hw];show some (kD w.1)=_;rw[q]
  .cases p.1 with
   | inl i=>show ae K _ (.int i) (.int i);rw[ae]| inr x=>show ae K _ (.str x) (.str x);rw[ae]
def vx6(te:bC):tX:=λg G r=>te g G λd f=>∃a kvs,d=.ref a/\f a=some (.bM kvs)/\∀o,r #[kvs.map λh=>kD h.1,λG=>G a=some (.qC o kvs)] (aH f a (.qC o kvs))
def wm3(h:E3 X e te):I3 X tg e (vx6 te):=DH (vq4 h) λx H R r=>by let#[g,G,q,m,c,t,f]:=r;apply#[g,G,_,m,c,t,λd A v y n c1 p l=>?_];let#[a,kvs,rfl,u,k]:=l;let#[i,e,j]:=c1 a _ u;apply#[a,i,n.ar,e,λo=>f _ _ _ _ (v77 j.1) (c1.put (o:=.qC o kvs) (Le.dG e) #[i,iq,j.le (Le.dG e)]) (p.trans (Le.dG e)) (k o)]
def Nc(i h:bC):bC:=λf G q=>i f G λx j=>h f j λy g=>∃a o kvs k d,x=.ref a/\y=kD k/\g a=some (.qC o kvs)/\dI kvs k=some d/\q d g
def vt6(h:aJ K (Nc E C) p H Q):TM (aJ K E) (aJ K C) p H Q:=by
 let#[g,G,q,j,c,t,f]:=h;apply#[g,G,_,j,c,t,λx U v H1 O c1 m L=>#[g,U,_,j.le m,c1,L,λy G2 u Z N c2 l J=>?_]];let#[a,o,kvs,k,d,rfl,rfl,R,n,I]:=J;have S:=ae.le l O;cases S.ar;obtain rfl:=Br N;let#[B,e,M]:=c2 a _ R;rcases Gs (k:=k) M with⟨z,_⟩|⟨Y,w,i,A,r⟩
 .rw[n] at z;cases z
 .rw[n] at i;cases i;exact⟨a,w,rfl,.inl ⟨B,k,.inr ⟨o,e⟩,rfl,A.symm⟩,f _ _ _ _ r c2 (m.trans l) I⟩
def vj8(h:aU k X.A)(j:E3 X o to)(hi:E3 X i f)(g:tu i:=by exact λ_ _=>rfl):E3 X (.Subscript o i pos) (Nc to f):=dX (vd5 (Ng h) j hi g) λ_ _ _=>vt6
end
end L3
namespace L3
open PySem PySem.Spec PyProof.Rows L2
section
variable{X:Cx}{K:W.Frag}{H:Hp}
def qW(c:bY K G H)(h:G a=some (.bM kvs)\/∃o,G a=some (.qC o kvs)):∃ys,Rd H a (.dK ys)/\aF K H kvs ys:=by
 rcases h with h|h
 .let#[ys,e,f]:=c a _ h;exact#[ys,.inl e,f]
 .let#[o,h]:=h;let#[ys,e,f]:=c a _ h;exact#[ys,.inr #[o,e],f]
end
end L3
namespace L3
open PySem PySem.Spec PyProof.Rows L2
def FQ(kvs:List (Key×D))(k:Key):List (Key×D):=kvs.filter λp=>!decide (p.1=k)
def RB(j i:bC):bC:=λf G q=>j f G λx h=>(∃a kvs,x=.ref a/\h a=some (.bM kvs))/\i f h λy g=>∃a kvs k v,x=.ref a/\y=kD k/\g a=some (.bM kvs)/\dI kvs k=some v/\q v (aH g a (.bM (FQ kvs k)))
theorem v43{K:W.Frag}{H:Hp}{k:Key}:∀{kvs:List (Key×D)} {ys:List (Key×V)},aF K H kvs ys->aF K H (FQ kvs k) (zx ys k)
 | [],[],f=>f| [],_::_,f=>by cases f.1
 | _::_,[],f=>by cases f.1
 | p::kvs,y::ys,⟨g,m⟩=>by
  rw[C0,C0,V9] at g;let#[z,n,e,l,j]:=(show ag K H (p.2::kvs.map (·.2)) (y.2::ys.map (·.2)) from m).ay;cases e;let#[i,h]:=v43 (k:=k) (kvs:=kvs) (ys:=ys) #[g.2,j];unfold FQ zx at i h⊢;rw[QE,QE,<- g.1];by_cases e:p.1=k
  .rw[if_neg (by simp[e]),if_neg (by simp[e])];exact#[i,h]
  .simp only[e,decide_false,A86,if_true,ne_eq,not_false_eq_true,decide_true];exact#[by rw[C0,C0,g.1,i],.cons l h]
def vs7{K:W.Frag}{H:Hp}{r p:bC}{m:L2.St}{Q:VK}(h:aJ K (RB r p) m H Q):vy0 (aJ K r) (aJ K p) m H Q:=by
 let#[g,G,q,A,c,t,f]:=h;apply#[g,G,_,A,c,t,λx G1 v H1 X c1 B l=>?_];let#[#[a,kvs,rfl,ha],l]:=l;let#[N,e,rp]:=c1 a _ ha;apply#[a,X.ar,.inl #[N,.of e],g,G1,_,A.le B,c1,l,λy G2 u L U c2 Y S=>?_];let#[a',Jf,k,v3,e1,rfl,Z,C,R]:=S;cases e1;obtain rfl:=Br U;let#[J,E,I]:=c2 a _ Z;rcases Gs (k:=k) I with⟨i,n⟩|⟨d',O,i,n,M⟩
 .rw[C] at i;cases i
 .rw[C] at i;cases i;have j:Le L (upd L a (.dK (zx J k))):=Le.dK E;exact⟨J,k,O,E,rfl,n,f _ _ _ _ (M.le j) (c2.put (o:=.bM (FQ Jf k)) j ⟨_,iq,(v43 I).le j⟩) (B.trans (Y.trans j)) R⟩
def xb3{f g:Pos}(i:E3 X o to)(j:E3 X e te)(k:O2 o "pop" X.env (eval o X.env)=eval o X.env:=by rfl)
  (h:((backTo g (D1 [e] X.env)).all (λx=>!x.1)&&(X5 g (P4 [] X.env)).all (λx=>x.1.isSome)
   && decide (([e]:List Expr).length+([]:List Keyword).length+(if([]:List Keyword).isEmpty then 0 else 1)<30))=true:=by rfl)
  (l:(f.endLine==g.line)=true:=by rfl) (m:D1 [e] X.env=[(false,eval e X.env)]:=by rfl):E3 X (.Call (.Attribute o "pop" f) [e] [] g) (RB to te):=
 dX (vr0 i j ⟨k,h,l,by rw[m];rfl⟩) λ_ _ _=>vs7
end L3
namespace L2
open PySem PySem.Spec PyProof.Rows
section
variable{X:Cx}
def Dg(v d:Addr):HO:=.ext λh=>h.IsValuesView v d
def vx9(h:TE):TE:=λg H Q=>h g H λx f=>∃(a:Addr) (kvs:List (Key×V)),x=.ref a/\Rd f a (.dK kvs)/\∀v,f v=none->Q (.ref v) (upd f v (Dg v a))
def vq9{f n:Pos}(C:PE X o t)(G:O2 o "values" X.env (eval o X.env)=eval o X.env:=by rfl)(J:(f.endLine==n.line)=true:=by rfl):
  PE X (.Call (.Attribute o "values" f) [] [] n) (vx9 t):=by
 intro pins s r H Q I h
 (apply wpAny_Call_method0_late G J (bg (C pins s r H _ I h) ?_);rintro v g ⟨x,U,i,B,a,kvs,rfl,m,q⟩)
 obtain rfl:v=F0 a:=B;let#[A,y,_]:=Nq i (.inl #[kvs,m]);let#[N,L,M,Y,p]:=xS i.aE m;apply#["dict", "dict.values",Y3,B16,PySem.F.type_dict_values,A,y,V0 rfl (PySem.evalArgs_none ?_)];apply MI B16 p.typeIs PySem.F.entry_dict_values (PySem.F.args_dict_values_1 _) (meets_dict_values (eD X.prog X.w) a L) #[#[M,p],?_];have l:(g.heap.push { cls:=.type "dict_values",data:=.fields [.ref a].toArray}).get? g.heap.objs.size=some { cls:=.type "dict_values",data:=.fields [.ref a].toArray}:=E4 _ rfl;apply#[.ref g.heap.objs.size,_,i.laid (t':=g.toks) (o:=Dg g.heap.objs.size a) (λb u E=>B8 _ E) (B9 _) #[#[_,l,rfl,rfl],#[_,l],λS R ⟨o,e,c⟩ k=>#[o,k o e,c]],rfl,q _ (i.aE.fresh (B9 _))]
def KV.vals{κ:Type}{kvs:List (κ×V)}{vs:List (κ×Value)}(r:KV kvs vs):Vals (kvs.map (·.2)) (vs.map (·.2)):=by
 induction r with
 | nil=>exact .nil| cons h _ f=>exact .cons h.2 f
def v82(hh:X.A.handled=none):bK X (.type "list") (λxs H Q=>∃(v a:Addr) (kvs:List (Key×V)),xs=[.ref v]/\H v=some (Dg v a)/\Rd H a (.dK kvs)/\∀(l:Addr),H l=none->Q (.ref l) (upd H l (.lst (kvs.map (·.2))))):=by
 intro pins s σ H xs us Q I r h;let#[v,a,kvs,rfl,y,M,q]:=h;let#[u,rfl,x]:=vals1 r;cases x;let#[k,_,_]:=I.aE v _ y;let#[z,L,i,g,dd]:=xS I.aE M;let#[o,S,n,E,N,R,Z,C,G]:=id dd;have CB:=g.length;apply W.kdl_call (W.kdl_values (kvs:=i) (ep:=n)) hh #[k,o,S,E,N,R,Z,C,G] () λh' t f U p J m=>?_;have Y:f.toList.length=i.length:=by rw[K7];exact m.1
 have hi:f.toList=i.map (·.2):=W.kdl_vals_eq _ Y λj u e=>m.2 j u (by rw[<- V7];exact e);have B:Vals (kvs.map (·.2)) f.toList:=by rw[hi];exact g.vals
 apply#[.ref s.heap.objs.size,_,I.laid (t':=t) (λb u O=>p b u O) (B9 _) (show bu X.prog X.w _ _ _ (.lst (kvs.map (·.2))) from #[by rw[B0];omega,f.toList,U,B,J]),rfl,q _ (I.aE.fresh (B9 _))]
end
end L2
namespace L3
open PySem PySem.Spec PyProof.Rows L2
section
variable{X:Cx}{K:W.Frag}{H:Hp}
def RE(h:bC):bC:=λg G q=>h g G λx f=>∃(a:Addr) (kvs:List (Key×D)),x=.ref a/\(f a=some (.bM kvs)\/∃o,f a=some (.qC o kvs))/\∀p,f p=none->q (.ref p) (aH f p (.lst (kvs.map (·.2))))
def wt9(h:TE):TE:=λg H Q=>TL (vx9 h) yk g H λxs f=>∃(v a:Addr) (kvs:List (Key×V)),xs=[.ref v]/\f v=some (Dg v a)/\Rd f a (.dK kvs)/\∀(l:Addr),f l=none->Q (.ref l) (upd f l (.lst (kvs.map (·.2))))
def vs4(h:aJ K (RE x) r H Q):wt9 (aJ K x) r H Q:=by
 let#[g,G,q,B,c,t,f]:=h;apply#[g,G,_,B,c,t,λd M v m E c1 I A=>?_];let#[a,kvs,rfl,J,y]:=A;cases E.ar;let#[i,e,C]:=qW c1 J;apply#[a,i,rfl,e,λv j=>?_];have n:Le m (upd m v (Dg v a)):=Le.fresh j;have p:a≠v:=by rintro rfl;rcases e with e|⟨_,e⟩ <;> rw[j] at e <;> cases e
 have L:Rd (upd m v (Dg v a)) a (.dK i):=by
  rcases e with e|⟨o,e⟩
  .exact .inl (by rw[c_ p];exact e)
  .exact .inr ⟨o,by rw[c_ p];exact e⟩
 apply⟨v,a,i,rfl,iq,L,λl k=>?_⟩;have c2:=c1.side (u:=Dg v a) j;exact f _ _ _ _ ae.fe (c2.cP k (C.le n).2) (I.trans (n.trans (Le.fresh k))) (y l (c2.fresh k))
def v79(i:aU k X.A){f g p pos:Pos}(j:E3 X o to)(m:Gl X "list")(l:X.mg "list" = none)(n:O2 o "values" X.env (eval o X.env)=eval o X.env:=by rfl)(q:(f.endLine==g.line)=true:=by rfl)
  (h:D1 [.Call (.Attribute o "values" f) [] [] g] X.env=(false,eval (.Call (.Attribute o "values" f) [] [] g) X.env)::D1 [] X.env:=by rfl):
  E3 X (.Call (.Name "list" p) [.Call (.Attribute o "values" f) [] [] g] [] pos) (RE to):=
 dX (uu0 (v82 i.hd) m l ∅ (vd6 (vq9 j n q) w26 h)) λ_ _ _=>vs4
end
end L3
namespace L2
open PySem PySem.Spec PyProof.Rows
def vk1:My (.type "list") "keys" = pure none:=by rw[Z',A56];kernel_rfl
def wn9{A:Around}{s:Shared}(h:s.heap.get? a=some o)(j:o.cls=.type "list")(m:o.data=.seq xs k)(i:o.dict=none)(t:A.handled=none) (q:∀h' tk,(∀b o,s.heap.get? b=some o->h'.get? b=some o)->Q none { s with heap:=h',toks:=tk}):wpAny (model prog w) A (PR (.ref a) "keys") Q E s:=by
 let#[c,u,x,p]:=o;simp only at j m i;subst j m i;let#[r,g,d,tk,os]:=s;have l:∀n,(#[r,g,d,n,os]:Shared).TypeIs (.ref a) "list" := λ_=>#[_,h,rfl];have f1:=sub_AttributeError;have I:=F.slot_list_getattribute.lookup;have H:=F.slot_list_getattribute.bind (.ref a);have G:=am_list_getattr_none;unfold PR getAttrBy? getAttrBy;repeat(any_goals (first|assumption|exact l _|((with_reducible show wpAny _ _ (call (ZX "list.__getattribute__") _ _) _ _ _);apply Dt F.slot_list_getattribute (l _) am_entry_list_getattribute (F.args_list_getattribute_2 _ _) (meets_getattribute_miss_list a xs k p "keys" _ vk1 ∅) ⟨h,t,λh' n e f=>?_⟩)|wp_step))
 let#[B,y,C]:=f.there;show wpAny _ _ (QH _ _ _ _ _ _ _) _ _ _;unfold QH;repeat(any_goals (first|assumption|wp_step))
 exact q _ _ f.keeps
def Pr2(h:Heap)(T:Addr)(x y:Value):Prop:=∃o n,h.get? T=some o/\o.cls=.type "tuple" /\ o.data=.seq [x,y].toArray n
def wn8 {prog: Program} {w: World} {A: Around} {s: Shared} {R: Result -> Shared -> Prop} {l it S: Addr} {us: Array Value} {h1: Heap} (hh: A.in1.handled = none) (hS: S ≠ it) (YC: S ≠ l) (hil: it ≠ l) {ks:List Key} {rv:List V} (hn:ks.length=rv.length) (hu:us.size=ks.length) (hz:ks.length<=1000) (hl:h1.IsList l us) (pr:∀(i:Nat) (k:Key) (v:V),ks[i]?=some k->rv[i]?=some v->∃(T:Addr) (x y:Value),us[i]?=some (F0 T)/\T≠S/\T≠it/\Pr2 h1 T x y/\RelV (kV k) x/\RelV v y) (q:∀(h':Heap) (tk:Nat) (vs:List (Key×Value)),(∀b o,b≠S->b≠it->h1.get? b=some o->h'.get? b=some o)->KV (putAll ks rv []) vs->h'.DictOf (eD prog w) S vs->R (.ok (.ret .none)) { s with heap:=h',toks:=tk}): ∀(k i:Nat) (h:Heap) (tk:Nat) (ii:Int) (kvs:List (Key×V)) (vs:List (Key×Value)),ks.length-i=k->i<=ks.length->h.IsListIter it l i->KV kvs vs->h.DictOf (eD prog w) S vs->kvs.length<=i->putAll (ks.drop i) (rv.drop i) kvs=putAll ks rv [] -> (∀b o,b≠S->b≠it->h1.get? b=some o->h.get? b=some o)->tD (model prog w) A (.builtin "dict.update.loop" { pos:=[.ref S,.ref it,rawInt ii,.none]}) R { s with heap:=h,toks:=tk}:=by
  have li:∀h:Heap,(∀b o,b≠S->b≠it->h1.get? b=some o->h.get? b=some o)->h.IsList l us:=λh kp=>by let#[o,e,r]:=hl;exact#[o,kp l o (D3 YC) (D3 hil) e,r]
  intro k;induction k with
  | zero =>
    intro i h tk ii kvs vs hk hi st rel dd Pb he kp;have hi:i=ks.length:=()
    subst hi;have hx:us[ks.length]?=none:=by simp[hu]
    have sR:putAll ks rv []=kvs:=by rw[<- he,C15];rfl
    apply Qv Oj ?_;rw[QM zG];apply B5 (wpAny_pyNext_list_end (s:={ s with heap:=h,toks:=tk}) hh st (li h kp) hx λh' eb=>?_);apply B5 (C4 (C4 ?_));exact q h' tk vs (λb o b1 b2 e=>eb b o b2 (kp b o b1 b2 e)) (by rw[sR];exact rel) (dd.at λo e=>eb S o hS e)
  | succ k ih =>
    intro i h tk ii kvs vs hk hi st rel dd Pb he kp;have c9:i<ks.length:=()
    obtain⟨kk,ek⟩:∃kk,ks[i]?=some kk:=#[ks[i],B6 c9];obtain⟨vv,ev⟩:∃vv,rv[i]?=some vv:=#[rv[i]'(),B6 _];let#[T,x,y,eT,T1,T2,#[oT,n,gT,cT,dT],rx,ry]:=pr i kk vv ek ev;have JR:putAll (ks.drop (i+1)) (rv.drop (i+1)) (putK kvs kk vv)=putAll ks rv []:=by
      rw[<- he];have e1:ks.drop i=kk::ks.drop (i+1):=by rw[N7 c9];congr 1;exact E1 ((B6 c9).symm.trans ek)
      have e2:rv.drop i=vv::rv.drop (i+1):=by rw[N7 ()];congr 1;exact E1 ((B6 ()).symm.trans ev)
      rw[e1,e2];rfl
    apply Qv Oj ?_;rw[QM zG];have hsz:vs.length<=sizeLine:=by rw[<- rel.length];exact D5 (m:=1000) () ∅
    apply B5 (wpAny_pyNext_list_item (s:={ s with heap:=h,toks:=tk}) st (li h kp) eT λh' mX sb=>?_);have gT':h'.get? T=some oT:=(sb.2 T T2).trans (kp T oT T1 T2 gT);have qI:h'.DictOf (eD prog w) S vs:=dd.at λo e=>(sb.2 S hS).trans e;have go: wpAny (model prog w) A.in1 (dictSet S x y) (fun _ s1 => wpAny (model prog w) A.in1 (again (.builtin "dict.update.loop" { pos:= [.ref S,.ref it,rawInt (ii + 1),.none] }))
          (λfin s'=>match fin with|.done f=>R (.ok f) s'|.again c'=>c'.quiet=true/\tD (model prog w) A c' R s') (λe s'=>R (.error e) s') s1) (λe s'=>R (.error e) s') { s with heap:=h',toks:=tk}:=by
      apply wpAny_dictSet_pairs (s:={ s with heap:=h',toks:=tk}) (hsz:=hsz) (Bn rx) qI λCO xB dW=>?_;apply C4 #[Ql zG _,?_];have hlp:=By kvs kk vv;apply ih (i+1) _ _ _ (putK kvs kk vv) _ () c9 ?_ (rel.put kk ry) xB () JR λb o b1 b2 e=>(dW.2 b b1).trans ((sb.2 b b2).trans (kp b o b1 b2 e));let#[o,e,r]:=mX;exact#[o,(dW.2 it (D3 hS)).trans e,r]
    apply B5 (N5 (B5 (ZY ?_)));unfold A46;apply B5 (Fe #[_,gT',cT] ?_);rw[if_pos ∅];apply B5 (N3 gT' dT (C4 ?_));exact N5 go
def ul4{prog:Program}{w:World}{A:Around}{E:Value->Shared->Prop}{s:Shared}{l:Addr}{us:Array Value}{o:Obj}{n:Nat}{Q:Value->Shared->Prop}(hh:A.in1.in1.handled=none)(g:s.heap.get? l=some o)(r:o.cls=.type "list")(G:o.data=.seq us n)(Z:o.dict=none) {ks:List Key} {rv:List V} (Y:ks.length=rv.length) (X:us.size=ks.length) (U:ks.length<=1000) (N:∀(i:Nat) (k:Key) (v:V),ks[i]?=some k->rv[i]?=some v->∃(T:Addr) (x y:Value),us[i]?=some (F0 T)/\Pr2 s.heap T x y/\RelV (kV k) x/\RelV v y) (q:∀(h':Heap) (tk:Nat) (vs:List (Key×Value)),(∀b o,s.heap.get? b=some o->h'.get? b=some o)->KV (putAll ks rv []) vs->h'.DictOf (eD prog w) s.heap.objs.size vs->Q (.ref s.heap.objs.size) { s with heap:=h',toks:=tk}): wpAny (model prog w) A (call (.type "dict") [.ref l]) Q E s:=by
 apply callType_codes (Q₁:=λh H=>h=.ref s.heap.objs.size/\H={ s with heap:=s.heap.push { cls:=.type "dict",data:=.dict [].toArray}}) F.kt_called_dict (F.kt_typeCall_dict_1 (.ref l)) F.entry_dict_init (kt_code_dict_new (.ref l) #[rfl,rfl]) λh H S=>?_;let#[e1,e2]:=S;subst e1;subst e2;have ed:(s.heap.push { cls:=.type "dict",data:=.dict [].toArray}).DictOf (eD prog w) s.heap.objs.size []:=B51 s.heap;have up:∀b o,s.heap.get? b=some o->(s.heap.push { cls:=.type "dict",data:=.dict [].toArray}).get? b=some o:=λb o e=>B8 _ e;apply#[ed.typeIs,F.args_dict_init_2 _ _,?_];unfold Builtin.«dict.__init__» B14;apply B5 (B5 (wpAny_notOrdered_dict ed.typeIs (C4 ?_)));show wpAny _ _ (Y6 "dict.__init__" s.heap.objs.size (.ref l) [] .none) _ _ { s with heap:=s.heap.push { cls:=.type "dict",data:=.dict [].toArray}};unfold Y6;apply B5 (Fe #[_,up _ _ g,r] ?_);rw[if_pos ∅];apply B5 (wn9 (s:={ s with heap:=s.heap.push { cls:=.type "dict",data:=.dict [].toArray}}) (up _ _ g) r G Z hh λh' tk B=>?_);simp only[B86,if_true];apply B5 (Du ?_);have p:∀b o,s.heap.get? b=some o->h'.get? b=some o:=λb o e=>B b o (up b o e);have J:h'.IsList l us:=#[o,p _ _ g,r,n,G];apply B5 (X6 (s:={ s with heap:=h',toks:=tk}) J ?_);apply C4 #[Ql zG _,?_];have YC:s.heap.objs.size≠l:=Z1 (D8 g);have j:s.heap.objs.size<h'.objs.size:=by let#[o,es,ep,e,_]:=ed;exact D8 (B _ _ e)
 have old:∀{b o},s.heap.get? b=some o->b≠s.heap.objs.size/\b≠h'.objs.size:=λe=>#[J7 (D8 e),J7 (C83 (D8 e) j)];have t:∀b o,h'.get? b=some o->(h'.push { cls:=.type "list_iterator",data:=.fields [.ref l,.int 0 0].toArray}).get? b=some o:=λb o e=>B8 _ e;apply wn8 (s:=s) (h1:=h'.push { cls:=.type "list_iterator",data:=.fields [.ref l,.int 0 0].toArray}) (us:=us) hh (J7 j) YC (D3 (old g).2) Y X U #[o,t _ _ (p _ _ g),r,n,G] (λi k v ek ev=>?_) (λh2 VU vs R u dd=>#[rfl,q h2 VU vs (λb o e=>R b o (old e).1 (old e).2 (t _ _ (p b o e))) u dd]) ks.length 0 _ tk 0 [] [] rfl (J4 _)
  #[_,E4 _ rfl,rfl,rfl] .nil (ed.at λo e=>t _ _ (B _ _ e)) (B9 _) rfl λb o _ _ e=>e
 let#[T,x,y,eT,#[O,m,C,cT,dT],M,L]:=N i k v ek ev;exact#[T,x,y,eT,(old C).1,(old C).2,#[O,m,t _ _ (p _ _ C),cT,dT],M,L]
inductive zi(K:W.Frag)(H:Hp):List V->List Key->List V->Prop
 | nil:zi K H [] [] []
 | cons {t:Addr} {k:Key} {v:V} {xs:List V} {ks:List Key} {rv:List V}:eF K H t [kV k,v]->zi K H xs ks rv->zi K H (.ref t::xs) (k::ks) (v::rv)
def zi.len{K:W.Frag}{H:Hp}{xs:List V}{ks:List Key}{rv:List V}(h:zi K H xs ks rv):xs.length=ks.length/\ks.length=rv.length:=by
 induction h with
 | nil=>exact#[rfl,rfl]| cons _ _ f=>exact#[congrArg (·+1) f.1,congrArg (·+1) f.2]
def zi.at_{K:W.Frag}{H:Hp}{xs:List V}{ks:List Key}{rv:List V}(h:zi K H xs ks rv){us:List Value}(r:Vals xs us):∀(i:Nat) (k:Key) (v:V),ks[i]?=some k->rv[i]?=some v->∃t:Addr,us[i]?=some (F0 t)/\eF K H t [kV k,v]:=by
 induction h generalizing us with
 | nil=>intro i k v e;cases e
 | @cons t o n xs ks rv m _ l =>
  cases r with
  | cons j r =>
   intro i k v g f;cases i with
   | zero=>cases g;cases f;cases j;exact#[t,rfl,m]
   | succ i=>exact l r i k v g f
def v83{X:Cx}(hh:X.A.in1.in1.handled=none):bK X (.type "dict") (λxs H Q=>∃(l:Addr) (g:List V) (ks:List Key) (rv:List V),xs=[.ref l]/\eR X.K H l g/\zi X.K H g ks rv/\ks.length<=1000/\∀(p:Addr),H p=none->Q (.ref p) (upd H p (.dK (putAll ks rv [])))):=by
 intro pins s σ H xs us Q I r h;let#[l,g,ks,rv,rfl,hq,J,L,q]:=h;let#[u,rfl,O]:=vals1 r;cases O;let#[its,G,#[o,n,ho,C,B,E],hsz]:=I.list hq;let#[Y,U]:=J.len;have hu:its.toArray.size=ks.length:=by rw[E2,<- G.length,Y]
 apply ul4 hh ho (by first|exact C|exact B|exact E) (by first|exact E|exact B|exact C) (by first|exact B|exact C|exact E) U hu L (λi k v e1 e2=>?_) λh' N M Z j dd=>?_
 .let#[t,et,st]:=J.at_ G i k v e1 e2;let#[it2,R,#[S,gT,cT,nT,dT],_]:=I.tuple st;let#[x,y,rfl,a1,a2]:=R.two;exact#[t,x,y,by rw[List.getElem?_toArray];exact et,#[S,nT,gT,cT,dT],a1,a2]
 .have f:(putAll ks rv []).length<=sizeLine:=D5 (VP ks rv []) (D5 (m:=1000) (by simpa using L) ∅);have Ci:(s.heap.objs.size==R4)=false:=beq_eq_false_iff_ne.mpr (Z1 I.big);exact#[.ref s.heap.objs.size,_,I.laid (a:=s.heap.objs.size) (t':=N) (o:=.dK (putAll ks rv [])) Z (B9 _) #[f,Ci,M,j,dd],rfl,q _ (I.aE.fresh (B9 _))]
end L2
namespace L3
open PySem PySem.Spec PyProof.Rows L2
section
variable{X:Cx}{K:W.Frag}{H:Hp}
def OE(f:Key×D):D:=.tup [kD f.1,f.2]
theorem w22:∀{kvs:List (Key×D)} {xs:List V},ag K H (kvs.map OE) xs->∃rv,zi K H xs (kvs.map (·.1)) rv/\ag K H (kvs.map (·.2)) rv
 | [],xs,h=>by obtain rfl:=ag.a_ h;exact#[[],.nil,.nil]
 | kv::kvs,xs,h=>by let#[x,r,rfl,n,m]:=ag.ay h;let#[a,t,rfl,l,k]:=(show ae K H (.tup [kD kv.1,kv.2]) x from n).aS;let#[u,A,rfl,q,j]:=ag.ay k;let#[f,y,rfl,o,i]:=ag.ay j;obtain rfl:=ag.a_ i;obtain rfl:=Br q;let#[rv,p,g]:=w22 m;exact#[f::rv,.cons l p,.cons o g]
@[reducible] def wr6:C3:=λf G q=>∃(a:Addr) (kvs:List (Key×D)),f=[.ref a]/\bB (G a)=some (kvs.map OE)/\kvs.length<=1000/\∀(p:Addr),G p=none->q (.ref p) (aH G p (.bM (tK (kvs.map (·.1)) (kvs.map (·.2)) [])))
def w56(B:aU k X.A):Call3 X (.type "dict") wr6:=pP (v83 B.hd) <| by rintro xs H Q ⟨C,G,q,r,c,t,f⟩;let#[a,kvs,rfl,y,x,t]:=t;let#[v,rfl,n]:=r.one;cases n.ar;let#[i,j,u]:=e_ c y;let#[g,p,m]:=w22 u;apply#[_,i,_,g,rfl,j,p,by rw[B0];exact x,λp h=>?_];have l:Le H (upd H p (.dK (putAll (kvs.map (·.1)) g []))):=Le.fresh h;exact f _ _ _ _ ae.fe (c.put (o:=.bM (tK (kvs.map (·.1)) (kvs.map (·.2)) [])) l #[_,iq,VQ (ag.le l m) #[rfl,.nil]]) l (t p (c.fresh h))
end
end L3
namespace L2
open PySem PySem.Spec PyProof.Rows
abbrev eY:=List Key×List Key
abbrev KN(K:W.Frag)(H:Hp):List (eY×V)->List (eY×Addr×Value)->Prop:=Paired λp q=>p.1=q.1/\Ai K H q.2.1 p.1/\RelV p.2 q.2.2
def KN.val{K:W.Frag}{H:Hp}{kvs:List (eY×V)}{xs:List (eY×Addr×Value)}(r:KN K H kvs xs)(k:eY):dQ (dh kvs k) ((atKey xs k).map (·.2)):=by
 induction r with
 | nil=>exact Q3| @cons p q m f h t j =>
  let#[i,_,l]:=h;by_cases e:p.1=k
  .have g:q.1=k:=i.symm.trans e;have b:atKey (q::f) k=some q.2:=by simp[atKey,M6,g]
   rw[Ef e,b];exact l
  .have g:¬ q.1=k:=λz=>e (i.trans z);have b:atKey (q::f) k=atKey f k:=by simp[atKey,M6,g]
   rw[Ee e,b];exact j
def KN.uo{K:W.Frag}{H:Hp}{kvs:List (eY×V)}{xs:List (eY×Addr×Value)}(r:KN K H kvs xs)(k:eY){y:V}{u:Value}(j:RelV y u): KN K H (kvs.map λg=>if g.1=k then(g.1,y) else g) (xs.map (putAt k u)):=by
 induction r with
 | nil=>exact .nil| @cons p q o n h t l =>
  let#[f,i,m]:=h;apply .cons ?_ l;unfold putAt;dsimp only;by_cases e:p.1=k
  .rw[if_pos e,if_pos (f.symm.trans e)];exact#[f,i,j]
  .rw[if_neg e,if_neg (λz=>e (f.trans z))];exact#[f,i,m]
def KN.put{K:W.Frag}{H:Hp}{kvs:List (eY×V)}{xs:List (eY×Addr×Value)}(r:KN K H kvs xs)(k:eY){b:Addr}{y:V}{u:Value}(h:Ai K H b k)(f:RelV y u): KN K H (putK kvs k y) (PN xs k b u):=by
 have e:(kvs.any λg=>decide (g.1=k))=(atKey xs k).isSome:=by rw[Vz,(r.val k).iH,B03]
 unfold putK PN;rw[e];by_cases q:(atKey xs k).isSome=true
 .rw[if_pos q,if_pos q];exact r.uo k f
 .rw[if_neg q,if_neg q];exact ZI r #[rfl,h,f]
def xC.sq{K:W.Frag}{H:Hp}{a:Addr}{xs:List V}(h:xC K H a xs):eF K H a xs:=by
 rcases h with h|h|h
 .exact .inl (.inl h)
 .exact .inl (.inr h)
 .exact .inr h
def eF.tp{K:W.Frag}{H:Hp}{a:Addr}{xs:List V}(h:eF K H a xs):xC K H a xs:=by
 rcases h with(h|h)|h
 .exact .inl h
 .exact .inr (.inl h)
 .exact .inr (.inr h)
section
variable{X:Cx}{pins:List (Addr×Obj)}{σ:L2.St}{H:Hp}{s:Shared}{a b:Addr}{A:Around}{E:Value->Shared->Prop}
def Nh{q:eY}(I:Inv X pins σ H s)(h:Ai X.K H b q):(Bx (eD X.prog X.w)).is s.heap q b:=by
 let#[c,l,k]:=h;let#[its,r,#[o,e,t,n,d],_]:=I.tuple l.sq;let#[u,i,#[o2,m,f,j,p],_]:=I.tuple k.sq;cases r with
 | cons g r =>cases g;exact#[o,_,n,c,_,e,t,d,rfl,#[o2,u.toArray,j,m,f,p,by simpa using Ol i],Ol r]
def RF(I:Inv X pins σ H s)(e:H a=some (.dN X.K kvs)):kvs.length<=sizeLine/\(a==R4)=false /\ ∃xs,KN X.K H kvs xs/\s.heap.DictOfH (Bx (eD X.prog X.w)) a xs:=by
 let#[z,y,xs,r,o,u,B,n,k,j,i,h]:=(show bu X.prog X.w H s.heap a (.dN X.K kvs) from I.aE a _ e);apply#[z,y,xs,r,o,u,B,n,k,j,i,λx hx=>?_,h];have all:∀{l:List (eY×V)} {m:List (eY×Addr×Value)},KN X.K H l m->∀x∈m,(Bx (eD X.prog X.w)).is s.heap x.1 x.2.1:=by
  intro l m q;induction q with
  | nil=>intro x hx;exact nomatch hx| @cons p q G C f t g =>
   intro x hx;rcases D7.mp hx with e|hx
   .subst e;exact Nh I (by rw[<- f.1];exact f.2.1)
   .exact g x hx
 exact all r x hx
def wu2(K:W.Frag):TE:=λ_ H Q=>∀p,H p=none->Q (.ref p) (upd H p (.dN K []))
def vr1:PE X (.Dict [] [] pos) (wu2 X.K):=λpins s σ H Q I h =>
 wpAny_Dict_empty #[.ref s.heap.objs.size,_,I.laid (a:=s.heap.objs.size) (o:=.dN X.K []) (t':=s.toks) (λ_ _ q=>B8 _ q) (B9 _)
  #[J4 _,beq_eq_false_iff_ne.mpr (D3 (J7 I.big)),[],.nil,_,[].toArray,0,E4 _ rfl,#[rfl,rfl,rfl],rfl,rfl,Qt],rfl,h _ (I.aE.fresh (B9 _))]
def wu4(K:W.Frag)(g ty:TE):TE:=λσ H Q=>g σ H λx h=>ty σ h λy f=>∃a b kvs k v,x=.ref a/\y=.ref b/\f a=some (.dN K kvs)/\Ai K f b k/\dh kvs k=some v/\Q v f
def vr3{o i:Expr}{pos:Pos}{j ty:TE}(J:X.A.units+2<cLine)(N:PE X o j)(hi:PE X i ty)(L:tu i):PE X (.Subscript o i pos) (wu4 X.K j ty):=by
 intro pins s σ H Q I h
 (apply vb1 B00.lookup L (bg (N pins s σ H _ I h) ?_);rintro u m ⟨x,H1,Y,q,t⟩;apply bg (hi pins m σ H1 _ Y t) ?_;rintro G s2 ⟨y,Z,g,n,a,b,kvs,k,v,ex,S,R,O,l,r⟩)
 subst ex;subst S;obtain rfl:u=F0 a:=q;obtain rfl:G=F0 b:=n;let#[z,hd,xs,f,dd]:=RF g R;apply#[dd.typeIs,?_];let#[w',hw,C]:=dQ.some_of (v:=v) (o:=(atKey xs k).map (·.2)) (by rw[<- l];exact f.val k);let#[p,M,U]:=F6.mp hw;apply wpAny_getItem_heap (knd:=Bx (eD X.prog X.w)) J (Nh g O) dd M ?_;rw[U];exact#[v,Z,g.tok _,C,r]
def Wo(K:W.Frag):R2:=λx y H Q=>∃a b kvs k,x=.ref b/\y=.ref a/\H a=some (.dN K kvs)/\Ai K H b k/\Q (.bl (!(dh kvs k).isSome)) H
def vd8(l:X.A.units+2<cLine):dg X (L6 .NotIn) (Wo X.K):=by intro pins s σ H x y v u Q I i g h;let#[a,b,kvs,k,rfl,rfl,o,n,q]:=h;obtain rfl:v=F0 b:=i;obtain rfl:u=F0 a:=g;let#[z,m,xs,f,dd]:=RF I o;apply wpAny_notIn_heap (knd:=Bx (eD X.prog X.w)) l (Nh I n) m dd ?_;have e:=(f.val k).iH;rw[B03] at e;rw[<- e];exact#[.bl (!(dh kvs k).isSome),H,I.tok _,rfl,q]
def wv6(K:W.Frag)(h ty g:TE):TS:=λD σ H=>g σ H λv j=>h σ j λx i=>ty σ i λy f=>∃a b kvs k,x=.ref a/\y=.ref b/\f a=some (.dN K kvs)/\Ai K f b k/\kvs.length<sizeLine/\D.nx σ (upd f a (.dN K (putK kvs k v)))
def vp9{o i value:Expr}{pos f:Pos}{t ty p:TE}(hu:X.A.units+2<cLine)(ho:PE X o t)(hi:PE X i ty)(hv:PE X value p)(m:Y8 value (some (.Subscript o i f)) pos.line X.env=pure false): PS X (.Assign [.Subscript o i f] value pos) (wv6 X.K t ty p):=by
 intro pins s σ H D I h
 (apply wpAny_Assign_Subscript (bg (hv pins s σ H _ I h) ?_) m;rintro r M ⟨v,H1,I1,Q,Y⟩;apply bg (ho pins M σ H1 _ I1 Y) ?_;rintro u L ⟨x,H2,I2,O,U⟩;apply bg (hi pins L σ H2 _ I2 U) ?_;rintro iv s3 ⟨y,J,I3,N,a,b,kvs,k,ex,ey,e,G,l,S⟩)
 subst ex;subst ey;obtain rfl:u=F0 a:=O;obtain rfl:iv=F0 b:=N;let#[z,hd,xs,g,dd]:=RF I3 e;have hz:xs.length<=sizeLine:=by rw[<- Qs g];exact z
 have hl:(putK kvs k v).length<=sizeLine:=by have:=By kvs k v;omega
 apply wpAny_setItem_heap (knd:=Bx (eD X.prog X.w)) (hsz:=hz) hu (Nh I3 G) dd λh' R m=>?_;let#[q,es,ep,C,n,h3,h4,_,h5]:=R;have B:∀{c j},xC X.K J c j->xC X.K (upd J a (.dN X.K (putK kvs k v))) c j:=λh=>h.gq (λc j ec=>by rw[c_ (RH ec e (λz=>nomatch z))];exact ec) λc o j ec=>by rw[c_ (RH ec e (λz=>nomatch z))];exact ec
 apply#[σ,_,DW (ob:=.dN X.K (putK kvs k v)) I3 (by rw[e];exact Q3) m #[q,C] #[hl,hd,_,Paired.uz (g.put k G Q) λ_ _ z=>#[z.1,let ⟨c,h1,n⟩:=z.2.1;#[c,B h1,B n],z.2.2],q,es,ep,C,n,h3,h4,h5],S]
end
end L2
namespace L3
open PySem PySem.Spec PyProof.Rows L2
def jQ(kvs:List (eY×D))(k:eY):Option D:=(kvs.find? λf=>decide (f.1=k)).map (·.2)
def zN(kvs:List (eY×D))(k:eY)(v:D):List (eY×D):=if(kvs.any λf=>decide (f.1=k))=true then kvs.map (λf=>if f.1=k then(f.1,v) else f) else kvs++[(k,v)]
def BS(q:eY):D:=.tup (.tup (q.1.map kD)::q.2.map kD)
section
variable{X:Cx}{K:W.Frag}{G:Gp}{H:Hp}{p:Addr}
theorem UZ:∀{kvs:List (eY×D)} {ys:List (eY×V)},aF K H kvs ys->(jQ kvs k=none/\dh ys k=none)\/∃d v,jQ kvs k=some d/\dh ys k=some v/\ae K H d v
 | [],ys,⟨f,i⟩=>by
  have:ys=[]:=by cases ys with|nil=>rfl|cons y ys=>simp at f
  subst this;exact .inl #[rfl,rfl]
 | (g,d)::kvs,[],⟨f,i⟩=>by simp at f| (g,d)::kvs,(q,v)::ys,⟨f,i⟩=>by
  rw[C0,C0] at f;let#[l,u]:=Y0 f;have l:g=q:=l;subst l;let#[x,B,m,o,n]:=i.ay;rw[C0] at m;let#[j,t]:=Y0 m;have j:v=x:=j;subst j;by_cases h:g=k
  .right;exact#[d,v,by simp[jQ,M6,h],Ef h,o]
  .have r:=UZ (k:=k) (kvs:=kvs) (ys:=ys) #[u,by rw[t];exact n];have A:jQ ((g,d)::kvs) k=jQ kvs k:=by simp[jQ,M6,h]
   rw[A,Ee h];exact r
theorem vf3(q:ae K H d v):∀{kvs:List (eY×D)} {ys:List (eY×V)},aF K H kvs ys->aF K H (kvs.map (λf=>if f.1=k then(f.1,d) else f)) (ys.map (λf=>if f.1=k then(f.1,v) else f))/\(kvs.any λf=>decide (f.1=k))=(ys.any λf=>decide (f.1=k))
 | [],ys,⟨g,j⟩=>by
  have:ys=[]:=by cases ys with|nil=>rfl|cons y ys=>simp at g
  subst this;exact#[#[rfl,.nil],rfl]
 | (h,J)::kvs,[],⟨g,j⟩=>by simp at g| (h,J)::kvs,(A,r)::ys,⟨g,j⟩=>by
  rw[C0,C0] at g;let#[m,I]:=Y0 g;have m:h=A:=m;subst m;let#[x,L,o,u,t]:=j.ay;rw[C0] at o;let#[l,E]:=Y0 o;have l:r=x:=l;subst l;let#[#[C,n],B]:=vf3 (k:=k) q (kvs:=kvs) (ys:=ys) #[I,by rw[E];exact t];apply#[#[?_,?_],by rw[O7,O7,B]]
  .rw[C0,C0,C0,C0,C];by_cases i:h=k <;> simp[i]
  .rw[C0,C0,C0,C0];by_cases i:h=k
   .simp only[i,if_true];exact .cons q n
   .simp only[i,if_false];exact .cons u n
def wg5(q:ae K H d v)(h:aF K H kvs ys):aF K H (zN kvs k d) (putK ys k v):=by
 let#[g,f]:=vf3 (k:=k) q h;unfold zN putK;rw[f];split
 .exact g
 .exact#[by rw[B7,B7,h.1];rfl,by rw[B7,B7];exact h.2.append (.cons q .nil)]
theorem Le.dN(h:H p=some (.dN K xs)):Le H (upd H p (.dN K ys)):=
  ⟨fun b zs q => by by_cases e: b = p
                    · subst e;rw[h] at q;cases q
                    · rw[c_ e];exact q,
   fun b o u q => by by_cases e: b = p
                     · subst e;rw[h] at q;cases q
                     · rw[c_ e];exact q⟩
theorem BJ:∀{ks:List Key} {xs:List V},ag K H (ks.map kD) xs->xs=ks.map kV
 | [],xs,h=>ag.a_ h| k::ks,xs,h=>by let#[x,r,rfl,g,f]:=ag.ay h;rw[Br g,BJ f];rfl
def Um(h:ae K H (BS q) v):∃b,v=.ref b/\Ai K H b q:=by let#[b,xs,rfl,g,k]:=h.aS;let#[x,r,rfl,l,j]:=ag.ay k;let#[c,m,rfl,f,i]:=l.aS;rw[BJ i] at f;rw[BJ j] at g;exact#[b,rfl,c,g.tp,f.tp]
def zY(f:aU k X.A):X.A.units+2<cLine:=by have:=f.un;omega
def xc2:bC:=λ_ G q=>∀p,G p=none->q (.ref p) (aH G p (.rC []))
def wn0:E3 X (.Dict [] [] pos) xc2:=dX vr1 λj H Q h=>by let#[i,G,q,k,c,t,f]:=h;exact λp g=>f (.ref p) _ (.ref p) _ (by rw[ae]) (c.put (o:=.rC []) (Le.fresh g) #[[],iq,rfl,.nil]) (Le.fresh g) (t p (c.fresh g))
def xc5(i h:bC):bC:=λf G q=>i f G λx j=>h f j λy g=>∃a kvs k d,x=.ref a/\y=BS k/\g a=some (.rC kvs)/\jQ kvs k=some d/\q d g
def wn2(Z:aU k X.A)(ho:E3 X o to)(hi:E3 X i J)(Y:tu i:=by exact λ_ _=>rfl):E3 X (.Subscript o i pos) (xc5 to J):=
 dX (vr3 (zY Z) ho hi Y) λσ H Q h=>by
  let#[g,G,q,m,c,t,f]:=h;apply#[g,G,_,m,c,t,λx G1 v H1 U c1 r N=>#[g,G1,_,m.le r,c1,N,λy G2 u H2 S c2 n M=>?_]];let#[a,kvs,B,d,rfl,rfl,hg,j,L]:=M;have Hf:=ae.le n U;cases Hf.ar;let#[b,rfl,O]:=Um S;let#[I,e,R]:=c2 a _ hg;rcases UZ (k:=B) R with⟨l,_⟩|⟨d',w,l,E,C⟩
  .rw[l] at j;cases j
  .rw[l] at j;cases j;exact⟨a,b,I,B,w,rfl,rfl,e,O,E,f _ _ _ _ C c2 (r.trans n) L⟩
@[reducible] def w58:R3:=λx y G q=>∃(k:eY) (kvs:List (eY×D)) (a:Addr),x=BS k/\y=.ref a/\G a=some (.rC kvs)/\q (.bl (!(jQ kvs k).isSome)) G
def vn9(u:aU k X.A):fT X (L6 .NotIn) w58:=tH (vd8 (zY u)) λx y H Q h=>by
 let#[d,e,G,q,r,o,c,#[g,kvs,a,rfl,rfl,B,t],f]:=h;cases o.ar;let#[b,rfl,m]:=Um r;let#[l,e,n]:=c a _ B;apply#[a,b,l,g,rfl,rfl,e,m,?_];have C:(jQ kvs g).isSome=(dh l g).isSome:=by rcases UZ (k:=g) n with⟨j,i⟩|⟨E,w,j,i,_⟩ <;> rw[j,i] <;> rfl
 rw[C] at t;exact f _ _ _ _ ae.mI c (Le.refl H) t
def xc1(j i h:bC):ic:=λn f G=>h f G λv m=>j f m λx l=>i f l λy g=>∃(a:Addr) (kvs:List (eY×D)) (k:eY),x=.ref a/\y=BS k/\g a=some (.rC kvs)/\kvs.length<sizeLine/\n.nx f (aH g a (.rC (zN kvs k v)))
def wf9{pos g:Pos}(hr:aU k X.A)(ho:E3 X o to)(hi:E3 X i L)(Z:E3 X value J) (hs:Y8 value (some (.Subscript o i g)) pos.line X.env=pure false:=by rfl):S3 X (.Assign [.Subscript o i g] value pos) (xc1 to L J):=
 pN (vp9 (zY hr) ho hi Z hs) λD σ H h=>by
  let#[j,G,d,l,c,t,f]:=h;apply#[j,G,_,l,c,t,λv G1 w H1 Y c1 r Q=>#[j,G1,_,l.le r,c1,Q,λx G2 u H2 U c2 q O=>#[j,G2,_,l.le (r.trans q),c2,O,λy G3 z I S E n N=>?_]]];let#[a,kvs,k,rfl,rfl,hg,hl,M]:=N;have Wr:=ae.le n U;cases Wr.ar;let#[b,rfl,R]:=Um S;let#[B,e,C]:=E a _ hg;have m:Le I (upd I a (.dN _ (putK B k w))):=Le.dN e;have Xc:B.length=kvs.length:=by have:=congrArg J5 C.1;rw[B0,B0] at this;exact this.symm
  apply#[a,b,B,k,rfl,rfl,e,R,by rw[Xc];exact hl,?_];apply f.nx _ _ _ _ (((l.le r).le q).le (n.trans m)) ?_ (r.trans (q.trans (n.trans m))) M;exact E.put m #[_,iq,(wg5 (ae.le (q.trans n) Y) C).le m]
end
end L3
namespace Rw
open PySem PyProof.Rows L2 L3
def Wv.tr(le:fr<=f)(h:∀r∈new,Rw.tg fr f r):Wv fr f new (λ_ _=>True):=#[le,h,λ_ _ _ _ _=>trivial]
def xi1(E:W<=16)(C:x<fr)(B:y<fr)(p:o∈L3.signs):∀r∈gC W x y fr o,tg fr (mY fr o) r:=by
 have l:∀r∈cV fr x y W,tg fr (fr+1) r:=λr f=>by let#[i,hi,rfl]:=D6.mp f;have hi:=L0.mp hi;apply#[B9 _,(),(),by simp,λc h=>?_];simp only[D7,Y7,or_false] at h;rcases h with rfl|rfl <;> exact⟨(),(),()⟩
 have g:∀(z i k m:Nat) (j:List (Nat×Nat)),fr<=z->z<fr+m->i<32->(∀c∈j,c.1<z/\c.2<32)->j.length<=2->tg fr (fr+m) (.turn z i j):=λz i k m j A u t n q=>#[A,u,t,q,λc h=>#[by have:=n c h;omega,by have:=n c h;omega,(n c h).2]];intro r f;rcases Vs p with rfl|rfl|rfl|rfl|rfl|rfl|rfl
 all_goals
  simp only[gC,mY,eL,C7,if_false,if_true,E9,D7,Y7,or_false,List.mem_replicate] at f⊢
 .rcases f with rfl|rfl|rfl|rfl
  .exact⟨(),(),(),()⟩
  .exact⟨(),(),(),()⟩
  .exact g _ _ 0 2 _ () () () (by simp;omega) (by simp)
  .exact⟨(),(),(),()⟩
 .rcases f with(rfl|rfl)|rfl|rfl
  .exact⟨(),(),(),()⟩
  .exact⟨(),(),(),()⟩
  .exact g _ _ 0 2 _ () () () (by simp) (by simp)
  .exact⟨(),(),(),()⟩
 .exact l r f
 .rcases f with f|(rfl|rfl)|⟨_,rfl⟩
  .exact Bu (l r f) (B9 _) ()
  .exact⟨(),(),(),()⟩
  .exact⟨(),(),(),()⟩
  .exact⟨(),(),(),()⟩
 .rcases f with f|(rfl|rfl)|⟨_,rfl⟩
  .exact Bu (l r f) (B9 _) ()
  .exact⟨(),(),(),()⟩
  .exact⟨(),(),(),()⟩
  .exact⟨(),(),(),()⟩
 .rcases f with(rfl|rfl)|rfl
  .exact⟨(),(),(),()⟩
  .exact⟨(),(),(),()⟩
  .exact g _ _ 0 2 _ () () () (by simp) (by simp)
 .rcases f with((rfl|rfl)|rfl|rfl)|rfl|rfl|rfl
  .exact⟨(),(),(),()⟩
  .exact⟨(),(),(),()⟩
  .exact⟨(),(),(),()⟩
  .exact⟨(),(),(),()⟩
  .exact g _ _ 0 3 _ () () () (by simp) (by simp)
  .exact g _ _ 0 3 _ () () () (by simp) (by simp)
  .exact g _ _ 0 3 _ () () () (by simp) (by simp)
def Ni(h:W<=16)(g:j0 W bs a):∀r∈dF fr a,tg fr (bh fr a) r:=by
 intro r f;cases a with
 | num i =>obtain rfl:=F5.mp f;have j:i<2^W:=g;have:=C5 j (T9 (n:=2) ∅ h);exact#[B9 _,S9 _,(),()]
 | box x=>cases f
theorem TQ:∀{ps:List Nat} {fr:Nat},f0<=fr->(∀p∈ps,p<f0)->∀r∈jd fr ps,tg fr (fr+ps.length) r
 | [],_,_,_,_,hr=>nomatch hr| p::ps,fr,g,f,r,hr=>by
  have i:=f p C6;rcases D7.mp hr with rfl|hr
  .exact⟨B9 _,by simp,by rw[C1];omega,()⟩
  .exact Bu (TQ (fr:=fr+1) () (λp h=>f p (C2 _ h)) r hr) () (by rw[C1];omega)
def vo9(n:x<fr):Wv fr (fr+2) [.take fr (.box x),.turn (fr+1) 0 [(fr,31)]] (λ_ b'=>gt b' (fr+1)=0\/gt b' (fr+1)=1):=by
 apply⟨(),λr f=>?_,λl k h m i=>?_⟩
 .simp only[D7,Y7,or_false] at f;rcases f with rfl|rfl
  .exact⟨B9 _,(),(),()⟩
  .exact⟨(),(),(),by simp,λc g=>by rw[F5.mp g];exact#[(),(),()]⟩
 .have o:=h.len;have j:gt (cB 1 k (.take fr (.box x))) (fr+1)=0:=by rw[DX (),if_neg (),i (fr+1) ()]
  rw[Od,Od,wg0,FY (by rw[wZ];omega),if_pos rfl,j];split
  .exact .inr (YL 0)
  .exact .inl rfl
abbrev ET(a fr f:Nat)(new:List Row)(st:Nat):Prop:=Wk a fr f new st (λ_=>True) (λ_ _=>True)
theorem ET.seq(h1:ET a fr m f i)(k:ET (a+f.length) m l j g):ET a fr l (f++j) (i+g):=(Wk.seq h1 k λ_ _ _ _ _=>trivial).imp (λ_ h=>h) λ_ _ _ _ _=>trivial
def Zd(bs:List Str)(a fr:Nat)(x:List Row×List Nat×Nat×Nat):Prop:=ET a fr x.2.2.1 x.1 x.2.2.2/\x.2.1.length=bs.length/\∀p∈x.2.1,p<x.2.2.1
def ww2(h:∀p∈pl,p<fr)(j:fr<=f)(i:p<f):∀q∈eN bs pl x p,q<f:=λq g=>by
 rcases A20 g with z|z
 .exact C5 (h q z) j
 .rw[z];exact i
def NN{bs:List Str}{pl:List Nat}(f:pl.length=bs.length)(h:∀p∈pl,p<f0)(g:f0<=fr)(j:j0 W bs a):fE bs pl fr a<bh fr a:=by
 cases a with
 | num i=>exact S9 _| box x=>exact C5 (h _ (K3 (vu7 j f))) g
mutual
theorem VX(i:W<=16):∀(r:av) {a:Nat} {pl:List Nat} {fr:Nat},tN W bs r->xg r->pl.length=bs.length->(∀p∈pl,p<fr)->Zd bs a fr (cH W bs r a pl fr)
 | .is x c,a,pl,fr,hr,_,g,h=>#[Wk.of (Wv.tr (pO c).1 (Ni i hr.2)),by show(eN _ _ _ _).length=_;unfold eN;rw[J9];exact g,ww2 h (pO c).1 (NN g h (B9 _) hr.2)]| .op x o c d,a,pl,fr,hr,_,g,h=>by
  let#[_,X,l,L]:=hr;have f1:=pO (fr:=fr) c;have f2:=pO (fr:=bh fr c) d;have M:=vy5 (fr:=bh (bh fr c) d) (o:=o);have b1:=NN g h (B9 fr) l;have Z:=NN g h f1.1 L;apply#[Wk.of (Wv.tr (by show fr<=mY _ _;omega) λr hr=>?_),by show(eN _ _ _ _).length=_;unfold eN;rw[J9];exact g,ww2 h (by show fr<=mY _ _;omega) M.2.2];rcases E9.mp hr with hr|hr
  .rcases E9.mp hr with hr|hr
   .exact Bu (Ni i l r hr) (B9 _) (by show bh fr c<=mY _ _;omega)
   .exact Bu (Ni i L r hr) f1.1 M.1
  .exact Bu (xi1 i () Z X r hr) () (B9 _)
 | .fG c j m,a,pl,fr,hr,A,g,h=>by obtain⟨l,XI,Ez⟩:j0 W bs c/\d8 W bs j/\d8 W bs m:=hr;obtain⟨XX,XZ⟩:fW j/\fW m:=A;let#[C,J,I]:=sG i j (a:=a) XI XX g h;have O:=C.le;let#[E,U,S]:=sG i m (a:=a+(bt W bs j a pl fr).1.length) Ez XZ g λp u=>C5 (h p u) O;have B:=E.le;unfold cH Zd;dsimp only;generalize bt W bs j a pl fr=y at *;generalize bt W bs m (a+y.1.length) pl y.2.2.1=n at *;have u:=pO (fr:=n.2.2.1) c;have Y:=NN g h (D5 O B) l;have ty:=Wv.tr (fr:=bh n.2.2.1 c+2) (Q7 _ _) (TQ (f0:=n.2.2.1) (ps:=uY y.2.1 n.2.1) () λp q=>C5 (I p (Uw q)) B);have G:=Wv.tr (fr:=bh n.2.2.1 c+2) (Q7 _ _) (TQ (f0:=n.2.2.1) (ps:=uN y.2.1 n.2.1) () λp q=>S p (Uv q));rw[<- DE] at G;have Q:ET a fr _ _ _:=(C.seq E).seq (Wk.of (Wv.tr u.1 (Ni i l)));have H:=(Wk.seq (P2:=λ_=>True) Q (Wk.of (vo9 Y)) λ_ _ _ _ _=>trivial).seq (Wk.choice (ch:=bh n.2.2.1 c+1) ty G (by rw[ya,ya,DE]) ()) λ_ _ _ ⟨_,_,f,_⟩ _=>f;rw[ya] at H;exact#[H.imp (λ_ p=>p) λ_ _ _ _ _=>trivial,by rw[Gd (by rw[J,U])];exact J,λx t=>Uj (f0:=n.2.2.1) () (λx t=>C5 (I x t) B) x t]
 | .kx k j,a,pl,fr,_,A,_,_=>A.elim
theorem sG(j:W<=16):∀(rs:List av) {a:Nat} {pl:List Nat} {fr:Nat},d8 W bs rs->fW rs->pl.length=bs.length->(∀p∈pl,p<fr)->Zd bs a fr (bt W bs rs a pl fr)
 | [],a,pl,fr,_,_,f,h=>#[Wk.of (Wv.nil λ_=>trivial),f,h]| r::rs,a,pl,fr,g,i,f,h=>by let#[l,q,n]:=VX j r (a:=a) g.1 i.1 f h;let#[k,o,m]:=sG j rs (a:=a+(cH W bs r a pl fr).1.length) g.2 i.2 q n;exact#[l.seq k,o,m]
end
end Rw
namespace Law
open PySem L2 L3 Rw
def OC(f:Nat->Nat):oZ->oZ
 | .num n=>.num n| .box y=>.box (f y)
def sL(f:Nat->Nat):Row->Row
 | .add x o=>.add (f x) (OC f o)| .take x o=>.take (f x) (OC f o)| .turn x i g=>.turn (f x) i (g.map λc=>(f c.1,c.2))| .swap x y=>.swap (f x) (f y)| .go x n k=>.go (f x) n k| .aP x n k=>.aP (f x) n k
structure xE(f:Nat->Nat)(m d:Nat):Prop where
 inj:∀x y,f x=f y->x=y
 up:∀x,m<=x->f x=x+d
section
variable{f:Nat->Nat}{m d:Nat}
def Nw(h:xE f m d)(g:m<=fr)(a:mK):dF (fr+d) a=(dF fr a).map (sL f):=by
 cases a with
 | num i=>show[Row.add (fr+d) _]=[Row.add (f fr) _];rw[h.up fr g];rfl| box x=>rfl
def Uq(a:mK):bh (fr+d) a=bh fr a+d:=by
 cases a with
 | num i=>show fr+d+1=fr+1+d;omega| box x=>rfl
def Nv{bs:List Str}(h:xE f m d){pl:List Nat}(j:m<=fr)(g:pl.length=bs.length)(k:j0 W bs a):fE bs (pl.map f) (fr+d) a=f (fE bs pl fr a):=by
 cases a with
 | num i=>exact(h.up fr j).symm| box x =>show((pl.map f)[iG bs x]?).getD 0=f ((pl[iG bs x]?).getD 0);rw[F7,B6 (by rw[g];exact Uc k)];rfl
def xd0(h:xE f m d)(g:m<=fr):cV (fr+d) (f x) (f y) k=(cV fr x y k).map (sL f):=by unfold cV;rw[P9];exact M9 λi _=>by show _=Row.turn (f fr) _ _;rw[h.up fr g];rfl
def xi2(h:xE f m d)(g:m<=fr):gC W (f x) (f y) (fr+d) o=(gC W x y fr o).map (sL f)/\BH (fr+d) o=f (BH fr o)/\mY (fr+d) o=mY fr o+d:=by
 have k:=h.up fr g;have j:=h.up (fr+1) ();have i:=h.up (fr+2) ();unfold gC BH mY
 repeat' split
 all_goals apply#[?_,(),()]
 all_goals simp[sL,OC,k,j,i,xd0 h g,A95]
def w21{pl:List Nat}:eN bs (pl.map f) x (f p)=(eN bs pl x p).map f:=by unfold eN;rw[Qh]
theorem Gx(h:xE f m d):∀{ps qs:List Nat},uY (ps.map f) (qs.map f)=(uY ps qs).map f/\uN (ps.map f) (qs.map f)=(uN ps qs).map f
 | [],_=>by simp[uY,uN]| _::_,[]=>#[rfl,rfl]| p::ps,q::qs=>by
  let#[i,g]:=Gx h (ps:=ps) (qs:=qs);by_cases e:p=q
  .simp[uY,uN,e,i,g]
  .simp[uY,uN,e,mt (h.inj p q) e,i,g]
theorem Uk(h:xE f m d):∀{ps qs:List Nat} {fr:Nat},m<=fr->gD (fr+d) (ps.map f) (qs.map f)=(gD fr ps qs).map f
 | [],_,_,_=>by simp[gD]| _::_,[],_,_=>rfl| p::ps,q::qs,fr,g=>by
  by_cases e:p=q
  .simp[gD,e,Uk h g]
  .simp[gD,e,mt (h.inj p q) e,h.up fr g,A95 fr d 1,Uk h (show m<=fr+1 by omega)]
theorem wt1(h:xE f m d):∀{ps:List Nat} {fr:Nat},m<=fr->jd (fr+d) (ps.map f)=(jd fr ps).map (sL f)
 | [],_,_=>rfl| p::ps,fr,g=>by show Row.add (fr+d) (.box (f p))::jd (fr+d+1) (ps.map f)=Row.add (f fr) (.box (f p))::(jd (fr+1) ps).map (sL f);rw[h.up fr g,A95 fr d 1,wt1 h (show m<=fr+1 by omega)]
def xk9{ys ns:List Row}:s_ a (f ch) (ys.map (sL f)) (ns.map (sL f))=(s_ a ch ys ns).map (sL f):=by unfold s_;simp[sL]
abbrev zh(f:Nat->Nat)(d:Nat)(x y:List Row×List Nat×Nat×Nat):Prop:=y=(x.1.map (sL f),x.2.1.map f,x.2.2.1+d,x.2.2.2)
mutual
theorem ws4{bs:List Str}(h:xE f m d)(u:W<=16)(t:bs.length<=6):∀(r:av) {a:Nat} {pl:List Nat} {fr:Nat},tN W bs r->xg r->pl.length=bs.length->m<=fr->zh f d (cH W bs r a pl fr) (cH W bs r a (pl.map f) (fr+d))
 | .is x c,a,pl,fr,k,q,g,j=>by let#[_,l]:=k;simp only[zh,cH,wU,Nw h j,Uq,Nv h j g l,w21,B0]| .op x o c e,a,pl,fr,k,q,g,j=>by let#[_,ho,l,Q]:=k;have f1:=(pO (fr:=fr) c).1;have f2:=(pO (fr:=bh fr c) e).1;let#[O,N,M]:=xi2 h (W:=W) (x:=fE bs pl fr c) (y:=fE bs pl (bh fr c) e) (fr:=bh (bh fr c) e) (o:=o) ();simp only[zh,cH,wU,Nw h j,Uq,Nw h (show m<=bh fr c by omega),Nv h j g l,Nv h (show m<=bh fr c by omega) g Q,O,N,M,w21,<- B7,B0]| .fG c i p,a,pl,fr,k,q,g,j=>by
  let#[l,H,A]:=k;obtain⟨B,C⟩:fW i/\fW p:=q;let#[_,_,l1,Z,_]:=tL (a:=a) (fr:=fr) u t i H B g;have G:=NC h u t i (a:=a) H B g j;let#[_,_,k1,k2,_]:=tL (a:=a+(bt W bs i a pl fr).1.length) (fr:=(bt W bs i a pl fr).2.2.1) u t p A C g;have E:=NC h u t p (a:=a+(bt W bs i a pl fr).1.length) A C g (show m<=(bt W bs i a pl fr).2.2.1 by omega);simp only[zh] at G E;simp only[zh,cH,G,B0];rw[E];generalize bt W bs i a pl fr=y at *;generalize bt W bs p (a+y.1.length) pl y.2.2.1=n at *;have f1:=(pO (fr:=n.2.2.1) c).1;have I:m<=n.2.2.1:=()
  let#[L,J]:=Gx h (ps:=y.2.1) (qs:=n.2.1);have R:=h.up (bh n.2.2.1 c) ();have g1:=h.up (bh n.2.2.1 c+1) ();have U:bh n.2.2.1 c+d+1=bh n.2.2.1 c+1+d:=()
  have S:bh n.2.2.1 c+d+2=bh n.2.2.1 c+2+d:=()
  simp only[Nw h I,Uq,Nv h I g l,L,J,B0,B4,B7,U,S,Uk h (show m<=bh n.2.2.1 c+2 by omega),wt1 h (show m<=bh n.2.2.1 c+2 by omega),<- g1,xk9,C0,Ff,sL,OC,R,C1,W0];apply AZ rfl (AZ rfl (AZ ?_ rfl));show _+d+_=_+_+d;omega
 | .kx _ _,a,pl,fr,k,q,g,j=>rfl
theorem NC{bs:List Str}(h:xE f m d)(i:W<=16)(g:bs.length<=6):∀(rs:List av) {a:Nat} {pl:List Nat} {fr:Nat},d8 W bs rs->fW rs->pl.length=bs.length->m<=fr->zh f d (bt W bs rs a pl fr) (bt W bs rs a (pl.map f) (fr+d))
 | [],a,pl,fr,_,_,_,_=>rfl| r::rs,a,pl,fr,t,u,n,x=>by obtain⟨o,y⟩:tN W bs r/\d8 W bs rs:=t;obtain⟨j,p⟩:xg r/\fW rs:=u;let#[_,_,A,q,_]:=v98 (a:=a) (fr:=fr) i g r o j n;have l:=ws4 h i g r (a:=a) o j n x;have k:=NC h i g rs (a:=a+(cH W bs r a pl fr).1.length) y p q (show m<=(cH W bs r a pl fr).2.2.1 by omega);simp only[zh] at l k;simp only[zh,bt,l,B0,k,B7]
end
end
def Ke(T:Nat->Prop):Row->Prop
 | .add x o=>¬ T x/\∀y,o=.box y->¬ T y| .take x o=>¬ T x/\∀y,o=.box y->¬ T y| .turn x _ f=>¬ T x/\∀c∈f,¬ T c.1| .swap x y=>¬ T x/\¬ T y| .go x _ _=>¬ T x| .aP x _ _=>¬ T x
def xa9(h:∀x,¬ T (f x))(r:Row):Ke T (sL f r):=by
 cases r with
 | add x o=>exact#[h x,λy e=>by cases o <;> cases e;exact h _]
 | take x o=>exact#[h x,λy e=>by cases o <;> cases e;exact h _]
 | turn x i j=>exact#[h x,λc g=>by let#[l,_,rfl]:=D6.mp g;exact h _]| swap x y=>exact#[h x,h y]| go x n k=>exact h x| aP x n k=>exact h x
structure AV(T:Nat->Prop)(b b':List Int):Prop where
 len:b.length=b'.length
 eq:∀i,¬ T i->gt b i=gt b' i
def val_eq(h:AV T b b')(f:∀y,o=.box y->¬ T y):val b o=val b' o:=by
 cases o with
 | num n=>rfl| box y=>exact h.eq y (f y rfl)
def nT{T:Nat->Prop}{i x:Nat}(h:T i)(h':¬ T x):¬ i=x:=λe=>h' (e▸h)
def wm6(p:Ke T r)(h:AV T b b')(l:r.ok b.length):AV T (cB 1 b r) (cB 1 b' r)/\∀i,T i->gt (cB 1 b' r) i=gt b' i:=by
 have m:=h.len;cases r with
 | add x o =>
  let#[f1,f2]:=p;have f:x<b.length:=l.1;apply#[#[by rw[wZ,wZ,m],λi hi=>?_],λi hi=>?_]
  .rw[FR f,FR (),h.eq x f1,val_eq h f2,h.eq i hi]
  .rw[FR (),if_neg (nT hi f1)]
 | take x o =>
  let#[f1,f2]:=p;have f:x<b.length:=l.1;apply#[#[by rw[wZ,wZ,m],λi hi=>?_],λi hi=>?_]
  .rw[DX f,DX (),h.eq x f1,val_eq h f2,h.eq i hi]
  .rw[DX (),if_neg (nT hi f1)]
 | turn x j q =>
  let#[f1,f2]:=p;have f:x<b.length:=l.1;have g:con b q=con b' q:=by unfold con;rw[U7,V4,V4];exact#[λz c g=>by rw[<- h.eq _ (f2 c g)];exact z c g,λz c g=>by rw[h.eq _ (f2 c g)];exact z c g]
  apply#[#[by rw[wZ,wZ,m],λi hi=>?_],λi hi=>?_]
  .rw[FY f,FY (),h.eq x f1,g,h.eq i hi]
  .rw[FY (),if_neg (nT hi f1)]
 | swap x y =>
  let#[f1,f2]:=p;obtain⟨f,t,_⟩:x<b.length/\y<b.length/\y≠x:=l;apply#[#[by rw[wZ,wZ,m],λi hi=>?_],λi hi=>?_]
  .show gt ((b.set x _).set y _) i=gt ((b'.set x _).set y _) i;rw[mw (by rw[J9];exact t),mw f,mw (by rw[J9];omega),mw (),h.eq x f1,h.eq y f2,h.eq i hi]
  .show gt ((b'.set x _).set y _) i=_;rw[mw (by rw[J9];omega),mw (),if_neg (nT hi f2),if_neg (nT hi f1)]
 | go x n k=>exact#[h,λ_ _=>rfl]| aP x n k=>exact#[h,λ_ _=>rfl]
theorem Us(j:Pairs rs)(g:∀r∈rs,Ke T r):∀{n s:Nat} {b b':List Int},gF sz rs b s->AV T b b'->(rn true rs n s b').1=(rn true rs n s b).1/\(rn true rs n s b').2.1=(rn true rs n s b).2.1/\AV T (rn true rs n s b).2.2 (rn true rs n s b').2.2/\∀i,T i->gt (rn true rs n s b').2.2 i=gt b' i
 | 0,s,b,b',_,h=>#[rfl,rfl,h,λ_ _=>rfl]| n+1,s,b,b',c,h=>by
  have l:da true rs b' s=da true rs b s:=by
   show bw rs b' s=bw rs b s;unfold bw;split
   .rfl
   .rename_i x n k e;rw[h.eq x (g _ (K3 e))]
   .rfl
  cases f:da true rs b s with
  | false=>rw[ud f,ud (l.trans f)];exact#[rfl,rfl,h,λ_ _=>rfl]| true =>
   rw[sD f,sD (l.trans f)];have c2:=(xV (fw:=true) j c f).1;have key:(cY true rs b' s).1=(cY true rs b s).1/\AV T (cY true rs b s).2 (cY true rs b' s).2/\∀i,T i->gt (cY true rs b' s).2 i=gt b' i:=by
    show(bS rs b' s).1=(bS rs b s).1/\AV T (bS rs b s).2 (bS rs b' s).2/\∀i,T i->gt (bS rs b' s).2 i=gt b' i;unfold bS;split
    .rename_i x n k e;rw[h.eq x (g _ (K3 e))];split <;> exact#[rfl,h,λ_ _=>rfl]
    .rename_i r B e;have m:=K3 e;exact#[rfl,wm6 (g _ m) h (by rw[c.bo.len];exact c.ro _ m)]
    .exact#[rfl,h,λ_ _=>rfl]
   let#[q,p,o]:=key;let#[A,y,u,t]:=Us j g (n:=n) c2 p;rw[q];exact#[congrArg (·+1) A,y,u,λi hi=>(t i hi).trans (o i hi)]
def xc7{b b':List Int}(h:b.length=b'.length)(e:∀i,gt b i=gt b' i):b=b':=List.ext_getElem h λi g f=>by rw[<- DP g,<- DP f];exact e i
inductive fU(rs:List Row)(z:Nat)(f:List Int):Nat->List Int->Nat->Prop
 | done:fU rs z f z f 0
 | step {s:Nat} {bs:List Int} {d:Nat}:s<z->bw rs bs s=true->fU rs z f (bS rs bs s).1 (bS rs bs s).2 d->fU rs z f s bs (d+1)
theorem fU.trans(g:y<=z)(i:fU rs z l y f k):∀{s:Nat} {bs:List Int} {j:Nat},fU rs y f s bs j->fU rs z l s bs (k+j)
 | _,_,_,.done=>i| _,_,_,.step h m t=>.step (C5 h g) m (fU.trans g i t)
abbrev fB(W:List Row)(a:Nat)(rs:List Row):Prop:=∀(j:Nat) (row:Row),rs[j]?=some row->W[a+j]?=some (mv a row)
theorem fU.seg(hw:fB W a rs)(j:Pairs rs):∀{n s:Nat} {b b':List Int},gF sz rs b s->rn true rs n s b=(n,rs.length,b')->fU W (a+rs.length) b' (a+s) b n
 | 0,s,b,b',_,h=>by have h:(0,s,b)=(0,rs.length,b'):=h;cases h;exact .done
 | n+1,s,b,b',c,h=>by
  cases f:da true rs b s with
  | false=>rw[ud f] at h;cases h
  | true =>
   have k:s<rs.length:=by
    rcases Dw s rs.length with z|z
    .exact z
    .have e:s=rs.length:=Nat.le_antisymm c.le z;have:bw rs b s=false:=by rw[e];exact CP
     have f:bw rs b s=true:=f;rw[this] at f;cases f
   let#[i,g]:=xj6 (r:=[]) hw c k;rw[D9] at i g;have g:=g f;rw[D9] at g;rw[sD f] at h;have h:((rn true rs n (bS rs b s).1 (bS rs b s).2).1+1,(rn true rs n (bS rs b s).1 (bS rs b s).2).2)=(n+1,rs.length,b'):=h;rw[C61] at h;apply .step () (i.trans f) ?_;rw[g];exact fU.seg hw j (xV j c f).1 (AZ (P1 h.1) h.2)
theorem w20(g:Pairs rs):∀{n s:Nat} {b:List Int},gF sz rs b s->rn true (iO rs) n (rs.length-s) b=((rn false rs n s b).1,rs.length-(rn false rs n s b).2.1,(rn false rs n s b).2.2)
 | 0,_,_,_=>rfl| n+1,s,b,c=>by
  let#[h,i]:=VT (bs:=b) g c.le;cases f:da false rs b s with
  | false=>rw[ud f,ud (fw:=true) (h.trans f)]| true =>have e:cY true (iO rs) b (rs.length-s)=(rs.length-(cY false rs b s).1,(cY false rs b s).2):=i f;rw[sD f,sD (fw:=true) (h.trans f),e,w20 g (xV g c f).1]
def vc4(g:Pairs rs)(c:gF sz rs b 0)(h:rn true rs n 0 b=(n,rs.length,b')):rn true (iO rs) n 0 b'=(n,(iO rs).length,b):=by
 have c1:gF sz rs b' rs.length:=by have:=FU (fw:=true) g (n:=n) c;rw[h] at this;exact this
 have f:=NQ g (n:=n) n c (by rw[h];exact B9 _);rw[h] at f;rw[show n-(n,rs.length,b').1=0 by show n-n=0;omega] at f;have f:rn false rs n rs.length b'=(n+0,0,b):=f;have f2:=w20 g (n:=n) c1;rw[Fl,f] at f2;rw[yb];exact f2
def dr(add:Bool)(aM:Nat)(pl:List Nat):List Row:=(E6 pl.length).map λj=>if add=true then Row.add (aM+j) (.box (pl.getD j 0)) else Row.take (aM+j) (.box (pl.getD j 0))
def Nm{pl:List Nat}(m:aM+pl.length<=sz)(k:∀p∈pl,p<sz/\(p<aM\/aM+pl.length<=p)):∀r∈dr add aM pl,tg 0 sz r:=by
 intro r h;let#[j,f,rfl]:=D6.mp h;have f:=L0.mp f;have i:pl.getD j 0∈pl:=by rw[F4,B6 f];exact M5 f
 let#[l,n]:=k _ i;have g:oZ.ok sz (aM+j) (.box (pl.getD j 0)):=#[l,()];split
 .exact#[J4 _,(),g]
 .exact#[J4 _,(),g]
theorem v50:∀{f:List Row} {b:List Int},(∀r∈f,∃x o,(r=.add x o\/r=.take x o)/\aM<=x/\x<aM+m)->aM+m<=b.length->∀i,i<aM\/aM+m<=i->gt (kB f b) i=gt b i
 | [],_,_,_,_,_=>rfl| r::f,b,h,j,i,hi=>by
  let#[x,o,e,l,k]:=h r C6;rw[Od,v50 (λr g=>h r (C2 _ g)) (by rw[wZ];exact j) i hi];rcases e with rfl|rfl
  .rw[FR (),if_neg ()]
  .rw[DX (),if_neg ()]
def vl8{pl:List Nat}(h:cn sz b)(f:aM+pl.length<=sz)(l:∀p∈pl,p<sz/\(p<aM\/aM+pl.length<=p)):cn sz (kB (dr add aM pl) b)/\∀i,i<aM\/aM+pl.length<=i->gt (kB (dr add aM pl) b) i=gt b i:=
 ⟨(Vx (Nm f l) h (B9 _)).1,v50 (λr k=>by
  let#[j,g,rfl]:=D6.mp k;have g:=L0.mp g;apply#[aM+j,.box (pl.getD j 0),?_,(),()];cases add
  .exact .inr rfl
  .exact .inl rfl) (by rw[h.len];exact f)⟩
structure ke(W:Nat)(bs:List Str)(rs:List av):Prop where
 nb:bs.length<=6
 nd:bs.Nodup
 ok:d8 W bs rs
 nt:fW rs
 dp:bj rs<=6
 sz:22*bZ rs<=3960
 hW:W<=16
def iu(W:Nat)(bs:List Str)(rs:List av):Nat:=(bt W bs rs 0 (E6 bs.length) bs.length).2.2.2
def bR(f m:Nat):List Nat:=(E6 m).map λj=>f+j
def iZ(add:Bool)(W:Nat)(bs:List Str)(rs:List av)(f aM fr:Nat):List Row:=jx [] [(bt W bs rs 0 (bR f bs.length) fr).1,dr add aM (bt W bs rs 0 (bR f bs.length) fr).2.1,iO (bt W bs rs 0 (bR f bs.length) fr).1]
def xk2:mv a (mv b r)=mv (a+b) r:=by cases r <;> first|rfl|(show Row.go _ _ _=Row.go _ _ _;congr 1;omega)|(show Row.aP _ _ _=Row.aP _ _ _;congr 1;omega)
theorem NI:∀{cs:List (List Row)} {a:List Row},(jx a cs).length=a.length+(cs.map J5).sum
 | [],a=>rfl| c::cs,a=>by rw[jx,NI,NZ,C0,K9];omega
def fB.part(h:fB W a (jx acc (c::L))):fB W (a+acc.length) c/\fB W a (jx (dt acc c) L):=#[λj row e=>by rw[K8,<- xk2];exact h _ _ (x96 e),h]
def UN{b:List Int}(h:b.length<=i):gt b i=0:=by unfold gt;rw[F4,M8 h];rfl
def W_(g:cn sz X)(f:cn sz Y):∃Z,cn sz Z/\∀i,gt Z i=if t<=i/\i<t+m then gt Y i else gt X i:=by
 apply#[(E6 sz).map λi=>if t<=i/\i<t+m then gt Y i else gt X i,#[by simp,λv h=>?_],λi=>?_]
 .let#[i,hi,rfl]:=D6.mp h;have hi:=L0.mp hi;split
  .exact Bq f hi
  .exact Bq g hi
 .rcases Dw i sz with z|z
  .rw[DP (by simpa using z),List.getElem_map,List.getElem_range]
  .rw[UN (by simpa using z),UN (b:=Y) (by rw[f.len];exact z),UN (b:=X) (by rw[g.len];exact z),ite_self]
def Oe(t m:Nat):(bR t m).length=m:=by unfold bR;rw[B0,J2]
def UY(h:t+m<=fr)(f:p∈bR t m):p<fr:=by let#[j,g,rfl]:=D6.mp f;have:=L0.mp g;omega
section
variable{W src aM fr sz:Nat}{bs:List Str}{rs:List av}
def wu9(g:src+bs.length<=fr):xE (λx=>if x<bs.length then src+x else x+(fr-bs.length)) bs.length (fr-bs.length):=#[λx y e=>by split at e <;> split at e <;> omega,λx f=>if_neg ()]
def vx5(ok:ke W bs rs)(k:src+bs.length<=fr):(bt W bs rs 0 (bR src bs.length) fr).2.2.2=iu W bs rs/\(∀p∈(bt W bs rs 0 (bR src bs.length) fr).2.1,src<=p/\p<src+bs.length\/fr<=p)/\∀T:Nat->Prop,(∀x,src<=x->x<src+bs.length->¬ T x)->(∀x,fr<=x->¬ T x)->∀r∈(bt W bs rs 0 (bR src bs.length) fr).1,Ke T r:=by
 have h:=NC (wu9 k) ok.hW ok.nb rs (a:=0) (pl:=E6 bs.length) (fr:=bs.length) ok.ok ok.nt (J2) (B9 _);have n:(E6 bs.length).map (λx=>if x<bs.length then src+x else x+(fr-bs.length))=bR src bs.length:=M9 λx j=>if_pos (L0.mp j);rw[n,show bs.length+(fr-bs.length)=fr by omega] at h;simp only[zh] at h;rw[h];apply#[rfl,λp m=>?_,λT g f r l=>?_]
 .let#[x,_,rfl]:=D6.mp m;split <;> omega
 .let#[i,_,rfl]:=D6.mp l;apply xa9 (λx=>?_) i;split
  .exact g _ () ()
  .exact f _ ()
def v31(ok:ke W bs rs)(Q:src+bs.length<=fr)(ht:aM+bs.length<=fr)(hd:src+bs.length<=aM\/aM+bs.length<=src)(O:(bt W bs rs 0 (bR src bs.length) fr).2.2.1<=sz)(l:cn sz X)(R:∀i,fr<=i->gt X i=0): ∃L,cn sz L/\(∀i,fr<=i->gt L i=0)/\∀(M:List Row) (a:Nat),fB M a (iZ add W bs rs src aM fr)->fU M (a+(iZ add W bs rs src aM fr).length) L a X (2*iu W bs rs+bs.length):=by
 let#[s1,s2,s3]:=vx5 ok Q;let#[u,h,WE]:=sG (a:=0) ok.hW rs ok.ok ok.nt (Oe src bs.length) (fr:=fr) (λp f=>UY Q f);unfold iZ;generalize (bt W bs rs 0 (bR src bs.length) fr)=Z at *;have l3:=u.le;have f:=u.pr.pairs;have uK:At Z.1 0 Z.1:=λj r e=>by rw[L5];exact e
 let#[J,H,q1,_,g]:=u.run sz Z.1 X uK l O R trivial;have g:=g 0;rw[MJ,L5] at g;have g:rn true Z.1 Z.2.2.2 0 X=(Z.2.2.2,Z.1.length,J):=g;have y:∀r∈Z.1,r.ok sz:=λr k=>Vr (u.ok r k) O;have N:∀p∈Z.2.1,p<sz/\(p<aM\/aM+Z.2.1.length<=p):=λp f=>by have:=s2 p f;have:=WE p f;rw[h];omega
 let#[c1,c2]:=vl8 (add:=add) (aM:=aM) H (by rw[h];omega) N;have Ac:=Nm (add:=add) (aM:=aM) (sz:=sz) (by rw[h];omega) N;have S:∀r∈dr add aM Z.2.1,r.plain=true:=λr k=>Ed (Ac r k);generalize E:kB (dr add aM Z.2.1) J=X2 at *;rw[h] at c2;let#[I,B,A]:=W_ (t:=aM) (m:=bs.length) l c1;have ex:AV (λi=>aM<=i/\i<aM+bs.length) X I:=#[by rw[l.len,B.len],λi hi=>by rw[A,if_neg hi]];let#[f1,f2,G,f4]:=Us f (s3 (λi=>aM<=i/\i<aM+bs.length) (λx _ _=>()) λx _=>()) (n:=Z.2.2.2) (s:=0) #[l,y,J4 _] ex;rw[g] at f1 f2 G;have e3:rn true Z.1 Z.2.2.2 0 I=(Z.2.2.2,Z.1.length,X2):=AZ f1 (AZ f2 (xc7 (by rw[<- G.len,c1.len];exact H.len) λi=>by
  by_cases q:aM<=i/\i<aM+bs.length
  .rw[f4 i q,A,if_pos q]
  .rw[<- G.eq i q,c2 i ()]))
 have e4:=vc4 f #[B,y,J4 _] e3;apply#[I,B,λi hi=>by rw[A,if_neg ()];exact R i hi,λM a hw=>?_];let#[h1,hw]:=hw.part;let#[h2,hw]:=hw.part;let#[h3,_]:=hw.part;have Y:=fU.seg h1 f #[l,y,J4 _] g;have o:=fU.seg (n:=(dr add aM Z.2.1).length) h2 (Bz S) #[H,λr k=>DD (Ac r k) (B9 _),J4 _] (Oc S 0 _ 0 J rfl (L5 _));have U:=fU.seg h3 (VL f) #[c1,Uu y,J4 _] e4;have C:(dr add aM Z.2.1).length=bs.length:=by unfold dr;rw[B0,J2,h]
 rw[E] at o;rw[C] at o;simp only[NZ,C,yb,W0,MJ,L5] at Y o U;rw[NI,C0,C0,C0,Ff,yb,C,K9,K9,K9,C88,W0];rw[show a+(0+(Z.1.length+(bs.length+(Z.1.length+0))))=a+(Z.1.length+bs.length)+Z.1.length by omega,show 2*iu W bs rs+bs.length=Z.2.2.2+bs.length+Z.2.2.2 by rw[s1];omega];apply fU.trans () (fU.trans () U ?_) Y;rw[K8] at o;exact o
end
def uy(w:Str)(k:Nat):D:=.tup [.str w,.int (k:Int)]
def pG(W:Nat)(bs:List Str)(p:List av):Int:=((2*iu W bs p+bs.length:Nat):Int)
inductive o7(W:Nat)(bs:List Str)(rs:List av)(f aM fr:Nat):D->List Row->Nat->Prop
 | lay {k:Nat}:o7 W bs rs f aM fr (uy "lay" k) (iZ true W bs rs f aM fr) (bt W bs rs 0 (bR f bs.length) fr).2.2.1
 | clear {k:Nat}:o7 W bs rs f aM fr (uy "clear" k) (iZ false W bs rs f aM fr) (bt W bs rs 0 (bR f bs.length) fr).2.2.1
 | kz:o7 W bs rs f aM fr (.tup [.str "show"]) ((E6 bs.length).map λj=>Row.add (bs.length+j) (.box (aM+j))) (aM+bs.length)
def BG(m k:Nat):Nat:=if k=1 then 0 else k*m
structure Zg(W:Nat)(bs:List Str)(PP:List (List av)):Prop where
 ok:∀p∈PP,ke W bs p/\22*bZ p<=440
 hW:1<=W
 hb:1<=bs.length
 xo:bs.length<=6
def pE(m k:Nat):Nat:=if k=0 then 0 else(k+1)*m
structure Lv(fr sz:Nat)(X:List Int):Prop where
 ok:cn sz X
 z:∀i,fr<=i->gt X i=0
def uU(W:Nat)(bs:List Str)(g:List (List av))(l f:Nat):Nat:=if l=f then bs.length else 2*iu W bs (g.getD (max l f-1) [])+bs.length
section
variable{W:Nat}{bs:List Str}{PP:List (List av)}
def getD_mem(h:k<PP.length):PP.getD k []∈PP:=by rw[F4,B6 h];exact M5 h
def w34(h:k<=n):pE m k+m<=(2+n)*m:=by
 unfold pE;split
 .exact D5 () (M4 m (show 1<=2+n by omega))
 .rw[<- W7];exact M4 m ()
def vf5(h:j<k):pE m j+m<=pE m k:=by
 unfold pE;rw[if_neg (show¬ k=0 by omega)];split
 .rw[L5];exact D5 () (M4 m (show 1<=k+1 by omega))
 .rw[<- W7];exact M4 m ()
def wj9(h:k≠0):2*m<=pE m k:=by unfold pE;rw[if_neg h];exact M4 m ()
def vp1:BG m (k+1)=pE m k:=by
 unfold BG pE;by_cases h:k=0
 .rw[if_pos (),if_pos h]
 .rw[if_neg (),if_neg h]
def Lv.step{fr sz t l f:Nat}{X:List Int}{mv:D}{rows:List Row}(U:Zg W bs PP)(Pf:fr=(2+PP.length)*bs.length)(L:Lv fr sz X)(u:o7 W bs (PP.getD (max l f-1) []) (BG bs.length (max l f)) ((max l f+1)*bs.length) fr mv rows t)(x:t<=sz) (A:mv=uy "lay" (l+1)/\f=l+1/\l+1<=PP.length\/mv=uy "clear" l/\l=f+1/\l<=PP.length\/mv=.tup [.str "show"]/\f=l/\l=PP.length/\1<=l): ∃g,Lv fr sz g/\∀(q:List Row) (a:Nat),fB q a rows->fU q (a+rows.length) g a X (uU W bs PP l f):=by
 obtain⟨k,G,H⟩:∃k,max l f=k+1/\k+1<=PP.length:=#[max l f-1,by rcases A with⟨_,_,_⟩|⟨_,_,_⟩|⟨_,_,_,_⟩ <;> omega,by rcases A with⟨_,_,_⟩|⟨_,_,_⟩|⟨_,_,_,_⟩ <;> omega];rw[G,vp1,show(k+1+1)*bs.length=pE bs.length (k+1) from(if_neg ()).symm,K6] at u;have f1:=w34 (m:=bs.length) (k:=k) (n:=PP.length) ();have f2:=w34 (m:=bs.length) H;have Y:=vf5 (m:=bs.length) (show k<k+1 by omega);have f4:=wj9 (m:=bs.length) (k:=k+1) ();have S:l≠f->uU W bs PP l f=2*iu W bs (PP.getD k [])+bs.length:=λh=>by unfold uU;rw[if_neg h,G];rfl
 have mk:∀add,(bt W bs (PP.getD k []) 0 (bR (pE bs.length k) bs.length) fr).2.2.1<=sz->l≠f->∃g,Lv fr sz g/\∀(q:List Row) (a:Nat),fB q a (iZ add W bs (PP.getD k []) (pE bs.length k) (pE bs.length (k+1)) fr)->fU q (a+(iZ add W bs (PP.getD k []) (pE bs.length k) (pE bs.length (k+1)) fr).length) g a X (uU W bs PP l f):=λadd x h=>by let#[g,O,N,M]:=v31 (add:=add) (U.ok _ (getD_mem H)).1 () () (.inl Y) x L.ok L.z;rw[S h];exact#[g,#[O,N],M]
 rcases A with⟨rfl,C,_⟩|⟨rfl,C,_⟩|⟨rfl,C,_,_⟩
 .cases u;exact mk true x ()
 .cases u;exact mk false x ()
 .cases u;rw[show uU W bs PP l f=bs.length from if_pos C.symm];generalize pE bs.length (k+1)=tg at *;have o:=Oe tg bs.length;have Z:((E6 bs.length).map λj=>Row.add (bs.length+j) (.box (tg+j)))=dr true bs.length (bR tg bs.length):=by unfold dr;rw[o];exact M9 λj B=>by rw[if_pos rfl,F4,bR,F7,B69 (L0.mp B)];rfl
  rw[Z];have E:∀p∈bR tg bs.length,p<sz/\(p<bs.length\/bs.length+(bR tg bs.length).length<=p):=λp R=>by let#[j,B,rfl]:=D6.mp R;have:=L0.mp B;rw[o];omega
  let#[c1,c2]:=vl8 (add:=true) (aM:=bs.length) L.ok (by rw[o];omega) E;have J:=Nm (add:=true) (aM:=bs.length) (sz:=sz) (by rw[o];omega) E;have I:∀r∈dr true bs.length (bR tg bs.length),r.plain=true:=λr y=>Ed (J r y);have Q:(dr true bs.length (bR tg bs.length)).length=bs.length:=by unfold dr;rw[B0,J2,o]
  rw[o] at c2;apply#[_,#[c1,λi hi=>by rw[c2 i ()];exact L.z i hi],λq a hw=>?_];have F:=fU.seg (n:=(dr true bs.length (bR tg bs.length)).length) hw (Bz I) #[L.ok,λr y=>DD (J r y) (B9 _),J4 _] (Oc I 0 _ 0 X rfl (L5 _));rw[Q] at F⊢;exact F
end
end Law
namespace L2
open PySem PySem.Spec PyProof.Rows
section
variable{X:Cx}
def vi3{P:Program}{w:World}{ns:List Int}{vs:List (Key×Value)}(f:vs.map (·.1)=ns.map N6){us:List Value}(g:us.length=vs.length)(h:∀(j:Nat) (v:Value),us[j]?=some v->∃k x,vs[j]?=some (k,x)/\(eD P w).is k v=true):wQ us ns:=by
 induction ns generalizing vs us with
 | nil =>
  have:vs=[]:=by simpa using f
  subst this;have:us=[]:=by simpa using g
  subst this;exact .nil
 | cons n ns i =>
  match vs,f,us,g with
  | (k,x)::vs,f,u::us,g =>rw[C0,C0,V9] at f;let#[o,m,e,hi]:=h 0 u rfl;cases e;obtain rfl:k=.inl n:=f.1;let#[t,rfl]:=(show∃t,u=.int n t from x94 hi);exact .cons n t (i f.2 (by simpa using g) λj v l=>h (j+1) v (by simpa using l))
def uv2(hh:X.A.handled=none):bK X (.builtin "sorted") (λxs H Q=>∃(p:Addr) (ns:List Int) (kvs:List (Key×V)),xs=[.ref p]/\kvs.map (·.1)=ns.map N6/\H p=some (.dK kvs)/\ns.length<64/\∀(l:Addr) (k:List Int),H l=none->k.Perm ns->k.Pairwise (·<=·)->Q (.ref l) (upd H l (.lst (k.map V.int)))):=by
 intro pins s O H xs us Q I r h;let#[p,ns,kvs,rfl,hk,hd,EJ,q]:=h;let#[u,rfl,S]:=vals1 r;cases S;apply Calls.call_function_entry kind_sorted plain_sorted entry_sorted (args_sorted1 _) ?_;unfold Builtin.«sorted»;let#[z,x,B,i,dd]:=xS I.aE (.inl hd);let#[o,es,L,Y,hc,fk,EE,U,Z]:=id dd;have JM:=i.keys;have CB:=i.length;apply B5 (m:=checkCount "sorted" 1 1 _) (C4 (B5 (W.kdu_collect (A:=X.A.in1) (W.kdl_dict (kvs:=B) (ep:=L) x) hh #[o,es,Y,hc,fk,EE,U,Z] () λn t f R C=>?_)));have Yx:f.toList.length=B.length:=by rw[K7];exact C.1
 have hi:=vi3 (P:=X.prog) (w:=X.w) (ns:=ns) (by rw[<- JM];exact hk) Yx λj v e=>C.2 j v (by rw[<- V7];exact e);have G:f.toList.length<=sizeLine:=()
 have N:Inv X pins O H { s with heap:=n,toks:=t}:=I.kept R;apply B5 (wpAny_newList ?_ G);have y:(n.push (seqObj "list" f.toList.toArray 0)).get? n.objs.size=some (seqObj "list" f.toList.toArray 0):=E4 _ rfl;show wpAny _ _ _ _ _ { s with heap:=n.push (seqObj "list" f.toList.toArray 0),toks:=t};apply B5 (N5 (P3 slot_list_sort #[_,y,rfl] entry_list_sort (list_sort_tree y hi (by rw[hi.length];exact EJ) λout k a1 M a3=>#[_,rfl,?_]) (args_list_sort _)));let#[c,e]:=sortedHeap_at (out:=out) y;apply C4 #[_,rfl,.ref n.objs.size,_,N.laid (t':=t) (λb u J=>?_) (B9 _) (show bu X.prog X.w _ _ _ (.lst (k.map V.int)) from #[by rw[B0,M.length_eq,<- hi.length];exact G,out.toList,c,Om a1,e]),rfl,q _ _ (N.aE.fresh (B9 _)) M a3];have E:=D8 J;rw[sortedHeap_old (J7 E) (by rw[size_push'];exact Nat.lt_succ_of_lt E)];exact B8 _ J
end
end L2
namespace L3
open PySem PySem.Spec PyProof.Rows L2
section
variable{X:Cx}{K:W.Frag}{H:Hp}
@[reducible] def vo3:C3:=λh G q=>∃(a:Addr) (f:List Int) (kvs:List (Key×D)),h=[.ref a]/\kvs.map (·.1)=f.map N6/\G a=some (.bM kvs)/\f.length<64/\∀(p:Addr) (g:List Int),G p=none->g.Perm f->g.Pairwise (·<=·)->q (.ref p) (aH G p (.lst (g.map .int)))
def v91(o:aU k X.A):Call3 X (.builtin "sorted") vo3:=pP (uv2 o.hd) <| by rintro xs H Q ⟨C,G,q,r,c,t,f⟩;let#[a,m,kvs,rfl,u,n,B,t]:=t;let#[v,rfl,l]:=r.one;cases l.ar;let#[i,e,j]:=c a _ n;exact#[_,m,i,rfl,by rw[<- u];exact j.1.symm,e,B,λp h g y x=>f _ _ _ _ ae.fe (c.cP g (Vq h)) (Le.fresh g) (t p h (c.fresh g) y x)]
end
end L3
namespace Law
open PySem L2 L3
def top(i:Nat):Stmt:=A74.main.body.getD i (.Pass #[0,0,0,0])
abbrev Sk:Stmt:=top 6
abbrev SV:Stmt:=top 7
abbrev Ts:Stmt:=top 9
abbrev Tt:Stmt:=top 10
abbrev RL:Stmt:=inClass (top 13) 0
abbrev RK:Stmt:=inClass (top 13) 1
abbrev RM:Stmt:=inClass (top 13) 2
abbrev RN:Stmt:=inClass (top 13) 3
abbrev RO:Stmt:=inClass (top 13) 4
abbrev Tx:Stmt:=top 14
abbrev TB:Stmt:=top 15
abbrev Tz:Stmt:=top 16
abbrev SY:Stmt:=top 17
abbrev TC:Stmt:=top 18
abbrev Tp:Stmt:=top 19
abbrev Sh:Stmt:=top 20
abbrev RJ:Stmt:=top 21
abbrev R':Stmt:=top 22
abbrev R_:Stmt:=top 23
abbrev Sb:Stmt:=top 24
abbrev Tn:Stmt:=top 25
abbrev Tf:Stmt:=top 26
abbrev RY:Stmt:=top 27
abbrev Tq:Stmt:=top 28
abbrev SN:Stmt:=top 30
abbrev SO:Stmt:=top 31
abbrev SX:Stmt:=top 33
abbrev Tv:Stmt:=top 34
abbrev Tw:Stmt:=top 35
abbrev Tj:Stmt:=top 37
abbrev Sg:Stmt:=top 38
abbrev Sf:Stmt:=top 40
abbrev SQ:Stmt:=top 41
abbrev Ta:Stmt:=top 42
abbrev Tg:Stmt:=top 43
abbrev SM:Stmt:=top 44
abbrev RZ:Stmt:=top 45
abbrev Tb:Stmt:=top 46
abbrev SR:Stmt:=top 47
abbrev TH:Stmt:=top 48
abbrev SK:Stmt:=top 50
abbrev Ti:Stmt:=top 51
abbrev Td:Stmt:=top 52
abbrev Te:Stmt:=top 53
abbrev Si:Stmt:=top 54
abbrev SU:Stmt:=top 55
abbrev SS:Stmt:=top 56
abbrev Tc:Stmt:=top 57
abbrev SJ:Stmt:=top 58
abbrev DC:Stmt:=inClass (top 60) 0
abbrev RX:Stmt:=inClass (top 60) 1
abbrev RT:Stmt:=inClass (top 60) 2
abbrev RU:Stmt:=inClass (top 60) 3
abbrev RS:Stmt:=inClass (top 60) 4
abbrev RQ:Stmt:=inClass (top 60) 5
abbrev RP:Stmt:=inClass (top 60) 6
abbrev RW:Stmt:=inClass (top 60) 7
abbrev RV:Stmt:=inClass (top 60) 8
abbrev Sj:Stmt:=top 61
abbrev Se:Stmt:=top 62
abbrev SW:Stmt:=top 63
abbrev Tr:Stmt:=top 64
abbrev S':Stmt:=top 65
abbrev S_:Stmt:=top 66
abbrev TF:Stmt:=top 67
abbrev Sv:Stmt:=top 69
abbrev So:Stmt:=top 70
abbrev SG:Stmt:=top 71
abbrev SI:Stmt:=top 72
abbrev Sx:Stmt:=top 73
abbrev Sm:Stmt:=top 74
abbrev Ss:Stmt:=top 75
abbrev Sz:Stmt:=top 76
abbrev SF:Stmt:=top 77
abbrev Sy:Stmt:=top 78
abbrev Sl:Stmt:=top 79
abbrev SD:Stmt:=top 80
abbrev SE:Stmt:=top 81
abbrev SA:Stmt:=top 82
abbrev Sr:Stmt:=top 83
abbrev Sw:Stmt:=top 84
abbrev SH:Stmt:=top 85
abbrev TJ:Stmt:=top 86
local macro_rules | `(tactic| ac_nf)=>`(tactic| exact ⟨rfl,rfl,rfl,∅,rfl,∅,∅⟩)
def jr:af ["codes", "rows", "code", "ahead"] ["codes"] (bq Sk):=by ac_nf
def vz6:af ["row", "ahead"] ["row", "ahead"] (bq SV):=by ac_nf
def pU:af ["code", "last"] ["code"] (bq Ts):=by ac_nf
def vz0:af ["row", "last"] ["row", "last"] (bq Tt):=by ac_nf
def w15:af ["self", "wide", "fresh"] ["self", "wide", "fresh"] (bq RL):=by ac_nf
def w16:af ["self"] ["self"] (bq RK):=by ac_nf
def w14:af ["self", "rows"] ["self", "rows"] (bq RM):=by ac_nf
def w13:af ["self", "chosen", "yes", "no"] ["self", "chosen", "yes", "no"] (bq RN):=by ac_nf
def qj:af ["self", "box", "number", "rows", "start"] ["self", "box", "number", "rows"] (bq RO):=by ac_nf
def lG:af ["pieces", "boxes", "wide", "places", "fresh", "loom", "where"] ["pieces", "boxes", "wide", "places", "fresh"] (bq Tx):=by ac_nf
def jm:af ["rows", "where", "loom", "row", "first", "second"] ["rows", "where", "loom"] (bq TB):=by ac_nf
def gs:af ["row", "where", "loom", "yes", "no", "chosen", "unlike", "name"] ["row", "where", "loom"] (bq Tz):=by ac_nf
def pY:af ["atom", "where", "loom", "box"] ["atom", "where", "loom"] (bq SY):=by ac_nf
def vy8:af ["sign", "first", "second", "loom"] ["sign", "first", "second", "loom"] (bq TC):=by ac_nf
def lJ:af ["first", "second", "loom", "box", "over"] ["first", "second", "loom"] (bq Tp):=by ac_nf
def lS:af ["first", "second", "loom", "box", "over"] ["first", "second", "loom"] (bq Sh):=by ac_nf
def qk:af ["first", "second", "loom", "box"] ["first", "second", "loom"] (bq RJ):=by ac_nf
def qd:af ["first", "second", "loom", "box"] ["first", "second", "loom"] (bq R'):=by ac_nf
def w05:af ["first", "second", "loom"] ["first", "second", "loom"] (bq R_):=by ac_nf
def w04:af ["first", "second", "loom"] ["first", "second", "loom"] (bq Sb):=by ac_nf
def lK:af ["first", "second", "count", "loom", "both", "box"] ["first", "second", "count", "loom"] (bq Tn):=by ac_nf
def lL:af ["first", "second", "loom", "apart", "box"] ["first", "second", "loom"] (bq Tf):=by ac_nf
def ju:af ["first", "second", "loom", "apart", "other_way", "box"] ["first", "second", "loom"] (bq RY):=by ac_nf
def lI:af ["asked", "loom", "below", "box"] ["asked", "loom"] (bq Tq):=by ac_nf
def iB:af ["word", "stretch", "program", "source", "target", "fresh", "many", "told", "woven", "carried"] ["word", "stretch", "program", "source", "target", "fresh"] (bq SN):=by ac_nf
def lM:af ["stretch", "program", "many", "told"] ["stretch", "program"] (bq SO):=by ac_nf
def vz4:af ["program"] ["program"] (bq SX):=by ac_nf
def lH:af ["rows", "plain", "row"] ["rows"] (bq Tv):=by ac_nf
def vy9:af ["row"] ["row"] (bq Tw):=by ac_nf
def gu:af ["program", "cuts", "all_pieces", "parts", "begin", "size"] ["program", "cuts"] (bq Tj):=by ac_nf
def w03:af ["program", "cuts"] ["program", "cuts"] (bq Sg):=by ac_nf
def dO:af ["plan", "n", "s", "marks", "shown", "at", "move", "may_be"] ["plan", "n", "s"] (bq Sf):=by ac_nf
def p_:af ["move", "marks", "n", "s", "k"] ["move", "marks", "n", "s"] (bq SQ):=by ac_nf
def vz3:af ["k"] ["k"] (bq Ta):=by ac_nf
def vz1:af ["k", "marks"] ["k", "marks"] (bq Tg):=by ac_nf
def jo:af ["marks", "many"] ["marks"] (bq SM):=by ac_nf
def w06:af ["move", "marks"] ["move", "marks"] (bq RZ):=by ac_nf
def iy:af ["plan", "marks", "sets", "move"] ["plan"] (bq Tb):=by ac_nf
def vz7:af ["plan"] ["plan"] (bq SR):=by ac_nf
def vy6:af ["plan", "costs"] ["plan", "costs"] (bq TH):=by ac_nf
def iC:af ["program", "cuts", "s", "plan", "parts", "word", "slots", "codes"] ["program", "cuts", "s", "plan"] (bq SK):=by ac_nf
def pW:af ["program", "cuts", "s", "plan", "prices"] ["program", "cuts", "s", "plan"] (bq Ti):=by ac_nf
def iw:af ["plan", "many", "slots", "told", "move"] ["plan", "many"] (bq Td):=by ac_nf
def pX:af ["move", "slots", "many", "held"] ["move", "slots", "many"] (bq Te):=by ac_nf
def jt:af ["slots", "many", "taken", "box"] ["slots", "many"] (bq Si):=by ac_nf
def dM:af ["program", "parts", "plan", "slots", "fresh", "known", "codes", "at", "move", "standing", "k", "key"] ["program", "parts", "plan", "slots"] (bq SU):=by ac_nf
def pZ:af ["move", "stretch", "program", "source", "target", "fresh", "word"] ["move", "stretch", "program", "source", "target", "fresh"] (bq SS):=by ac_nf
def vz2:af ["slot", "many"] ["slot", "many"] (bq Tc):=by ac_nf
def vz8:af ["slot", "many"] ["slot", "many"] (bq SJ):=by ac_nf
def wv3:af ["self", "code", "boxes", "place"] ["self", "code", "boxes", "place"] (bq DC):=by ac_nf
def w07:af ["self"] ["self"] (bq RX):=by ac_nf
def w08:af ["self"] ["self"] (bq RT):=by ac_nf
def qg:af ["self", "row"] ["self"] (bq RU):=by ac_nf
def qh:af ["self", "row"] ["self"] (bq RS):=by ac_nf
def w09:af ["self"] ["self"] (bq RQ):=by ac_nf
def w12:af ["self"] ["self"] (bq RP):=by ac_nf
def qe:af ["self", "row"] ["self"] (bq RW):=by ac_nf
def qf:af ["self", "row"] ["self"] (bq RV):=by ac_nf
def w02:af ["row", "held"] ["row", "held"] (bq Sj):=by ac_nf
def qb:af ["row", "held", "way", "first"] ["row", "held", "way"] (bq Se):=by ac_nf
def vz5:af ["operand", "held"] ["operand", "held"] (bq SW):=by ac_nf
def pV:af ["row", "held", "cond"] ["row", "held"] (bq Tr):=by ac_nf
def iz:af ["code", "boxes", "most", "ride", "steps", "word"] ["code", "boxes", "most"] (bq S'):=by ac_nf
def iA:af ["code", "boxes", "place", "most", "ride", "steps", "word"] ["code", "boxes", "place", "most"] (bq S_):=by ac_nf
def vy7:af ["there", "there_word", "may_go_on"] ["there", "there_word", "may_go_on"] (bq TF):=by ac_nf
def dj:af ["_law_state", "_law_many", "_law_script", "_law_k", "_law_rest", "_law_cell", "_law_number", "_law_digit"] ["_law_state", "_law_many"] (bq Sv):=by ac_nf
def w00:af ["_law_s", "_law_is_alone"] ["_law_s", "_law_is_alone"] (bq So):=by ac_nf
def lN:af ["_law_plan_here", "_law_found", "_law_move"] ["_law_plan_here"] (bq SG):=by ac_nf
def gv:af ["_law_state", "_law_first", "_law_last", "_law_s", "_law_is_alone", "_law_fits", "_law_m", "_law_found"] ["_law_state", "_law_first", "_law_last", "_law_s", "_law_is_alone"] (bq SI):=by ac_nf
def lR:af ["_law_there", "_law_n", "_law_s", "_law_found", "_law_k"] ["_law_there", "_law_n", "_law_s"] (bq Sx):=by ac_nf
def w01:af ["_law_there", "_law_move"] ["_law_there", "_law_move"] (bq Sm):=by ac_nf
def cN:af ["_law_state", "_law_way_here", "_law_n", "_law_s", "_law_found", "_law_there", "_law_move", "_law_aside", "_law_turn", "_law_some", "_law_one"] ["_law_state", "_law_way_here", "_law_n", "_law_s"] (bq Ss):=by ac_nf
def lQ:af ["_law_state", "_law_n", "_law_s", "_law_is_left", "_law_way_here", "_law_back"] ["_law_state", "_law_n", "_law_s", "_law_is_left"] (bq Sz):=by ac_nf
def lO:af ["_law_state", "_law_is_left", "_law_most", "_law_s"] ["_law_state", "_law_is_left", "_law_most"] (bq SF):=by ac_nf
def cM:af ["_law_state", "_law_many", "_law_letters", "_law_size_here", "_law_at", "_law_first", "_law_base", "_law_found", "_law_k", "_law_sign", "_law_name"] ["_law_state", "_law_many"] (bq Sy):=by ac_nf
def qa:af ["_law_state", "_law_names_here", "_law_wide", "_law_sort"] ["_law_state", "_law_names_here", "_law_wide"] (bq Sl):=by ac_nf
def iE:af ["_law_state", "_law_names_here", "_law_wide", "_law_deep", "_law_sort", "_law_some", "_law_x", "_law_sign"] ["_law_state", "_law_names_here", "_law_wide", "_law_deep"] (bq SD):=by ac_nf
def vz9:af ["_law_state", "_law_names_here", "_law_wide", "_law_deep", "_law_most"] ["_law_state", "_law_names_here", "_law_wide", "_law_deep", "_law_most"] (bq SE):=by ac_nf
def lP:af ["_law_state", "_law_wide", "_law_names_here"] ["_law_state"] (bq SA):=by ac_nf
def jq:af ["_law_state", "_law_many", "_law_n", "_law_found", "_law_turn", "_law_k"] ["_law_state", "_law_many", "_law_n"] (bq Sr):=by ac_nf
def di:af ["_law_state", "_law_most", "_law_program_here", "_law_is_left", "_law_many", "_law_n", "_law_s", "_law_plan_here", "_law_cuts_here", "_law_x", "_law_row_here"] ["_law_state", "_law_most"] (bq Sw):=by ac_nf
def iD:af ["_law_code", "_law_at", "_law_boxes", "_law_most", "_law_ride", "_law_trail", "_law_place", "_law_held"] ["_law_code", "_law_at", "_law_boxes", "_law_most"] (bq SH):=by ac_nf
def cC:af ["_law_script", "_law_state", "_law_program_here", "_law_cuts_here", "_law_s", "_law_plan_here", "_law_wide", "_law_names_here", "_law_code", "_law_total", "_law_start", "_law_whole", "_law_there"] ["_law_script"] (bq TJ):=by ac_nf
@[reducible]def bG:Addr:=134
set_option genInjectivity false
structure Dm(K:W.Frag)(mg:Str->Option Value) where
 cl:jN K bG
 m:mg "Loom" = some (.ref bG)
 jv:bI K bG "wide"
 jf:bI K bG "fresh"
 cD:bI K bG "rows"
 rh:bI K bG "steps"
@[reducible]def bN:Addr:=472
structure Dl(K:W.Frag)(mg:Str->Option Value) where
 cl:jN K bN
 m:mg "Ride" = some (.ref bN)
 cD:bI K bN "rows"
 fj:bI K bN "held"
 cZ:bI K bN "spot"
structure Fg(K:W.Frag)(mg:Str->Option Value)(x:Str)(st:Stmt)(ps:List Str) extends FnAt K x x st ps where
 g:mg x=some (.ref a)
structure Tx1(K:W.Frag)(mg:Str->Option Value) where
 kU:Fg K mg "joined" Sk ["codes"]
 nW:Fg K mg "moved" SV ["row", "ahead"]
 kJ:Fg K mg "turned" Ts ["code"]
 nJ:Fg K mg "turned_row" Tt ["row", "last"]
 k_:FnAt K "__init__" "Loom.__init__" RL ["self", "wide", "fresh"]
 bF:FnAt K "fresh_box" "Loom.fresh_box" RK ["self"]
 bO:FnAt K "put" "Loom.put" RM ["self", "rows"]
 iS:FnAt K "put_by_choice" "Loom.put_by_choice" RN ["self", "chosen", "yes", "no"]
 gZ:FnAt K "put_unless" "Loom.put_unless" RO ["self", "box", "number", "rows"]
 kI:Fg K mg "weave" Tx ["pieces", "boxes", "wide", "places", "fresh"]
 gU:Fg K mg "weave_rows" TB ["rows", "where", "loom"]
 nG:Fg K mg "weave_choose" Tz ["row", "where", "loom"]
 kO:Fg K mg "place_of" SY ["atom", "where", "loom"]
 nF:Fg K mg "weave_sign" TC ["sign", "first", "second", "loom"]
 nM:Fg K mg "total" Tp ["first", "second", "loom"]
 oF:Fg K mg "difference" Sh ["first", "second", "loom"]
 jD:Fg K mg "gap" RJ ["first", "second", "loom"]
 kY:Fg K mg "bits_of_both" R' ["first", "second", "loom"]
 oI:Fg K mg "bits_of_any" R_ ["first", "second", "loom"]
 oH:Fg K mg "bits_of_one" Sb ["first", "second", "loom"]
 kK:Fg K mg "sum_without_both" Tn ["first", "second", "count", "loom"]
 nN:Fg K mg "smaller" Tf ["first", "second", "loom"]
 oJ:Fg K mg "alike" RY ["first", "second", "loom"]
 nL:Fg K mg "truth" Tq ["asked", "loom"]
 oh:Fg K mg "marking" SN ["word", "stretch", "program", "source", "target", "fresh"]
 og:Fg K mg "marking_steps" SO ["stretch", "program"]
 kP:Fg K mg "pieces" SX ["program"]
 gV:Fg K mg "unrolled" Tv ["rows"]
 nH:Fg K mg "unrolled_row" Tw ["row"]
 kL:Fg K mg "stretches" Tj ["program", "cuts"]
 oG:Fg K mg "costs" Sg ["program", "cuts"]
 kW:Fg K mg "checked" Sf ["plan", "n", "s"]
 n_:Fg K mg "may_do" SQ ["move", "marks", "n", "s"]
 jB:Fg K mg "set_of" Ta ["k"]
 kN:Fg K mg "stands" Tg ["k", "marks"]
 kQ:Fg K mg "many_in" SM ["marks"]
 kZ:Fg K mg "behind" RZ ["move", "marks"]
 nR:Fg K mg "sets_along" Tb ["plan"]
 nZ:Fg K mg "most_marks" SR ["plan"]
structure Tx2(K:W.Frag)(mg:Str->Option Value) extends Tx1 K mg where
 nE:Fg K mg "work" TH ["plan", "costs"]
 oi:Fg K mg "made" SK ["program", "cuts", "s", "plan"]
 kM:Fg K mg "steps" Ti ["program", "cuts", "s", "plan"]
 nP:Fg K mg "slots_along" Td ["plan", "many"]
 nO:Fg K mg "slots_behind" Te ["move", "slots", "many"]
 oE:Fg K mg "free_slot" Si ["slots", "many"]
 nX:Fg K mg "move_codes" SU ["program", "parts", "plan", "slots"]
 nY:Fg K mg "move_code" SS ["move", "stretch", "program", "source", "target", "fresh"]
 nQ:Fg K mg "shown_code" Tc ["slot", "many"]
 oj:Fg K mg "left_code" SJ ["slot", "many"]
 gY:FnAt K "__init__" "Ride.__init__" DC ["self", "code", "boxes", "place"]
 dH:FnAt K "place" "Ride.place" RX ["self"]
 dZ:FnAt K "boxes" "Ride.boxes" RT ["self"]
 f':FnAt K "forth" "Ride.forth" RU ["self"]
 gb:FnAt K "back" "Ride.back" RS ["self"]
 gf:FnAt K "at_end" "Ride.at_end" RQ ["self"]
 gh:FnAt K "at_begin" "Ride.at_begin" RP ["self"]
 fZ:FnAt K "may_forth" "Ride.may_forth" RW ["self"]
 f_:FnAt K "may_back" "Ride.may_back" RV ["self"]
 iR:Fg K mg "holds" Sj ["row", "held"]
 kX:Fg K mg "change" Se ["row", "held", "way"]
 nV:Fg K mg "operand_value" SW ["operand", "held"]
 nK:Fg K mg "turn_bit" Tr ["row", "held"]
 nS:Fg K mg "run_forth" S' ["code", "boxes", "most"]
 nU:Fg K mg "run_back" S_ ["code", "boxes", "place", "most"]
 kH:Fg K mg "word_of" TF ["there", "there_word", "may_go_on"]
 dn:Fg K mg "_law_draw" Sv ["_law_state", "_law_many"]
 kS:Fg K mg "_law_cap" So ["_law_s", "_law_is_alone"]
 jC:Fg K mg "_law_turned" SG ["_law_plan_here"]
 gW:Fg K mg "_law_way" SI ["_law_state", "_law_first", "_law_last", "_law_s", "_law_is_alone"]
 ow:Fg K mg "_law_moves" Sx ["_law_there", "_law_n", "_law_s"]
 oB:Fg K mg "_law_behind" Sm ["_law_there", "_law_move"]
 oz:Fg K mg "_law_detoured" Ss ["_law_state", "_law_way_here", "_law_n", "_law_s"]
 ot:Fg K mg "_law_plan" Sz ["_law_state", "_law_n", "_law_s", "_law_is_left"]
 oo:Fg K mg "_law_size" SF ["_law_state", "_law_is_left", "_law_most"]
 ou:Fg K mg "_law_names" Sy ["_law_state", "_law_many"]
 oC:Fg K mg "_law_atom" Sl ["_law_state", "_law_names_here", "_law_wide"]
 kR:Fg K mg "_law_row" SD ["_law_state", "_law_names_here", "_law_wide", "_law_deep"]
 gX:Fg K mg "_law_rows" SE ["_law_state", "_law_names_here", "_law_wide", "_law_deep", "_law_most"]
 oq:Fg K mg "_law_program" SA ["_law_state"]
structure Txt(K:W.Frag)(mg:Str->Option Value) extends Tx2 K mg where
 oA:Fg K mg "_law_cuts" Sr ["_law_state", "_law_many", "_law_n"]
 ox:Fg K mg "_law_making" Sw ["_law_state", "_law_most"]
 om:Fg K mg "_law_undone" SH ["_law_code", "_law_at", "_law_boxes", "_law_most"]
 gS:Fg K mg "law" TJ ["_law_script"]
 au:Dm K mg
 aq:Dl K mg
 lX:Mk K bG k_.a
 eE:Meth K bG "fresh_box" bF.a
 gO:Meth K bG "put" bO.a
 Jd:Meth K bG "put_by_choice" iS.a
 zV:Meth K bG "put_unless" gZ.a
 gN:Mk K bN gY.a
 Kk:∃t,Binds K gY.fd ["self", "code", "boxes", "place"] [.int 0 t]
 nh:Meth K bN "place" dH.a
 rj:Meth K bN "boxes" dZ.a
 zR:Meth K bN "forth" f'.a
 zS:Meth K bN "back" gb.a
 zT:Meth K bN "at_end" gf.a
 zU:Meth K bN "at_begin" gh.a
 zP:Meth K bN "may_forth" fZ.a
 zQ:Meth K bN "may_back" f_.a
 kE:∃t,mg "NUMBERS" = some (.int 4294967296 t)
 bP:∃t,mg "BELOW_NOUGHT" = some (.int 31 t)
 u7:mg "abs" = none
 gA:mg "dict" = none
 jE:mg "divmod" = none
 cU:mg "enumerate" = none
 oM:mg "int" = none
 eA:mg "isinstance" = none
 bf:mg "len" = none
 fA:mg "list" = none
 rH:mg "max" = none
 rG:mg "min" = none
 bL:mg "range" = none
 gy:mg "reversed" = none
 ib:mg "sorted" = none
 u6:mg "str" = none
 rF:mg "sum" = none
 fH:mg "tuple" = none
 uZ:mg "zip" = none
end Law
namespace Law
open PySem L2 L3 Rw
section
variable{P:Program}{w:World}{K:W.Frag}{mg:Str->Option Value}{base:Heap}(T:Txt K mg)
def sC:gi:=spec (λf G=>∃(st:Addr) (m:Int),f=[.ref st,.int m]/\cF G st/\0<m/\m<1073741824)
 (λf G d g=>∃(st:Addr) (m v:Int),f=[.ref st,.int m]/\cI st G g/\d=.int v/\0<=v/\v<m)
variable(ds:List D)(G:Gp)(R:DK)
inductive lj:Prop
 | mk (row:Row) (a x:Nat) (bs:List Int) (n:Int) (k:Nat) (_:ds=[row.d,.ref a]) (_:(row=.go x n k\/row=.aP x n k)) (_:G a=some (.lst (bs.map .int))) (_:x<bs.length) (_:R (.bl (decide (gt bs x=n))) G):lj
inductive vt:Prop
 | mk (o:oZ) (a:Nat) (bs:List Int) (_:ds=[o.d,.ref a]) (_:G a=some (.lst (bs.map .int))) (_:(∀y,o=.box y->y<bs.length)) (_:R (.int (val bs o)) G):vt
inductive vj:Prop
 | mk (x i:Nat) (cs:List (Nat×Nat)) (a sz:Nat) (bs:List Int) (_:ds=[(Row.turn x i cs).d,.ref a]) (_:(Row.turn x i cs).ok sz) (_:cn sz bs) (_:G a=some (.lst (bs.map .int))) (_:∀f,vd a (cB 1 bs (.turn x i cs)) G f->R .non f):vj
inductive gj:Prop
 | mk (row:Row) (a sz:Nat) (s:Int) (bs:List Int) (_:ds=[row.d,.ref a,.int s]) (_:(s=1\/s=-1)) (_:row.ok sz) (_:cn sz bs) (_:G a=some (.lst (bs.map .int))) (_:∀f,vd a (cB s bs row) G f->R .non f):gj
inductive oX:Prop
 | mk (p f g:Addr) (rs:List Row) (bs:List Int) (s:Nat) (_:ds=[.ref p]) (_:bc bN G p f g rs bs s) (_:R (.bl (decide (s=rs.length))) G):oX
inductive oY:Prop
 | mk (p f g:Addr) (rs:List Row) (bs:List Int) (s:Nat) (_:ds=[.ref p]) (_:bc bN G p f g rs bs s) (_:R (.bl (decide (s=0))) G):oY
inductive jH:Prop
 | mk (p f g:Addr) (rs:List Row) (bs:List Int) (s:Nat) (_:ds=[.ref p]) (_:bc bN G p f g rs bs s) (_:R (.int (s:Int)) G):jH
inductive jI:Prop
 | mk (p f g:Addr) (rs:List Row) (bs:List Int) (s:Nat) (_:ds=[.ref p]) (_:bc bN G p f g rs bs s) (_:∀q,G q=none->R (.ref q) (aH G q (.lst (bs.map .int)))):jI
inductive oV:Prop
 | mk (p f g:Addr) (rs:List Row) (bs:List Int) (s sz:Nat) (_:ds=[.ref p]) (_:bc bN G p f g rs bs s) (_:gF sz rs bs s) (_:R (.bl (bw rs bs s)) G):oV
inductive oW:Prop
 | mk (p f g:Addr) (rs:List Row) (bs:List Int) (s sz:Nat) (_:ds=[.ref p]) (_:bc bN G p f g rs bs s) (_:gF sz rs bs s) (_:R (.bl (cx rs bs s)) G):oW
inductive r_:Prop
 | mk (p h g:Addr) (rs:List Row) (bs:List Int) (s sz:Nat) (_:ds=[.ref p]) (_:bc bN G p h g rs bs s) (_:gF sz rs bs s) (_:∀f,(bw rs bs s=false->f=G)->(bw rs bs s=true->bc bN f p h g rs (bS rs bs s).2 (bS rs bs s).1/\∀b,b≠p->b≠g->f b=G b)->R (.bl (bw rs bs s)) f):r_
inductive sf:Prop
 | mk (p h g:Addr) (rs:List Row) (bs:List Int) (s sz:Nat) (_:ds=[.ref p]) (_:bc bN G p h g rs bs s) (_:gF sz rs bs s) (_:∀f,(cx rs bs s=false->f=G)->(cx rs bs s=true->bc bN f p h g rs (dy rs bs s).2 (dy rs bs s).1/\∀b,b≠p->b≠g->f b=G b)->R (.bl (cx rs bs s)) f):sf
inductive ll:Prop
 | mk (p:Addr) (j:D) (i bx:Addr) (rs:List Row) (bs:List Int) (s:Nat) (_:ds=[.ref p,.tup [j,.ref i],.ref bx,.int (s:Int)]) (_:G p=some (.ins bN [])) (_:G i=some (.lst (rs.map Row.d))) (_:G bx=some (.lst (bs.map .int))) (_:∀g h f,G g=none->G h=none->bc bN f p g h rs bs s->(∀b o,b≠p->G b=some o->f b=some o)->R .non f):ll
def fN{G:Gp}{st:Addr}{m:Int}{q:DK}(h:cF G st)(j:0<m)(h1:m<1073741824)(k:∀(v:Int) (f:Gp),cI st G f->0<=v->v<m->q (.int v) f): ∃R,sC [.ref st,.int m] G R/\∀d f,R d f->q d f:=vb3 ⟨st,m,rfl,h,j,h1⟩ λd f ⟨l,n,v,e,a,ed,i,g⟩=>by cases e;subst ed;exact k v f a i g
def TY{G:Gp}{p t bx:Addr}{rs:List Row}{bs:List Int}{s:Nat}{x:D}{q:Gp->Prop}(u:G p=none)(A:G t=some (.lst (rs.map Row.d)))(y:G bx=some (.lst (bs.map .int))) (k:∀g i f,G g=none->G i=none->bc bN f p g i rs bs s->aA G f->q f):∃R,ll [.ref p,.tup [x,.ref t],.ref bx,.int (s:Int)] (aH G p (.ins bN [])) R/\∀d f,R d f->d=.non/\q f:=by
 have j:aA G (aH G p (.ins bN [])):=aA.refl.new u;exact jR (post:=λd f=>d=.non/\∃g i,G g=none/\G i=none/\bc bN f p g i rs bs s/\aA G f)
   (λR h=>#[p,x,t,bx,rs,bs,s,rfl,aG,j.kp _ _ A,j.kp _ _ y,λg i f r n m l=>h _ _ #[rfl,g,i,j.none r,j.none n,m,#[λb o e=>l b o (aL e u) (j.kp _ _ e)]]]) λd f ⟨e,g,i,r,n,m,l⟩=>#[e,k g i f r n m l]
inductive mL(a b c d:Prop):Prop
 | mk:a->b->c->d->mL a b c d
inductive Ai5(a b c d e:Prop):Prop
 | mk:a->b->c->d->e->Ai5 a b c d e
inductive zq(a b c d e f:Prop):Prop
 | mk:a->b->c->d->e->f->zq a b c d e f
inductive Ds(a b c d e f g:Prop):Prop
 | mk:a->b->c->d->e->f->g->Ds a b c d e f g
inductive Ai8(a b c d e f g h:Prop):Prop
 | mk:a->b->c->d->e->f->g->h->Ai8 a b c d e f g h
inductive MC(a b c d e f g h i:Prop):Prop
 | mk:a->b->c->d->e->f->g->h->i->MC a b c d e f g h i
inductive MH(a b c d e f g h i j:Prop):Prop
 | mk:a->b->c->d->e->f->g->h->i->j->MH a b c d e f g h i j
inductive MG(a b c d e f g h i j k l:Prop):Prop
 | mk:a->b->c->d->e->f->g->h->i->j->k->l->MG a b c d e f g h i j k l
inductive MF(a b c d e f g h i j k l m:Prop):Prop
 | mk:a->b->c->d->e->f->g->h->i->j->k->l->m->MF a b c d e f g h i j k l m
inductive ME(a b c d e f g h i j k l m n:Prop):Prop
 | mk:a->b->c->d->e->f->g->h->i->j->k->l->m->n->ME a b c d e f g h i j k l m n
inductive MD(a b c d e f g h i j k l m n o:Prop):Prop
 | mk:a->b->c->d->e->f->g->h->i->j->k->l->m->n->o->MD a b c d e f g h i j k l m n o
inductive Zc{a b:Type}(p:a->b->Prop):Prop
 | mk (A B) (_:p A B):Zc p
inductive mj{a b c:Type}(p:a->b->c->Prop):Prop
 | mk (A B C) (_:p A B C):mj p
inductive tj{a b c d:Type}(p:a->b->c->d->Prop):Prop
 | mk (A B C D) (_:p A B C D):tj p
inductive ES{a b c d e:Type}(p:a->b->c->d->e->Prop):Prop
 | mk (A B C D E) (_:p A B C D E):ES p
inductive Zb{a b c d e f:Type}(p:a->b->c->d->e->f->Prop):Prop
 | mk (A B C D E F) (_:p A B C D E F):Zb p
inductive Xi7{a b c d e f g:Type}(p:a->b->c->d->e->f->g->Prop):Prop
 | mk (A B C D E F G) (_:p A B C D E F G):Xi7 p
inductive Kv{a b c d e f g h i j:Type}(p:a->b->c->d->e->f->g->h->i->j->Prop):Prop
 | mk (A B C D E F G H I J) (_:p A B C D E F G H I J):Kv p
inductive Ku{a b c d e f g h i j k l m:Type}(p:a->b->c->d->e->f->g->h->i->j->k->l->m->Prop):Prop
 | mk (A B C D E F G H I J K L M) (_:p A B C D E F G H I J K L M):Ku p
def bQ{S:gi}{ds:List D}{G:Gp}{q:DK}(h:S ds G q):∃R,S ds G R/\∀d f,R d f->q d f:=⟨q,h,λ_ _ z=>z⟩
inductive lh:Prop
 | mk (a c:Bool) (w:Str) (_:ds=[.bl a,.str w,.bl c]) (_:R (.str (if a=true then w else if c=true then "tired" else "torn")) G):lh
inductive rS:Prop
 | mk (h:D) (g bx:Addr) (rs:List Row) (bs:List Int) (most sz:Nat) (_:ds=[.tup [h,.ref g],.ref bx,.int (most:Int)]) (_:G g=some (.lst (rs.map Row.d))) (_:G bx=some (.lst (bs.map .int))) (_:gF sz rs bs 0) (_:Pairs rs) (_:∀q f,G q=none->f q=some (.lst ((rn true rs most 0 bs).2.2.map .int))->aA G f->R (outD true rs (rn true rs most 0 bs) q) f):rS
inductive vR:Prop
 | mk (p:Addr) (W fr:Nat) (_:ds=[.ref p,.int (W:Int),.int (fr:Int)]) (_:G p=some (.ins bG [])) (_:∀rp f,G rp=none->ax bG f p rp W fr [] 0->(∀b o,b≠p->G b=some o->f b=some o)->R .non f):vR
inductive d4:Prop
 | mk (p rp:Addr) (W fr:Nat) (rows:List Row) (st:Nat) (_:ds=[.ref p]) (_:ax bG G p rp W fr rows st) (_:∀f,ax bG f p rp W (fr+1) rows st->cG p rp G f->R (.int (fr:Int)) f):d4
inductive d3:Prop
 | mk (p rp q:Addr) (W fr:Nat) (rows new:List Row) (st:Nat) (_:ds=[.ref p,.ref q]) (_:ax bG G p rp W fr rows st) (_:G q=some (.lst (new.map Row.d))) (_:q≠rp) (_:rows.length<=9000) (_:new.length<=1000) (_:∀f,ax bG f p rp W fr (rows++new) (st+new.length)->cG p rp G f->R .non f):d3
inductive eG(g:Nat)(xs:Nat->Nat->List D)(bx:Nat->Nat)(fn:Nat->Nat)(nw:Nat->Nat->Nat->Nat->List Row)(ds:List D)(G:Gp)(R:DK):Prop
 | mk (p rp:Addr) (W fr x y:Nat) (rows:List Row) (st:Nat) (_:ds=xs x y++[.ref p]) (_:ax bG G p rp W fr rows st) (_:W<=16) (_:rows.length+2*g<=4100) (_:∀f,ax bG f p rp W (fn fr) (rows++nw W x y fr) (st+(nw W x y fr).length)->cG p rp G f->R (.int (bx fr:Int)) f):eG g xs bx fn nw ds G R
def xy(x y:Nat):List D:=[.int (x:Int),.int (y:Int)]
def xd6:gi:=eG 20 xy (λf=>f) (λf=>f+2) λW x y f=>gC W x y f "+"
def xe0:gi:=eG 20 xy (λf=>f) (λf=>f+2) λW x y f=>gC W x y f "-"
def MY:gi:=eG 0 xy (λf=>f) (λf=>f+1) λ_ x y f=>[.add f (.box x),.take f (.box y)]
def Rr:gi:=eG 0 xy (λf=>f) (λf=>f+1) λW x y f=>cV f x y W
def xe2:gi:=eG 20 xy (λf=>f+1) (λf=>f+2) λW x y f=>gC W x y f "|"
def xe1:gi:=eG 20 xy (λf=>f+1) (λf=>f+2) λW x y f=>gC W x y f "^"
inductive rO:Prop
 | mk (n:Nat) (_:n<=2) (_:eG 19 (λx y=>[.int (x:Int),.int (y:Int),.int (n:Int)]) (λfr=>fr+1) (λfr=>fr+2) (λW x y fr=>cV fr x y W++([.add (fr+1) (.box x),.add (fr+1) (.box y)]++D2 n (.take (fr+1) (.box fr)))) ds G R):rO
def xd7:gi:=eG 20 xy (λf=>f+1) (λf=>f+2) λW x y f=>gC W x y f "<"
def xe3:gi:=eG 20 xy (λf=>f+2) (λf=>f+3) λW x y f=>gC W x y f "="
inductive vg:Prop
 | mk (o:Str) (_:o∈L3.signs) (_:eG 21 (λx y=>[.str o,.int (x:Int),.int (y:Int)]) (λfr=>BH fr o) (λfr=>mY fr o) (λW x y fr=>gC W x y fr o) ds G R):vg
inductive oS:Prop
 | mk (p rp g:Addr) (W fr:Nat) (rows:List Row) (st:Nat) (bs:List Str) (pl:List Nat) (a:mK) (_:ds=[aD a,.ref g,.ref p]) (_:ax bG G p rp W fr rows st) (_:G g=some (.bM (bH bs pl))) (_:pl.length=bs.length) (_:j0 W bs a) (_:rows.length<=4100) (_:∀f,ax bG f p rp W (bh fr a) (rows++dF fr a) (st+(dF fr a).length)->cG p rp G f->R (.int (fE bs pl fr a:Int)) f):oS
inductive si:Prop
 | mk (p rp q:Addr) (W fr x:Nat) (n:Int) (rows new:List Row) (st:Nat) (_:ds=[.ref p,.int (x:Int),.int n,.ref q]) (_:ax bG G p rp W fr rows st) (_:G q=some (.lst (new.map Row.d))) (_:q≠rp) (_:rows.length<=9000) (_:new.length<=1000) (_:∀f,ax bG f p rp W fr (rows++(.go x n (rows.length+new.length+1)::(new++[.aP x n rows.length]))) st->cG p rp G f->R .non f):si
inductive vQ:Prop
 | mk (p rp g f:Addr) (W fr ch:Nat) (rows ys ns:List Row) (st:Nat) (_:ds=[.ref p,.int (ch:Int),.ref g,.ref f]) (_:ax bG G p rp W fr rows st) (_:G g=some (.lst (ys.map Row.d))) (_:G f=some (.lst (ns.map Row.d))) (_:g≠rp) (_:f≠rp) (_:rows.length<=4100) (_:ys.length<=10) (_:ns.length<=10) (_:∀h,ax bG h p rp W fr (rows++s_ rows.length ch ys ns) (st+(ys.length+3))->cG p rp G h->R .non h):vQ
inductive vk:Prop
 | mk (p rp:Addr) (W fr x:Nat) (rows:List Row) (st:Nat) (_:ds=[.int (x:Int),.ref p]) (_:ax bG G p rp W fr rows st) (_:rows.length<=4100) (_:∀f,ax bG f p rp W (fr+2) (rows++[.take fr (.box x),.turn (fr+1) 0 [(fr,31)]]) (st+2)->cG p rp G f->R (.int ((fr+1:Nat):Int)) f):vk
inductive fI(dp:Nat)(ds:List D)(G:Gp)(R:DK):Prop
 | mk (d:D) (p rp f:Addr) (W fr:Nat) (bs:List Str) (pl:List Nat) (rows:List Row) (st:Nat) (rs:List av) (_:ds=[d,.ref f,.ref p]) (_:ax bG G p rp W fr rows st) (_:G f=some (.bM (bH bs pl))) (_:uj G d=some (cq rs)) (_:d≠.ref rp) (_:pl.length=bs.length) (_:bs.length<=6) (_:bs.Nodup) (_:d8 W bs rs) (_:fW rs) (_:bj rs<dp) (_:rows.length+22*bZ rs<=3960) (_:W<=16) (_:∀g,ax bG g p rp W (bt W bs rs rows.length pl fr).2.2.1 (rows++(bt W bs rs rows.length pl fr).1) (st+(bt W bs rs rows.length pl fr).2.2.2)->g f=some (.bM (bH bs (bt W bs rs rows.length pl fr).2.1))->(∀b o,b≠p->b≠rp->b≠f->G b=some o->g b=some o)->R .non g):fI dp ds G R
def xd4:gi:=fI 8
def xe4{n:Nat}:n<*T.gU.1<*fI 0:=Nu (by rintro ds G R ⟨_,_,_,_,_,_,_,_,_,_,_,_,_,_,_,_,_,_,_,_,_,h,_⟩;omega)
inductive ml(dp:Nat)(ds:List D)(G:Gp)(R:DK):Prop
 | mk (p rp f:Addr) (W fr:Nat) (bs:List Str) (pl:List Nat) (rows:List Row) (st:Nat) (c:mK) (ys ns:List av) (_:ds=[gM (.fG c ys ns),.ref f,.ref p]) (_:ax bG G p rp W fr rows st) (_:G f=some (.bM (bH bs pl))) (_:pl.length=bs.length) (_:bs.length<=6) (_:bs.Nodup) (_:tN W bs (.fG c ys ns)) (_:xg (.fG c ys ns)) (_:bj ys<dp) (_:bj ns<dp) (_:rows.length+22*pR (.fG c ys ns)<=3960) (_:W<=16) (_:∀g,ax bG g p rp W (cH W bs (.fG c ys ns) rows.length pl fr).2.2.1 (rows++(cH W bs (.fG c ys ns) rows.length pl fr).1) (st+(cH W bs (.fG c ys ns) rows.length pl fr).2.2.2)->g f=some (.bM (bH bs (cH W bs (.fG c ys ns) rows.length pl fr).2.1))->(∀b o,b≠p->b≠rp->b≠f->G b=some o->g b=some o)->R .non g):ml dp ds G R
inductive rM:Prop
 | mk (pc i:Addr) (W fr:Nat) (bs:List Str) (pl:List Nat) (rs:List av) (_:ds=[.ref pc,.tup (bs.map .str),.int (W:Int),.ref i,.int (fr:Int)]) (_:G pc=some (.lst (cq rs))) (_:G i=some (.lst (pl.map nD))) (_:pl.length=bs.length) (_:bs.length<=6) (_:bs.Nodup) (_:d8 W bs rs) (_:fW rs) (_:bj rs<=6) (_:22*bZ rs<=3960) (_:W<=16) (_:∀(g f:Addr) (h:Gp),G g=none->G f=none->g≠f->h g=some (.lst ((bt W bs rs 0 pl fr).1.map Row.d))->h f=some (.lst ((bt W bs rs 0 pl fr).2.1.map nD))->aA G h->R (.tup [.ref g,.ref f,.int ((bt W bs rs 0 pl fr).2.2.1:Int),.int ((bt W bs rs 0 pl fr).2.2.2:Int)]) h):rM
def tI{G:Gp}{p rp:Addr}{W fr st:Nat}{rows:List Row}{q:DK}(h:ax bG G p rp W fr rows st)(k:∀f,ax bG f p rp W (fr+1) rows st->cG p rp G f->q (.int (fr:Int)) f):∃R,d4 [.ref p] G R/\∀d f,R d f->q d f:=bQ ⟨p,rp,W,fr,rows,st,rfl,h,k⟩
def xl0{G:Gp}{p rp g:Addr}{W fr st:Nat}{rows new:List Row}{q:DK}(h:ax bG G p rp W fr rows st)(i:G g=some (.lst (new.map Row.d)))(j:g≠rp)(h1:rows.length<=9000)(l:new.length<=1000)(k:∀f,ax bG f p rp W fr (rows++new) (st+new.length)->cG p rp G f->q .non f):∃R,d3 [.ref p,.ref g] G R/\∀d f,R d f->q d f:=bQ ⟨p,rp,g,W,fr,rows,new,st,rfl,h,i,j,h1,l,k⟩
def ua{g:Nat}{xs:Nat->Nat->List D}{bx fn:Nat->Nat}{nw:Nat->Nat->Nat->Nat->List Row}{G:Gp}{p rp:Addr}{W fr x y st:Nat}{rows:List Row}{q:DK}(h:ax bG G p rp W fr rows st)(i:W<=16)(h1:rows.length+2*g<=4100)(k:∀f,ax bG f p rp W (fn fr) (rows++nw W x y fr) (st+(nw W x y fr).length)->cG p rp G f->q (.int (bx fr:Int)) f):∃R,eG g xs bx fn nw (xs x y++[.ref p]) G R/\∀d f,R d f->q d f:=bQ ⟨p,rp,W,fr,x,y,rows,st,rfl,h,i,h1,k⟩
def NF{G:Gp}{p rp g:Addr}{W fr st:Nat}{rows:List Row}{bs:List Str}{pl:List Nat}{a:mK}{q:DK}(h:ax bG G p rp W fr rows st)(hw:G g=some (.bM (bH bs pl)))(i:pl.length=bs.length)(j:j0 W bs a)(h1:rows.length<=4100)(k:∀f,ax bG f p rp W (bh fr a) (rows++dF fr a) (st+(dF fr a).length)->cG p rp G f->q (.int (fE bs pl fr a:Int)) f):∃R,oS [aD a,.ref g,.ref p] G R/\∀d f,R d f->q d f:=bQ ⟨p,rp,g,W,fr,rows,st,bs,pl,a,rfl,h,hw,i,j,h1,k⟩
def xW{G:Gp}{p rp g:Addr}{W fr st:Nat}{rows new:List Row}{q:DK}(A:ax bG G p rp W fr rows st)(h:G g=none)(h1:rows.length<=9000)(i:new.length<=1000)(k:∀f,ax bG f p rp W fr (rows++new) (st+new.length)->cG p rp G f->q .non f):∃R,d3 [.ref p,.ref g] (aH G g (.lst (new.map Row.d))) R/\∀d f,R d f->q d f:=xl0 (A.new h) aG (D3 (aL A.ro h)) h1 i λf l j=>k f l ((cG.refl.new h).trans j)
def w49{x:Int}(h1:0<=x)(g:x<26):dE (J0 "abcdefghijklmnopqrstuvwxyz").cps.toList x=some (97+x.toNat):=by
 let#[n,rfl]:=Int.eq_ofNat_of_zero_le h1;have f:n<26:=()
 have key:∀n:Fin 26,(J0 "abcdefghijklmnopqrstuvwxyz").cps.toList[n.val]?=some (97+n.val):=∅;have e:=vm6 (xs:=(J0 "abcdefghijklmnopqrstuvwxyz").cps.toList) (i:=(n:Int)) h1 (by exact g);rw[e,<- B6];exact key #[n,f]
def xb0{d:D}{xs:List D}{G:Gp}{f:dR}{i:Nat}{g:pH}{tb:ic}{E:ig}(j:uj G d=some xs)(n:f[i]?=some (some d))(k:∀ok:Gp->Prop,(∀l,uj l d=some xs->ok l)->forL ok g tb E xs f G):sZ (xQ (dD i)) g tb E f G:=by
 unfold sZ xQ dD;rw[n];cases d with
 | tup ds =>
  have e:ds=xs:=by simpa[uj] using j
  subst e;exact k _ λ_ _=>trivial
 | ref a =>have m:bB (G a)=some xs:=j;dsimp only;rw[m];exact k _ λl h=>h| _=>exact absurd j (by simp[uj])
def v06{W:Nat}{bs:List Str}{q:av}{l:List av}{a:Nat}{pl:List Nat}{fr:Nat}:bt W bs (q::l) a pl fr=((cH W bs q a pl fr).1++(bt W bs l (a+(cH W bs q a pl fr).1.length) (cH W bs q a pl fr).2.1 (cH W bs q a pl fr).2.2.1).1,(bt W bs l (a+(cH W bs q a pl fr).1.length) (cH W bs q a pl fr).2.1 (cH W bs q a pl fr).2.2.1).2.1,(bt W bs l (a+(cH W bs q a pl fr).1.length) (cH W bs q a pl fr).2.1 (cH W bs q a pl fr).2.2.1).2.2.1,(cH W bs q a pl fr).2.2.2+(bt W bs l (a+(cH W bs q a pl fr).1.length) (cH W bs q a pl fr).2.1 (cH W bs q a pl fr).2.2.1).2.2.2):=rfl
theorem v04{W:Nat}{bs:List Str}:∀(l:List av) {r:av} {a:Nat} {pl:List Nat} {fr:Nat},bt W bs (l++[r]) a pl fr=((bt W bs l a pl fr).1++(cH W bs r (a+(bt W bs l a pl fr).1.length) (bt W bs l a pl fr).2.1 (bt W bs l a pl fr).2.2.1).1,(cH W bs r (a+(bt W bs l a pl fr).1.length) (bt W bs l a pl fr).2.1 (bt W bs l a pl fr).2.2.1).2.1,(cH W bs r (a+(bt W bs l a pl fr).1.length) (bt W bs l a pl fr).2.1 (bt W bs l a pl fr).2.2.1).2.2.1,(bt W bs l a pl fr).2.2.2+(cH W bs r (a+(bt W bs l a pl fr).1.length) (bt W bs l a pl fr).2.1 (bt W bs l a pl fr).2.2.1).2.2.2)
 | [],r,a,pl,fr=>by
  show((cH W bs r a pl fr).1++[],(cH W bs r a pl fr).2.1,(cH W bs r a pl fr).2.2.1,(cH W bs r a pl fr).2.2.2+0)=([]++(cH W bs r (a+0) pl fr).1,(cH W bs r (a+0) pl fr).2.1,(cH W bs r (a+0) pl fr).2.2.1,0+(cH W bs r (a+0) pl fr).2.2.2)
  rw[D9,J6,MJ,MJ,L5]
 | q::l,r,a,pl,fr=>by rw[K2,v06,v06,v04 l];simp only[B4,D4,K8]
def jc:List Str->List Nat->List Nat->List Str
 | b::h,p::g,q::f=>if p=q then jc h g f else b::jc h g f| _,_,_=>[]
def asg(bs:List Str):List Str->Nat->List Nat->List Nat
 | [],_,g=>g| n::h,f,g=>asg bs h (f+1) (eN bs g n f)
theorem Gi:∀{bs:List Str} {ps qs:List Nat} {x:Str},x∈jc bs ps qs->x∈bs
 | [],ps,qs,x,h=>by cases ps <;> cases qs <;> cases h
 | b::bs,[],qs,x,h=>by cases qs <;> cases h
 | b::bs,p::ps,[],x,h=>by cases h
 | b::bs,p::ps,q::qs,x,h=>by
  unfold jc at h;split at h
  .exact C2 _ (Gi h)
  .rcases D7.mp h with e|h
   .rw[e];exact C6
   .exact C2 _ (Gi h)
def vp5{b n:Str}{bs:List Str}{p f:Nat}{pl:List Nat}(h:b≠n):eN (b::bs) (p::pl) n f=p::eN bs pl n f:=by unfold eN;rw[iG,if_neg h,P0];rfl
def xa{b n:Str}{bs:List Str}{p:Nat}{pl:List Nat}(h:b≠n):gtB (b::bs) (p::pl) n=gtB bs pl n:=by unfold gtB;rw[iG,if_neg h,P0];rfl
def Bw{b:Str}{bs:List Str}{p:Nat}{pl:List Nat}:gtB (b::bs) (p::pl) b=p:=by unfold gtB;rw[iG,if_pos rfl];rfl
theorem Vd{b:Str}{bs:List Str}:∀{ns:List Str} {p f:Nat} {pl:List Nat},b∉ns->asg (b::bs) ns f (p::pl)=p::asg bs ns f pl
 | [],_,_,_,_=>rfl| n::ns,p,f,pl,h=>by have g:b≠n:=λe=>h (by rw[e];exact C6);show asg (b::bs) ns (f+1) (eN (b::bs) (p::pl) n f)=p::asg bs ns (f+1) (eN bs pl n f);rw[vp5 g,Vd λe=>h (C2 _ e)]
theorem UG:∀{bs:List Str} {ps qs:List Nat} {f:Nat},bs.Nodup->ps.length=bs.length->qs.length=bs.length->asg bs (jc bs ps qs) f ps=gD f ps qs
 | [],ps,qs,f,_,g,h=>by have m:ps=[]:=E8 g;subst m;cases qs <;> rfl
 | b::bs,[],qs,f,_,g,_=>by cases g
 | b::bs,p::ps,[],f,_,_,h=>by cases h
 | b::bs,p::ps,q::qs,f,l,g,h=>by
  let#[k,j]:=O1.mp l;have g:ps.length=bs.length:=P1 g;have h:qs.length=bs.length:=P1 h;have i:b∉jc bs ps qs:=λe=>k (Gi e);unfold jc gD;split
  .rw[Vd i,UG j g h]
  .show asg (b::bs) (jc bs ps qs) (f+1) (eN (b::bs) (p::ps) b f)=_;have e:eN (b::bs) (p::ps) b f=f::ps:=by unfold eN;rw[iG,if_pos rfl];rfl
   rw[e,Vd i,UG j g h]
theorem Vy:∀{bs:List Str} {ps qs:List Nat} {f:Nat},bs.Nodup->ps.length=bs.length->qs.length=bs.length -> ((jc bs ps qs).map λn=>Row.add (gtB bs (gD f ps qs) n) (.box (gtB bs ps n)))=jd f (uY ps qs)/\((jc bs ps qs).map λn=>Row.add (gtB bs (gD f ps qs) n) (.box (gtB bs qs n)))=jd f (uN ps qs)
 | [],ps,qs,f,_,j,i=>by have m:ps=[]:=E8 j;have l:qs=[]:=E8 i;subst m l;exact#[rfl,rfl]| b::bs,[],qs,f,_,j,_=>by cases j
 | b::bs,p::ps,[],f,_,_,i=>by cases i
 | b::bs,p::ps,q::qs,f,x,j,i=>by
  let#[u,t]:=O1.mp x;have j:ps.length=bs.length:=P1 j;have i:qs.length=bs.length:=P1 i;have h:∀n∈jc bs ps qs,b≠n:=λn g e=>u (by rw[e];exact Gi g);by_cases e:p=q
  .have k:=Vy (f:=f) t j i;have m:jc (b::bs) (p::ps) (q::qs)=jc bs ps qs:=by rw[jc,if_pos e]
   have l:gD f (p::ps) (q::qs)=p::gD f ps qs:=by rw[gD,if_pos e]
   have r:uY (p::ps) (q::qs)=uY ps qs:=by rw[uY,if_pos e]
   have o:uN (p::ps) (q::qs)=uN ps qs:=by rw[uN,if_pos e]
   rw[m,l,r,o,<- k.1,<- k.2];exact#[M9 λn g=>by rw[xa (h n g),xa (h n g)],M9 λn g=>by rw[xa (h n g),xa (h n g)]]
  .have k:=Vy (f:=f+1) t j i;have m:jc (b::bs) (p::ps) (q::qs)=b::jc bs ps qs:=by rw[jc,if_neg e]
   have l:gD f (p::ps) (q::qs)=f::gD (f+1) ps qs:=by rw[gD,if_neg e]
   have r:uY (p::ps) (q::qs)=p::uY ps qs:=by rw[uY,if_neg e]
   have o:uN (p::ps) (q::qs)=q::uN ps qs:=by rw[uN,if_neg e]
   rw[m,l,r,o,C0,C0,Bw,Bw,Bw];show(_::_=Row.add f (.box p)::jd (f+1) (uY ps qs))/\(_::_=Row.add f (.box q)::jd (f+1) (uN ps qs))
   rw[<- k.1,<- k.2];exact#[congrArg _ (M9 λn g=>by rw[xa (h n g),xa (h n g)]),congrArg _ (M9 λn g=>by rw[xa (h n g),xa (h n g)])]
theorem va1:∀{bs:List Str} {ps qs:List Nat},ps.length=bs.length->qs.length=bs.length->(jc bs ps qs).length=(uY ps qs).length
 | [],ps,qs,g,f=>by have j:ps=[]:=E8 g;have i:qs=[]:=E8 f;subst j i;rfl| b::bs,[],qs,g,_=>by cases g
 | b::bs,p::ps,[],_,f=>by cases f
 | b::bs,p::ps,q::qs,g,f=>by
  have h:=va1 (bs:=bs) (ps:=ps) (qs:=qs) (P1 g) (P1 f);unfold jc uY;split
  .exact h
  .rw[C1,C1,h]
def vf6:∀{bs:List Str} {pl ps:List Nat},bs.Nodup->pl.length=bs.length->ps.length=bs.length->DR (bH bs pl) (bH bs ps)=bH bs ps:=by
 have key:∀(f g:List Str) (k i j:List Nat),(f++g).Nodup->k.length=f.length->i.length=g.length->j.length=g.length->DR (bH (f++g) (k++i)) (bH g j)=bH (f++g) (k++j):=by
  intro f g;induction g generalizing f with
  | nil =>intro k i j _ _ l o;have A:i=[]:=E8 l;have y:j=[]:=E8 o;subst A y;rfl| cons b g r =>
   intro k i j m n l o;cases i with
   | nil=>cases l
   | cons p i =>
    cases j with
    | nil=>cases o
    | cons q j =>
     have u:b∈f++b::g:=by simp
     have st:mR (bH (f++b::g) (k++p::i)) (.inr b) (.int (q:Int))=bH (f++b::g) (k++q::i):=by
      rw[VJ u m (by rw[B4,B4,n,l])];have B:iG (f++b::g) b=f.length:=by
       have t:b∉f:=λh=>(Z9.mp m).2.2 b h b C6 rfl;clear r m n l o u;induction f with
       | nil=>show(if b=b then 0 else _)=0;rw[if_pos rfl]| cons a f r =>have x:¬ a=b:=λe=>t (by rw[e];exact C6);show(if a=b then 0 else 1+iG (f++b::g) b)=_;rw[if_neg x,r λh=>t (C2 _ h),C1];omega
      unfold eN;rw[B,<- n,List.set_append_right _ _ (B9 _),Fl];rfl
     show DR (mR (bH (f++b::g) (k++p::i)) (.inr b) (.int (q:Int))) (bH g j)=_;rw[st];have:=r (f++[b]) (k++[q]) i j (by simpa using m) (by simp[n]) (P1 l) (P1 o);simpa using this
 intro bs pl ps m n l;have:=key [] bs [] pl ps m rfl n l;simpa using this
theorem v45:∀{bs:List Str} {ps:List Nat},ps.length=bs.length->(bH bs ps).map (λf=>kD f.1)=bs.map D.str
 | [],ps,_=>by cases ps <;> rfl
 | b::bs,[],h=>by cases h
 | b::bs,p::ps,h=>by show D.str b::(bH bs ps).map (λf=>kD f.1)=_;rw[v45 (P1 h)];rfl
theorem ul6:∀{bs:List Str} {ps qs:List Nat},bs.Nodup->ps.length=bs.length->qs.length=bs.length->bs.filter (λn=>!decide (gtB bs ps n=gtB bs qs n))=jc bs ps qs
 | [],ps,qs,_,_,_=>by cases ps <;> cases qs <;> rfl
 | b::bs,[],qs,_,g,_=>by cases g
 | b::bs,p::ps,[],_,_,f=>by cases f
 | b::bs,p::ps,q::qs,m,g,f=>by
  let#[k,j]:=O1.mp m;have l:=ul6 j (show ps.length=bs.length from P1 g) (show qs.length=bs.length from P1 f);have h:bs.filter (λn=>!decide (gtB (b::bs) (p::ps) n=gtB (b::bs) (q::qs) n))=jc bs ps qs:=by rw[<- l];apply C01 λn o=>?_;have i:b≠n:=λe=>k (by rw[e];exact o);rw[xa i,xa i]
  by_cases e:p=q
  .rw[B28 (by rw[Bw,Bw];simp[e]),h,jc,if_pos e]
  .rw[B29 (by rw[Bw,Bw];simp[e]),h,jc,if_neg e]
theorem v52{bs:List Str}:∀{u:List Str} {x:Str} {f:Nat} {pl:List Nat},asg bs (u++[x]) f pl=eN bs (asg bs u f pl) x (f+u.length)
 | [],x,f,pl=>rfl| n::u,x,f,pl=>by show asg bs (u++[x]) (f+1) (eN bs pl n f)=eN bs (asg bs u (f+1) (eN bs pl n f)) x (f+(u.length+1));rw[v52,show f+1+u.length=f+(u.length+1) by omega]
theorem vm7{bs:List Str}:∀{u:List Str} {f:Nat} {pl:List Nat},(asg bs u f pl).length=pl.length
 | [],f,pl=>rfl| n::u,f,pl=>by show(asg bs u (f+1) (eN bs pl n f)).length=_;rw[vm7];unfold eN;rw[J9]
def gQ{f:dR->Gp->Prop}{s:dR}{G:Gp}(h:f s G):Go f s G:=h
inductive vh:Prop
 | mk (row:Row) (m:Nat) (_:ds=[row.d,.int ((m:Int)-1)]) (_:(∀x n k,(row=.go x n k\/row=.aP x n k)->k<m)) (_:R (mW m row).d G):vh
inductive rN:Prop
 | mk (h:D) (g:Addr) (rs:List Row) (_:ds=[.tup [h,.ref g]]) (_:G g=some (.lst (rs.map Row.d))) (_:Pairs rs) (_:rs.length<=9000000) (_:∀q f,G q=none->f q=some (.lst ((iO rs).map Row.d))->aA G f->R (.tup [h,.ref q]) f):rN
inductive vw:Prop
 | mk (row:Row) (a:Nat) (_:ds=[row.d,.int (a:Int)]) (_:R (mv a row).d G):vw
inductive rZ:Prop
 | mk (g:Addr) (cs:List cQ) (_:ds=[.ref g]) (_:G g=some (.lst (cs.map cQ.d))) (_:(∀c∈cs,G c.ra=some (.lst (c.rs.map Row.d))/\c.rs.length<=4000)) (_:0<cs.length) (_:cs.length<=2100) (_:∀q f,G q=none->f q=some (.lst ((jx [] (cs.map cQ.rs)).map Row.d))->aA G f->R (.tup [.int (tP cs:Int),.ref q]) f):rZ
inductive vq:Prop
 | mk (h:D) (g bx:Addr) (rs:List Row) (bs:List Int) (s most sz:Nat) (_:ds=[.tup [h,.ref g],.ref bx,.int (s:Int),.int (most:Int)]) (_:G g=some (.lst (rs.map Row.d))) (_:G bx=some (.lst (bs.map .int))) (_:gF sz rs bs s) (_:Pairs rs) (_:∀q f,G q=none->f q=some (.lst ((rn false rs most s bs).2.2.map .int))->aA G f->R (outD false rs (rn false rs most s bs) q) f):vq
def add_l{G:Gp}{a b:Addr}{xs ys:List D}{q:DK}(h1:G a=some (.lst xs))(g:G b=some (.lst ys))(f:xs.length+ys.length<=10000001)(k:∀p,G p=none->q (.ref p) (aH G p (.lst (xs++ys)))):mN (.ref a) (.ref b) G q:=by show(match G a,G b with|some (.lst xs),some (.lst ys)=>xs.length+ys.length<=sizeLine/\∀p,G p=none->q (.ref p) (aH G p (.lst (xs++ys)))|_,_=>False);rw[h1,g];exact⟨D5 f ∅,k⟩
inductive fJ(dp:Nat)(ds:List D)(G:Gp)(R:DK):Prop
 | mk (rs:List av) (_:ds=[.tup (cq rs)]) (_:bj rs<dp) (_:dw rs<=1000) (_:jV rs) (_:∀(q:Addr) (f:Gp),G q=none->f q=some (.lst (cq (aW rs)))->aA G f->R (.ref q) f):fJ dp ds G R
def xd5:gi:=fJ 8
def xe5{n:Nat}:n<*T.gV.1<*fJ 0:=Nu (by rintro ds G R ⟨_,_,h,_⟩;omega)
inductive mm(dp:Nat)(ds:List D)(G:Gp)(R:DK):Prop
 | mk (r:av) (_:ds=[gM r]) (_:j8 r<=dp) (_:qP r<=1000) (_:EN r) (_:∀(q:Addr) (f:Gp),G q=none->f q=some (.lst (cq (iX r)))->aA G f->R (.ref q) f):mm dp ds G R
inductive rT:Prop
 | mk (x y:D) (rs:List av) (_:ds=[.tup [x,y,.tup (cq rs)]]) (_:bj rs<=6) (_:dw rs<=1000) (_:jV rs) (_:∀(q:Addr) (f:Gp),G q=none->f q=some (.lst (cq (aW rs)))->aA G f->R (.ref q) f):rT
theorem rD:∀{a b:List av},jV (a++b)↔jV a/\jV b
 | [],b=>by simp[jV]| r::a,b=>by show EN r/\jV (a++b)↔(EN r/\jV a)/\jV b;rw[rD,and_assoc]
def gd(ks:List Nat)(n:Nat):Prop:=ks≠[]/\(∀k∈ks,1<=k)/\ks.sum=n
def nI(ks:List Nat):List Int:=ks.map λ(k:Nat)=>(k:Int)
theorem w33:∀ks:List Nat,(nI ks).sum=((ks.sum:Nat):Int)
 | []=>rfl| k::ks=>by have:=w33 ks;show(k:Int)+(nI ks).sum=_;rw[this,K9];omega
def ij:List Nat->List av->List (List av)
 | [],_=>[]| c::f,O=>O.take c::ij f (O.drop c)
theorem v22:∀(l:List Nat) (c:Nat) (O:List av),ij (l++[c]) O=ij l O++[(O.drop l.sum).take c]
 | [],c,O=>rfl| k::l,c,O=>by
  show O.take k::ij (l++[c]) (O.drop k)=O.take k::ij l (O.drop k)++[_]
  rw[v22 l c,List.drop_drop,K9];rfl
theorem NO:∀(l:List Nat) (O:List av),l.sum<=O.length->(ij l O).map J5=l
 | [],O,_=>rfl| k::l,O,h=>by rw[K9] at h;show(O.take k).length::(ij l (O.drop k)).map J5=k::l;rw[NO l _ (by rw[Y4];omega),Q6,B54 ()]
def kh(G:Gp):List Addr->List (List av)->Prop
 | [],f=>f=[]| a::as,f=>∃p t,f=p::t/\G a=some (.lst (cq p))/\kh G as t
theorem kh.kp{G f:Gp}(g:∀a o,G a=some o->f a=some o):∀{as:List Addr} {ps:List (List av)},kh G as ps->kh f as ps
 | [],_,h=>h| _::_,_,⟨p,t,e,h,r⟩=>#[p,t,e,g _ _ h,r.kp g]
theorem kh.Et{G f:Gp}:∀{as:List Addr} {ps:List (List av)},(∀a∈as,∀o,G a=some o->f a=some o)->kh G as ps->kh f as ps
 | [],_,_,h=>h| a::_,_,g,⟨p,t,e,h,r⟩=>#[p,t,e,g a C6 _ h,r.Et λb i=>g b (C2 _ i)]
theorem kh.snoc{G:Gp}{a:Addr}{p:List av}(h1:G a=some (.lst (cq p))):∀{as:List Addr} {ps:List (List av)},kh G as ps->kh G (as++[a]) (ps++[p])
 | [],_,h=>by rw[show _=[] from h];exact#[p,[],rfl,h1,rfl]| _::_,_,⟨f,t,e,h,r⟩=>by rw[e];exact#[f,t++[p],rfl,h,r.snoc h1]
theorem kh.len{G:Gp}:∀{as:List Addr} {ps:List (List av)},kh G as ps->as.length=ps.length
 | [],_,h=>by rw[show _=[] from h];rfl| _::_,_,⟨f,t,e,h,r⟩=>by rw[e,C1,C1,r.len]
def wo8{O:List av}{a c:Nat}(h:a+c<=O.length):cutD (cq O) (some (a:Int)) (some ((a:Int)+(c:Int)))=cq ((O.drop a).take c):=by
 have g:HT.bU (cq O).length 0 (some (a:Int))=a:=by have:=ye O;simp only[HT.bU];split <;> omega
 have f:HT.bU (cq O).length (cq O).length (some ((a:Int)+(c:Int)))=a+c:=by have:=ye O;simp only[HT.bU];split <;> omega
 unfold cutD;rw[g,f,yg,yg,<- C76,<- C77,A38]
def vl3{f:Type}{xs:List f}{n:Nat}:cutD xs (some (n:Int)) none=xs.drop n:=by
 unfold cutD;rw[HT.mZ,HT.lT];rcases C87 n xs.length with h|h
 .rw[B54 h,Z2 (by rw[Y4];omega)]
 .rw[C13 h,B45 (B9 _),B45 h,List.take_nil]
inductive oU:Prop
 | mk (s:Nat) (b:Bool) (_:ds=[.int (s:Int),.bl b]) (_:s<=100) (_:∀f,aA G f->R (.int (fR s b:Int)) f):oU
inductive jG:Prop
 | mk (a:Addr) (w:List Pm) (_:ds=[.ref a]) (_:G a=some (.lst (w.map cO))) (_:w.length<=10000) (_:∀q f,G q=none->f q=some (.lst ((mJ w).map cO))->aA G f->R (.ref q) f):jG
inductive eB(dp:Nat)(ds:List D)(G:Gp)(R:DK):Prop
 | mk (st:Addr) (f l s:Nat) (b:Bool) (_:ds=[.ref st,.int (f:Int),.int (l:Int),.int (s:Int),.bl b]) (_:cF G st) (_:f<l) (_:l-f<=dp) (_:l<=24) (_:l-f<=fR s b) (_:s<=8) (_:∀(q:Addr) (w:List Mv) (g:Gp),cI st G g->G q=none->q≠st->g q=some (.lst (w.map mD))->oO f l s b w->w.length<=(l-f)*(l-f)->R (.ref q) g):eB dp ds G R
def xd8:gi:=eB 26
inductive rW:Prop
 | mk (a:Addr) (m n s:Nat) (_:ds=[.ref a,.int (n:Int),.int (s:Int)]) (_:G a=some (.lst ((d6 m).map .int))) (_:n<=24) (_:m<2^n) (_:∀(q:Addr) (ps:List Mv) (f:Gp),G q=none->f q=some (.lst (ps.map mD))->(∀p,p∈ps↔kC n s m p)->ps.length<=1000->aA G f->R (.ref q) f):rW
inductive rY:Prop
 | mk (a:Addr) (m:Nat) (p:Mv) (_:ds=[.ref a,mD p]) (_:G a=some (.lst ((d6 m).map .int))) (_:yz m (some p)) (_:∀(q:Addr) (f:Gp),G q=none->f q=some (.lst ((d6 (xr m p.2)).map .int))->aA G f->R (.ref q) f):rY
inductive rX:Prop
 | mk (st a:Addr) (w:List Mv) (n s:Nat) (_:ds=[.ref st,.ref a,.int (n:Int),.int (s:Int)]) (_:cF G st) (_:a≠st) (_:G a=some (.lst (w.map mD))) (_:fP n s 0 w) (_:1<=n) (_:n<=24) (_:1<=s) (_:w.length<=140) (_:∀(q:Addr) (u:List Mv) (f:Gp),cI st G f->G q=none->q≠st->f q=some (.lst (u.map mD))->fP n s 0 u->fin 0 u=fin 0 w->u.length<=1000->R (.ref q) f):rX
inductive vJ:Prop
 | mk (st:Addr) (n s:Nat) (b:Bool) (_:ds=[.ref st,.int (n:Int),.int (s:Int),.bl b]) (_:cF G st) (_:1<=n) (_:n<=11) (_:1<=s) (_:s<=8) (_:n<=fR s b) (_:∀(q:Addr) (w:List Pm) (f:Gp),cI st G f->G q=none->q≠st->f q=some (.lst (w.map cO))->kg n s b w->w.length<=2001->R (.ref q) f):vJ
inductive vH:Prop
 | mk (st:Addr) (b:Bool) (most:Nat) (_:ds=[.ref st,.bl b,.int (most:Int)]) (_:cF G st) (_:1<=most) (_:most<=24) (_:∀(n s:Nat) (f:Gp),cI st G f->1<=n->n<=most->1<=s->s<=8->n<=fR s b->R (.tup [.int (n:Int),.int (s:Int)]) f):vH
def Ru{G:Gp}{s:Nat}{b:Bool}{q:DK}(g:s<=100)(k:∀f,aA G f->q (.int (fR s b:Int)) f):∃R,oU [.int (s:Int),.bl b] G R/\∀d f,R d f->q d f:=jR (post:=λd f=>d=.int (fR s b:Int)/\aA G f) (λR h=>#[s,b,rfl,g,λf x=>h _ _ #[rfl,x]]) λd f ⟨e,x⟩=>by subst e;exact k f x
def xl1{G:Gp}{a:Addr}{w:List Pm}{q:DK}(h:G a=some (.lst (w.map cO)))(i:w.length<=10000)(k:∀g f,G g=none->f g=some (.lst ((mJ w).map cO))->aA G f->q (.ref g) f):∃R,jG [.ref a] G R/\∀d f,R d f->q d f:=jR (post:=λd f=>∃g,d=.ref g/\G g=none/\f g=some (.lst ((mJ w).map cO))/\aA G f) (λR j=>#[a,w,rfl,h,i,λg f x y z=>j _ _ #[g,rfl,x,y,z]]) λd f ⟨g,e,x,y,z⟩=>by subst e;exact k g f x y z
def Oi{G:Gp}{a:Addr}{w:List Mv}{q:DK}(h:G a=some (.lst (w.map mD)))(i:w.length<=10000)(k:∀g f,G g=none->f g=some (.lst ((fS w).map mD))->aA G f->q (.ref g) f):∃R,jG [.ref a] G R/\∀d f,R d f->q d f:=xl1 (w:=w.map some) (by rw[Gq];exact h) (by rw[B0];exact i) λg f x y z=>k g f x (by rw[Vf,Gq] at y;exact y) z
def M_{G:Gp}{st:Addr}{f l s dp:Nat}{b:Bool}{q:DK}(S:cF G st)(h1:f<l)(x:l-f<=dp)(u:l<=24)(t:l-f<=fR s b)(r:s<=8)(k:∀(g:Addr) (w:List Mv) (h:Gp),cI st G h->G g=none->g≠st->h g=some (.lst (w.map mD))->oO f l s b w->w.length<=(l-f)*(l-f)->q (.ref g) h):∃R,eB dp [.ref st,.int (f:Int),.int (l:Int),.int (s:Int),.bl b] G R/\∀d h,R d h->q d h:=jR (post:=λd h=>∃(g:Addr) (w:List Mv),d=.ref g/\cI st G h/\G g=none/\g≠st/\h g=some (.lst (w.map mD))/\oO f l s b w/\w.length<=(l-f)*(l-f)) (λR y=>#[st,f,l,s,b,rfl,S,h1,x,u,t,r,λg w h p o n m j i=>y _ _ #[g,w,rfl,p,o,n,m,j,i]]) λd h ⟨g,w,e,p,o,n,m,j,i⟩=>by subst e;exact k g w h p o n m j i
def wp3{G:Gp}{a:Addr}{m n s:Nat}{q:DK}(u:G a=some (.lst ((d6 m).map .int)))(r:n<=24)(t:m<2^n)(k:∀(g:Addr) (ps:List Mv) (f:Gp),G g=none->f g=some (.lst (ps.map mD))->(∀p,p∈ps↔kC n s m p)->ps.length<=1000->aA G f->q (.ref g) f):∃R,rW [.ref a,.int (n:Int),.int (s:Int)] G R/\∀d f,R d f->q d f:=jR (post:=λd f=>∃(g:Addr) (ps:List Mv),d=.ref g/\G g=none/\f g=some (.lst (ps.map mD))/\(∀p,p∈ps↔kC n s m p)/\ps.length<=1000/\aA G f) (λR x=>#[a,m,n,s,rfl,u,r,t,λg ps f o l j i h=>x _ _ #[g,ps,rfl,o,l,j,i,h]]) λd f ⟨g,ps,e,o,l,j,i,h⟩=>by subst e;exact k g ps f o l j i h
def VD{G:Gp}{a:Addr}{m:Nat}{p:Mv}{q:DK}(i:G a=some (.lst ((d6 m).map .int)))(h:yz m (some p))(k:∀(g:Addr) (f:Gp),G g=none->f g=some (.lst ((d6 (xr m p.2)).map .int))->aA G f->q (.ref g) f):∃R,rY [.ref a,mD p] G R/\∀d f,R d f->q d f:=jR (post:=λd f=>∃g,d=.ref g/\G g=none/\f g=some (.lst ((d6 (xr m p.2)).map .int))/\aA G f) (λR j=>#[a,m,p,rfl,i,h,λg f x y z=>j _ _ #[g,rfl,x,y,z]]) λd f ⟨g,e,x,y,z⟩=>by subst e;exact k g f x y z
def Rv{G:Gp}{st a:Addr}{w:List Mv}{n s:Nat}{q:DK}(S:cF G st)(t:a≠st)(B:G a=some (.lst (w.map mD)))(hw:fP n s 0 w)(y:1<=n)(r:n<=24)(x:1<=s)(A:w.length<=140)(k:∀(f:Addr) (u:List Mv) (g:Gp),cI st G g->G f=none->f≠st->g f=some (.lst (u.map mD))->fP n s 0 u->fin 0 u=fin 0 w->u.length<=1000->q (.ref f) g):∃R,rX [.ref st,.ref a,.int (n:Int),.int (s:Int)] G R/\∀d g,R d g->q d g:=jR (post:=λd g=>∃(f:Addr) (u:List Mv),d=.ref f/\cI st G g/\G f=none/\f≠st/\g f=some (.lst (u.map mD))/\fP n s 0 u/\fin 0 u=fin 0 w/\u.length<=1000) (λR C=>#[st,a,w,n,s,rfl,S,t,B,hw,y,r,x,A,λf u g p o m l j i h=>C _ _ #[f,u,rfl,p,o,m,l,j,i,h]]) λd g ⟨f,u,e,p,o,m,l,j,i,h⟩=>by subst e;exact k f u g p o m l j i h
def xe6{n:Nat}:n<*T.gW.1<*eB 0:=Nu (by rintro ds G R ⟨st,f,l,s,b,_,_,h,g,_⟩;omega)
inductive oR:Prop
 | mk (k:Nat) (_:ds=[.int (k:Int)]) (_:k<=1000) (_:(k=0->R (.int 0) G)) (_:(∀i,k=i+1->R (.int (1*2^i)) G)):oR
inductive rV:Prop
 | mk (b m:Nat) (_:ds=[.int (m:Int)]) (_:m<2^b) (_:R (.int (pc b m:Int)) G):rV
inductive r9:Prop
 | mk (p:Pm) (m:Nat) (_:ds=[cO p,.int (m:Int)]) (_:yz m p) (_:R (.int (iY m p:Int)) G):r9
inductive rR:Prop
 | mk (a:Addr) (w:List Pm) (_:ds=[.ref a]) (_:G a=some (.lst (w.map cO))) (_:mB 0 w) (_:w.length<=3000) (_:∀q f,G q=none->f q=some (.lst ((0::gw 0 w).map nD))->aA G f->R (.ref q) f):rR
inductive vA:Prop
 | mk (a:Addr) (w:List Pm) (_:ds=[.ref a]) (_:G a=some (.lst (w.map cO))) (_:mB 0 w) (_:w.length<=3000) (_:∀(M:Int) f,M∈((0::gw 0 w).map λm=>(cnt 24 m:Int))->(∀z∈((0::gw 0 w).map λm=>(cnt 24 m:Int)),z<=M)->aA G f->R (.int M) f):vA
def gn(pl:List Int):List Pm->Int
 | []=>0| none::r=>gn pl r| some p::r=>pl.getD (p.2-1) 0+gn pl r
inductive vf:Prop
 | mk (a b:Addr) (w:List Pm) (pl:List Int) (_:ds=[.ref a,.ref b]) (_:G a=some (.lst (w.map cO))) (_:G b=some (.lst (pl.map .int))) (_:w.length<=3000) (_:(∀p,some p∈w->1<=p.2/\p.2<=pl.length)) (_:∀f,aA G f->R (.int (gn pl w)) f):vf
def wp6{G:Gp}{a:Addr}{w:List Pm}{q:DK}(h:G a=some (.lst (w.map cO)))(i:mB 0 w)(j:w.length<=3000)(k:∀g f,G g=none->f g=some (.lst ((0::gw 0 w).map nD))->aA G f->q (.ref g) f):∃R,rR [.ref a] G R/\∀d f,R d f->q d f:=jR (post:=λd f=>∃g,d=.ref g/\G g=none/\f g=some (.lst ((0::gw 0 w).map nD))/\aA G f) (λR l=>#[a,w,rfl,h,i,j,λg f x y z=>l _ _ #[g,rfl,x,y,z]]) λd f ⟨g,e,x,y,z⟩=>by subst e;exact k g f x y z
theorem NW{pl:List Int}:∀{l r:List Pm},gn pl (l++r)=gn pl l+gn pl r
 | [],r=>by show gn pl r=0+gn pl r;omega| none::l,r=>by show gn pl (l++r)=gn pl l+gn pl r;exact NW| some p::l,r=>by show _+gn pl (l++r)=(_+gn pl l)+gn pl r;rw[NW];omega
inductive oQ:Prop
 | mk (k m:Nat) (_:ds=[.int (k:Int),.int (m:Int)]) (_:k<=1000) (_:R (.bl (ui k m)) G):oQ
def MZ{G:Gp}{k m:Nat}{q:DK}(h:k<=1000)(g:q (.bl (ui k m)) G):∃R,oQ [.int (k:Int),.int (m:Int)] G R/\∀d f,R d f->q d f:=gp (v:=.bl (ui k m)) (G1:=G) (λR i=>#[k,m,rfl,h,i]) g
inductive vB:Prop
 | mk (p:Mv) (m n s:Nat) (_:ds=[mD p,.int (m:Int),.int (n:Int),.int (s:Int)]) (_:kC n s m p) (_:n<=1000) (_:m<2^n) (_:R (.bl true) G):vB
inductive r8:Prop
 | mk (a:Addr) (w:List Pm) (n s:Nat) (b:Bool) (_:ds=[.ref a,.int (n:Int),.int (s:Int)]) (_:G a=some (.lst (w.map cO))) (_:kg n s b w) (_:1<=n) (_:n<=24) (_:w.length<=3000) (_:R (.str (if b then "left" else "shown")) G):r8
inductive rP:Prop
 | mk (x y:D) (rs:List av) (g:Addr) (ks:List Nat) (_:ds=[.tup [x,y,.tup (cq rs)],.ref g]) (_:G g=some (.lst ((nI ks).map .int))) (_:bj rs<=6) (_:dw rs<=1000) (_:jV rs) (_:ks.length<=1000) (_:gd ks (aW rs).length) (_:∀(q:Addr) (as:List Addr) (f:Gp),G q=none->(∀a∈as,G a=none)->(∀a∈as,a≠q)->f q=some (.lst (as.map .ref))->kh f as (ij ks (aW rs))->aA G f->R (.ref q) f):rP
inductive vp:Prop
 | mk (s m:Nat) (_:ds=[.int (s:Int),.int (m:Int)]) (_:m<=1000) (_:∀(q:Addr) (f:Gp),G q=none->f q=some (.lst (((E6 m).map λj=>Row.add (m+j) (.box (s+j))).map Row.d))->aA G f->R (.tup [.int ((s+m:Nat):Int),.ref q]) f):vp
def xd3:gi:=λds G R=>∃(a:Addr) (f:List Int),ds=[.ref a]/\G a=some (.sV (f.map .int))/\f.length<=63/\∀g,R (.bl true) g
inductive vF:Prop
 | mk (s m:Nat) (_:ds=[.int (s:Int),.int (m:Int)]) (_:m<=1000) (_:∀(q:Addr) (f:Gp),G q=none->f q=some (.lst (((E6 m).map λj=>Row.swap (m+j) (s+j)).map Row.d))->aA G f->R (.tup [.int ((s+m:Nat):Int),.ref q]) f):vF
inductive vC:Prop
 | mk (pc:Addr) (W:Nat) (bs:List Str) (rs:List av) (x:D) (_:ds=[.ref pc,.tup [.int (W:Int),.tup (bs.map .str),x]]) (_:G pc=some (.lst (cq rs))) (_:ke W bs rs) (_:∀f,aA G f->R (.int ((2*iu W bs rs+bs.length:Nat):Int)) f):vC
inductive vP:Prop
 | mk (W:Nat) (bs:List Str) (rs:List av) (g:Addr) (ks:List Nat) (_:ds=[.tup [.int (W:Int),.tup (bs.map .str),.tup (cq rs)],.ref g]) (_:G g=some (.lst ((nI ks).map .int))) (_:bj rs<=6) (_:dw rs<=1000) (_:jV rs) (_:ks.length<=1000) (_:gd ks (aW rs).length) (_:(∀p∈ij ks (aW rs),ke W bs p)) (_:∀(q:Addr) (f:Gp),G q=none->f q=some (.lst (((ij ks (aW rs)).map (pG W bs)).map .int))->aA G f->R (.ref q) f):vP
def Sd(add:Bool):Str:=if add=true then "add" else "take"
inductive vD:Prop
 | mk (add:Bool) (pc:Addr) (W:Nat) (bs:List Str) (rs:List av) (x:D) (f aM fr:Nat) (_:ds=[.str (Sd add),.ref pc,.tup [.int (W:Int),.tup (bs.map .str),x],.int (f:Int),.int (aM:Int),.int (fr:Int)]) (_:G pc=some (.lst (cq rs))) (_:ke W bs rs) (_:1<=W) (_:22*bZ rs<=1760) (_:f+bs.length<=fr) (_:fr<=1000) (_:aM<=1000) (_:∀(q:Addr) (g:Gp),G q=none->g q=some (.lst ((iZ add W bs rs f aM fr).map Row.d))->aA G g->R (.tup [.int ((bt W bs rs 0 (bR f bs.length) fr).2.2.1:Int),.ref q]) g):vD
inductive vy:Prop
 | mk (mv:D) (pc:Addr) (W:Nat) (bs:List Str) (rs:List av) (x:D) (f aM fr:Nat) (rows:List Row) (sz:Nat) (_:ds=[mv,.ref pc,.tup [.int (W:Int),.tup (bs.map .str),x],.int (f:Int),.int (aM:Int),.int (fr:Int)]) (_:G pc=some (.lst (cq rs))) (_:ke W bs rs) (_:1<=W) (_:22*bZ rs<=1760) (_:f+bs.length<=fr) (_:fr<=1000) (_:aM<=1000) (_:o7 W bs rs f aM fr mv rows sz) (_:∀(q:Addr) (g:Gp),G q=none->g q=some (.lst (rows.map Row.d))->aA G g->R (.tup [.int (sz:Int),.ref q]) g):vy
def vT(n:Nat)(mv:D)(k:Nat):Prop:=mv=uy "lay" k\/mv=uy "clear" k\/mv=.tup [.str "show"]/\k=n
def vT.key{n k:Nat}{mv:D}(h:vT n mv k):∃mk:List Key,mv=.tup (mk.map kD):=by
 rcases h with rfl|rfl|⟨rfl,rfl⟩
 .exact⟨[.inr "lay",.inl (k:Int)],rfl⟩
 .exact⟨[.inr "clear",.inl (k:Int)],rfl⟩
 .exact⟨[.inr "show"],rfl⟩
def vT.uni{n k f:Nat}{mv:D}(h:vT n mv k)(h':vT n mv f):k=f:=by rcases h with rfl|rfl|⟨rfl,rfl⟩ <;> rcases h' with e|e|⟨e,h⟩ <;> simp[uy] at e <;> omega
def vT.code{n k:Nat}{mv:D}(h:vT n mv k)(W:Nat)(bs:List Str)(rs:List av)(f aM fr:Nat):∃rows sz,o7 W bs rs f aM fr mv rows sz:=by
 rcases h with rfl|rfl|⟨rfl,rfl⟩
 .exact⟨_,_,.lay⟩
 .exact⟨_,_,.clear⟩
 .exact⟨_,_,.kz⟩
theorem kh.get{G:Gp}:∀{as:List Addr} {ps:List (List av)} {i:Nat},kh G as ps->i<ps.length->∃a,as[i]?=some a/\G a=some (.lst (cq (ps.getD i [])))
 | [],ps,i,h,hi=>by have h:ps=[]:=h;subst h;cases hi
 | a::as,ps,i,h,hi=>by
  let#[p,t,rfl,g,f]:=h;cases i with
  | zero=>exact#[a,rfl,g]| succ i =>let#[b,k,j]:=kh.get (i:=i) f (A47 hi);exact#[b,k,j]
def ws7{kvs:List (eY×D)}{k q:eY}{v d:D}(i:jQ kvs k=none)(h:jQ (zN kvs k v) q=some d):q=k/\d=v\/jQ kvs q=some d:=by
 have g:kvs.find? (λf=>decide (f.1=k))=none:=by unfold jQ at i;simpa using i
 have j:(kvs.any λf=>decide (f.1=k))=false:=by rw[QG];rw[A96] at g;exact g
 unfold zN at h;rw[j,if_neg ∅] at h;unfold jQ at h⊢;rw[C02] at h;cases e:kvs.find? (λf=>decide (f.1=q)) with
 | some x=>rw[e] at h;exact .inr h| none =>
  rw[e] at h;by_cases z:k=q
  .subst z;simp at h;exact .inl #[rfl,h.symm]
  .simp[z] at h
def vo6{kvs:List (eY×D)}{k:eY}{v:D}(h:jQ kvs k=none):jQ (zN kvs k v) k=some v:=by
 have f:kvs.find? (λg=>decide (g.1=k))=none:=by unfold jQ at h;simpa using h
 have i:(kvs.any λg=>decide (g.1=k))=false:=by rw[QG];rw[A96] at f;exact f
 unfold zN jQ;rw[i,if_neg ∅,C02,f];simp
theorem vc9:∀{ks:List Nat} {O p:List av},p∈ij ks O->∃a b,O=a++p++b
 | [],_,_,h=>nomatch h| k::ks,O,p,h=>by
  rcases D7.mp h with rfl|h
  .exact⟨[],O.drop k,by simp⟩
  .let#[a,b,e]:=vc9 h;exact#[O.take k++a,b,by rw[D4,D4,<- D4 a p b,<- e,List.take_append_drop]]
theorem ve9{B:Nat}:∀{cs:List cQ},(∀c∈cs,c.sz<=B)->tP cs<=B
 | [],_=>J4 _| c::cs,h=>Nat.max_le.mpr #[h c C6,ve9 λc f=>h c (C2 _ f)]
def dk{x f:Str}{st:Stmt}{ps N:List Str}{k:Nat}(d:FnAt K x f st ps){S:gi}(i:af N ps (bq st)){t:ic} (j:∀(g:Value) (A:Around) (outer:List Env) (s:Shared) (H:Hp) (E:XK),aU k (A.deeper (D18 f (bq st) s.heap.objs.size d.a g))->xD (qJ pK P w K mg base N f (bq st) d.a g A outer s H E).yB (qT st) t) (m:∀ds G R,S ds G R->t { nx:=λ_ n=>R .non n,rt:=R} (sF N ds) G) (l:∀ds G R,S ds G R->ds.length=ps.length:=by intro _ _ _ h;cases h;subst_vars;rfl):Ok P w mg base (k+1) d S:=DL d i l j m
def km{j k:Nat}(F:bD P w K mg base CX j f g ps sp)(h:j<=k:=by decide):bD P w K mg base CX k f g ps sp:=F.mono h
def ek{X:Cx}{e:Expr}{f:List Expr}{p pos:Pos}{h:eW}{k:Nat}{S:gi}{x:Str}{st:Stmt}{ps:List Str}{d:Fg X.K X.mg x st ps}(G:bD X.prog X.w X.K X.mg X.base pK k d.a d.fd ps (cJ X.K S))(j:aU k X.A)(n:A3 X (e::f) h)(l:Gl X x:=by rfl)(i:(x==("__debug__" :Str))=false:=by decide)
  (m:D1 (e::f) X.env=(false,eval e X.env)::D1 f X.env:=by rfl) (o:(backTo pos (D1 f X.env)).any (·.1)=false:=by rfl):E3 X (.Call (.Name x p) (e::f) [] pos) (iT S [] h):=ec d.1 d.g G j n l i m o
def fc(m:Nat)(f:List (Nat×Nat)):List (Key×D):=f.map λx=>(N6 (x.1:Int),.int (((x.2+2)*m:Nat):Int))
def w75(m:Nat)(f:List (Nat×Nat)):(fc m f).map (·.2)=(f.map λx=>(((x.2+2)*m:Nat):Int)).map D.int:=by unfold fc;rw[P9,P9];rfl
def Bt(m:Nat)(f:List (Nat×Nat)):(fc m f).map (·.1)=(f.map λx=>(x.1:Int)).map N6:=by unfold fc;rw[P9,P9];rfl
def UX(m:Nat)(f:List (Nat×Nat)):(fc m f).length=f.length:=B0 _
def vb6(m:Nat)(a b:List (Nat×Nat)):fc m (a++b)=fc m a++fc m b:=B7
structure pI(M B:Nat)(sl:List (Nat×Nat)):Prop where
 ks:sl.map (λx=>(x.1:Int))=d6 M
 nd:(sl.map (·.2)).Nodup
 lt:∀x∈sl,x.2<B
def pI.len{M B:Nat}{f:List (Nat×Nat)}(h:pI M B f):f.length=cnt 24 M:=by rw[<- NM,<- h.ks,B0]
def jF(G:Gp)(m B:Nat):List Addr->List Nat->Prop
 | [],f=>f=[]| a::as,f=>∃M r g,f=M::r/\G a=some (.bM (fc m g))/\pI M B g/\jF G m B as r
theorem jF.kp{G f:Gp}{m B:Nat}:∀{as:List Addr} {ms:List Nat},(∀a∈as,∀o,G a=some o->f a=some o)->jF G m B as ms->jF f m B as ms
 | [],_,_,h=>h| a::as,_,g,h=>by let#[M,r,i,rfl,n,l,k]:=h;exact#[M,r,i,rfl,g a C6 _ n,l,jF.kp (λb j=>g b (C2 _ j)) k]
theorem jF.snoc{G:Gp}{m B M:Nat}{f:List (Nat×Nat)}{a:Addr}(h1:G a=some (.bM (fc m f)))(g:pI M B f):∀{as:List Addr} {ms:List Nat},jF G m B as ms->jF G m B (as++[a]) (ms++[M])
 | [],ms,h=>by have h:ms=[]:=h;subst h;exact#[M,[],f,rfl,h1,g,rfl]| b::as,_,h=>by let#[l,r,i,rfl,e,k,j]:=h;exact#[l,r++[M],i,rfl,e,k,jF.snoc h1 g j]
theorem jF.len{G:Gp}{m B:Nat}:∀{as:List Addr} {ms:List Nat},jF G m B as ms->as.length=ms.length
 | [],ms,h=>by have h:ms=[]:=h;subst h;rfl| b::as,_,h=>by let#[j,r,g,rfl,e,i,f]:=h;exact congrArg (·+1) (jF.len f)
theorem v20:∀{i:Nat} {js:List Nat},(∀j,j<i->j∈js)->i<=js.length
 | 0,_,_=>J4 _| i+1,js,h=>by have l:=v20 (i:=i) (js:=js.erase i) λj f=>(List.mem_erase_of_ne ()).mpr (h j ());have k:=List.length_erase_of_mem (h i (S9 i));have g:0<js.length:=A48 (h i (S9 i));omega
inductive vO:Prop
 | mk (a:Addr) (m:Nat) (g:List (Nat×Nat)) (_:ds=[.ref a,.int (m:Int)]) (_:1<=m) (_:m<=1000) (_:g.length<=60) (_:G a=some (.bM (fc m g))) (_:∀(f:Nat) (h:Gp),f∉g.map (·.2)->f<=g.length->aA G h->R (.int (((f+2)*m:Nat):Int)) h):vO
inductive vm:Prop
 | mk (a:Addr) (m M B:Nat) (g:List (Nat×Nat)) (p:Pm) (_:ds=[cO p,.ref a,.int (m:Int)]) (_:1<=m) (_:m<=1000) (_:G a=some (.bM (fc m g))) (_:pI M B g) (_:yz M p) (_:cnt 24 (iY M p)<=B) (_:∀(q:Addr) (h:List (Nat×Nat)) (f:Gp),G q=none->f q=some (.bM (fc m h))->pI (iY M p) B h->aA G f->R (.ref q) f):vm
inductive vn:Prop
 | mk (g:Addr) (m B:Nat) (w:List Pm) (_:ds=[.ref g,.int (m:Int)]) (_:G g=some (.lst (w.map cO))) (_:1<=m) (_:m<=1000) (_:w.length<=3000) (_:mB 0 w) (_:(∀x∈gw 0 w,cnt 24 x<=B)) (_:∀(q:Addr) (as:List Addr) (f:Gp),G q=none->(∀a∈as,G a=none)->(∀a∈as,a≠q)->f q=some (.lst (as.map .ref))->jF f m B as (0::gw 0 w)->aA G f->R (.ref q) f):vn
theorem Og:∀{kvs:List (Key×D)} {k:Key} {v:D},(kvs.map (·.1)).Nodup->(k,v)∈kvs->dI kvs k=some v
 | (g,i)::r,k,v,f,h=>by
  unfold dI;rw[M6];rcases D7.mp h with e|h
  .cases e;simp
  .have f:=O1.mp f;have ne:¬ g=k:=λe=>f.1 (by rw[e];exact D6.mpr #[_,h,rfl]);rw[decide_eq_false ne];exact Og f.2 h
def vo7{kvs:List (Key×D)}{k:Key}(h:k∉kvs.map (·.1)):dI kvs k=none:=by
 unfold dI;rw[A96.mpr]
 .rfl
 .intro g f;rw[decide_eq_true_eq];rintro rfl;exact h (D6.mpr #[_,f,rfl])
def vm8{kvs:List (Key×D)}{k:Key}(h:k∉kvs.map (·.1)):(kvs.any λf=>decide (f.1=k))=false:=by rw[QG];intro f g;rw[decide_eq_true_eq];rintro rfl;exact h (D6.mpr #[_,g,rfl])
theorem ut8:∀{kvs acc:List (Key×D)},((acc++kvs).map (·.1)).Nodup->tK (kvs.map (·.1)) (kvs.map (·.2)) acc=acc++kvs
 | [],acc,_=>(D9 acc).symm| (k,v)::r,acc,h=>by
  have f:k∉acc.map (·.1):=by rw[B7,C0] at h;intro z;exact(Z9.mp h).2.2 _ z _ C6 rfl
  show tK (r.map (·.1)) (r.map (·.2)) (mR acc k v)=_;unfold mR;rw[vm8 f,if_neg ∅,ut8 (by rw[D4];exact h),D4];rfl
def Np{ns:List Int}(h:ns.Nodup):(ns.map (N6:Int->Key)).Nodup:=QF.mpr (h.imp λh e=>h (MB e))
theorem Ul:∀{h:List (Nat×Nat)} {x y:Nat×Nat},(h.map (·.2)).Nodup->x∈h->y∈h->x.2=y.2->x=y
 | z::r,x,y,g,i,f,e=>by
  have g:=O1.mp g;cases i with
  | head =>
   cases f with
   | head=>rfl| tail _ f=>exact(g.1 (D6.mpr #[_,f,e.symm])).elim
  | tail _ i =>
   cases f with
   | head=>exact(g.1 (D6.mpr #[_,i,e])).elim| tail _ f=>exact Ul g.2 i f e
def x81{f h:List (Nat×Nat)}(h1:(f.map λx=>(x.1:Int)).Nodup)(g:∀x∈f,x∈h)(k:(h.map (·.2)).Nodup):(f.map (·.2)).Nodup:=QF.mpr ((QF.mp h1).imp_of_mem λj i ne e=>ne (by rw[Ul k (g _ j) (g _ i) e]))
def pI.look{M B m:Nat}{f:List (Nat×Nat)}(h:pI M B f){k:Nat}(h1:1<=k)(o:k<=24)(n:d5 k M=true):∃j,(k,j)∈f/\j<B/\dI (fc m f) (N6 (k:Int))=some (.int (((j+2)*m:Nat):Int)):=by
 have l:(k:Int)∈f.map λx=>(x.1:Int):=by rw[h.ks];exact(x_ h1 o).mpr n
 let#[#[i,j],g,e]:=D6.mp l;obtain rfl:i=k:=by have e:(i:Int)=k:=e;omega
 apply#[j,g,h.lt _ g,Og ?_ (D6.mpr #[_,g,rfl])];rw[Bt,h.ks];exact Np (yc c8)
def pI.get{M B m k j:Nat}{g:List (Nat×Nat)}(h:pI M B g)(r:(k,j)∈g){z:Int}(p:z≠k):∃f:Nat,(dI (fc m g) (N6 z)).getD (.int 0)=.int (f:Int)/\(f=0\/∃i,i<B/\i≠j/\f=(i+2)*m):=by
 by_cases n:z∈g.map λx=>(x.1:Int)
 .let#[x,l,rfl]:=D6.mp n;apply#[(x.2+2)*m,?_,.inr #[x.2,h.lt _ l,λe=>?_,rfl]]
  .rw[Og (kvs:=fc m g) (v:=.int (((x.2+2)*m:Nat):Int)) (by rw[Bt,h.ks];exact Np (yc c8)) (D6.mpr #[x,l,rfl])];rfl
  .have:=Ul h.nd l r e;subst this;exact p rfl
 .apply#[0,?_,.inl rfl];rw[vo7]
  .rfl
  .rw[Bt];intro o;let#[y,q,e]:=D6.mp o;obtain rfl:=MB e;exact n q
def apart{i j m B fr:Nat}(hi:i<B)(f:fr=(2+B)*m):(i+2)*m+m<=fr/\2*m<=(i+2)*m/\(i≠j->(i+2)*m+m<=(j+2)*m\/(j+2)*m+m<=(i+2)*m):=by
 subst f;apply#[?_,M4 _ (),λh=>?_]
 .rw[<- W7];exact M4 _ ()
 .rcases Nat.lt_or_gt_of_ne h with h|h
  .left;rw[<- W7];exact M4 _ ()
  .right;rw[<- W7];exact M4 _ ()
structure tY(m:Nat)(c:cQ):Prop where
 pr:Pairs c.rs
 ok:∀r∈c.rs,r.ok c.sz
 ln:c.rs.length<=4000
 s1:m<=c.sz
 s2:c.sz<=2000
structure Zh(W:Nat)(bs:List Str)(PP:List (List av)):Prop where
 ok:∀p∈PP,ke W bs p/\22*bZ p<=1760
 hW:1<=W
 hb:1<=bs.length
 xo:bs.length<=6
def o7.gd{W:Nat}{bs:List Str}{rs:List av}{f aM fr sz:Nat}{a:Addr}{mv:D}{rows:List Row}(ok:ke W bs rs)(O:22*bZ rs<=1760)(h1:1<=bs.length)(m:f+bs.length<=fr)(J:aM+bs.length<=fr)(Q:2*bs.length<=aM)(M:f+bs.length<=aM\/aM+bs.length<=f)(L:fr<=800)(t:o7 W bs rs f aM fr mv rows sz):tY bs.length ⟨sz,a,rows⟩:=by
 have N:=ok.nb;have key:∀add,tY bs.length ⟨(bt W bs rs 0 (bR f bs.length) fr).2.2.1,a,iZ add W bs rs f aM fr⟩:=by
  intro add;let#[B,q,A]:=vx5 ok m;let#[k,l,y]:=sG (a:=0) ok.hW rs ok.ok ok.nt (Oe f bs.length) (fr:=fr) (λp i=>UY m i);have o:=tL (a:=0) (fr:=fr) ok.hW ok.nb rs ok.ok ok.nt (Oe f bs.length);unfold iZ;generalize (bt W bs rs 0 (bR f bs.length) fr)=Z at *;let#[I,H,E,_,_]:=o;have i:=k.pr.pairs;have n:=Nm (add:=add) (aM:=aM) (sz:=Z.2.2.1) (pl:=Z.2.1) (by rw[l];omega) λp i=>by have:=q p i;have:=y p i;rw[l];omega
  have u:(dr add aM Z.2.1).length=bs.length:=by unfold dr;rw[B0,J2,l]
  apply#[VH (Bz λ_ h=>nomatch h) λr g=>?_,Ud (λ_ h=>nomatch h) λr g=>?_,?_,by show bs.length<=Z.2.2.1;omega,by show Z.2.2.1<=2000;omega]
  .simp only[D7,Y7,or_false] at g;rcases g with rfl|rfl|rfl
   .exact i
   .exact Bz λr g=>Ed (n r g)
   .exact VL i
  .simp only[D7,Y7,or_false] at g;rcases g with rfl|rfl|rfl
   .exact k.ok
   .exact λr g=>DD (n r g) (B9 _)
   .exact Uu k.ok
  .show(jx _ _).length<=4000;rw[NI,C0,C0,C0,Ff,yb,u,K9,K9,K9,C88,W0];omega
 cases t with
 | lay=>exact key true| clear=>exact key false| kz =>
  apply#[Bz λr g=>?_,λr g=>?_,by show(Dr _ _).length<=4000;rw[B0,J2];omega,by show bs.length<=aM+bs.length;omega,by show aM+bs.length<=2000;omega]
  .let#[j,_,rfl]:=D6.mp g;rfl
  .let#[j,x,rfl]:=D6.mp g;have:=L0.mp x;exact#[by show bs.length+j<aM+bs.length;omega,by show aM+j<aM+bs.length;omega,()]
def Ag(fr:Nat)(c:cQ)(d:Nat):Prop:=∀(f:Nat) (X:List Int),c.sz<=f->Lv fr f X->∃g,Lv fr f g/\∀(h:List Row) (a:Nat),fB h a c.rs->fU h (a+c.rs.length) g a X d
def Ag.of{fr m:Nat}{c:cQ}(g:tY m c)(k:∀r∈c.rs,r.plain=true)(l:∀r∈c.rs,Ke (λi=>fr<=i) r):Ag fr c c.rs.length:=by intro sz X h L;have cd:gF sz c.rs X 0:=#[L.ok,λr j=>Vr (g.ok r j) h,J4 _];have e:=Oc (rs:=c.rs) k 0 c.rs 0 X rfl (L5 _);rw[MJ] at e;let#[_,_,_,f]:=Us g.pr l (n:=c.rs.length) cd #[rfl,λ_ _=>rfl];have c2:=FU (fw:=true) g.pr (n:=c.rs.length) cd;rw[e] at f c2;exact#[_,#[c2.bo,λi hi=>(f i hi).trans (L.z i hi)],λq a hw=>fU.seg hw g.pr cd e]
def duP(W:Nat)(bs:List Str)(f:List (List av)):Pm->Nat
 | none=>bs.length| some q=>2*iu W bs (f.getD (q.2-1) [])+bs.length
def sX(W:Nat)(bs:List Str)(f:List (List av))(w:List Pm):Nat:=(w.map (duP W bs f)).sum
def o7.rn{W:Nat}{bs:List Str}{rs:List av}{f aM fr sz d:Nat}{a:Addr}{p:Pm}{rows:List Row}(ok:ke W bs rs)(g:tY bs.length #[sz,a,rows])(A:f+bs.length<=fr)(x:aM+bs.length<=fr)(M:2*bs.length<=aM)(E:f+bs.length<=aM\/aM+bs.length<=f)(i:o7 W bs rs f aM fr (cO p) rows sz)(I:p=none->d=bs.length)(H:p≠none->d=2*iu W bs rs+bs.length):Ag fr #[sz,a,rows] d:=by
 have key:∀add,p≠none->sz=(bt W bs rs 0 (bR f bs.length) fr).2.2.1->rows=iZ add W bs rs f aM fr->Ag fr #[sz,a,rows] d:=by rintro add B rfl rfl s X u L;let#[J,t,q,o]:=v31 (add:=add) ok A x E u L.ok L.z;rw[H B];exact#[J,#[t,q],o]
 rcases p with _|⟨b,k⟩
 .obtain⟨N,n⟩:sz=aM+bs.length/\rows=(E6 bs.length).map λj=>Row.add (bs.length+j) (.box (aM+j)):=by have i:o7 W bs rs f aM fr (.tup [.str "show"]) rows sz:=i;cases i;exact#[rfl,rfl]
  have l:∀r∈rows,∃j,j<bs.length/\r=Row.add (bs.length+j) (.box (aM+j)):=λr l=>by rw[n] at l;let#[j,m,rfl]:=D6.mp l;exact#[j,L0.mp m,rfl]
  have C:rows.length=bs.length:=by rw[n,B0,J2]
  have:=Ag.of (fr:=fr) g (λr h=>by let#[j,_,rfl]:=l r h;rfl) λr h=>by let#[j,m,rfl]:=l r h;exact#[(),λy e=>by cases e;omega]
  rw[I rfl,<- C];exact this
 .cases b with
  | true =>have i:o7 W bs rs f aM fr (uy "lay" k) rows sz:=i;cases i;exact key true (by simp) rfl rfl
  | false =>have i:o7 W bs rs f aM fr (uy "clear" k) rows sz:=i;cases i;exact key false (by simp) rfl rfl
def wl6{m fr aM:Nat}{a:Addr}(g:tY m #[aM+m,a,(E6 m).map λi=>Row.swap (m+i) (aM+i)])(k:aM+m<=fr)(l:2*m<=aM):Ag fr #[aM+m,a,(E6 m).map λi=>Row.swap (m+i) (aM+i)] m:=by
 have:=Ag.of (fr:=fr) g (λr h=>by let#[j,_,rfl]:=D6.mp h;rfl) λr h=>by let#[j,f,rfl]:=D6.mp h;have:=L0.mp f;exact#[(),()]
 have e:((E6 m).map λi=>Row.swap (m+i) (aM+i)).length=m:=by rw[B0,J2]
 rw[show(#[aM+m,a,(E6 m).map λi=>Row.swap (m+i) (aM+i)]:cQ).rs.length=m from e] at this;exact this
inductive Af(fr:Nat):List cQ->Nat->Prop
 | z:Af fr [] 0
 | s {cs:List cQ} {c:cQ} {D d:Nat}:Af fr cs D->Ag fr c d->Af fr (cs++[c]) (D+d)
def WZ{r:Row}:mv 0 r=r:=by cases r <;> first|rfl|(show Row.go _ _ _=_;rw[L5])|(show Row.aP _ _ _=_;rw[L5])
theorem v38{c:List Row}:∀{L:List (List Row)} {acc:List Row},jx acc (L++[c])=dt (jx acc L) c
 | [],_=>rfl| x::L,acc=>v38 (L:=L) (acc:=dt acc x)
def Af.run{fr sz D:Nat}{cs:List cQ}(h:Af fr cs D):(∀c∈cs,c.sz<=sz)->∀{X:List Int},Lv fr sz X->∃i,Lv fr sz i/\∀(f:List Row) (a:Nat),fB f a (jx [] (cs.map cQ.rs))->fU f (a+(jx [] (cs.map cQ.rs)).length) i a X D:=by
 induction h with
 | z=>exact λ_ X L=>#[X,L,λf a _=>.done]| @s cs c D d h o l =>
  intro g X L;let#[q,t,f1]:=l (λx m=>g x (QP _ m)) L;let#[p,L2,f2]:=o sz q (g c (by simp)) t;apply#[p,L2,λf a hw=>?_];have e:jx [] ((cs++[c]).map cQ.rs)=dt (jx [] (cs.map cQ.rs)) c.rs:=by rw[B7];exact v38
  rw[e] at hw⊢;have k:=(fB.part (L:=[]) hw).1;rw[NZ,<- K8,P0 D d];exact fU.trans () (f2 f _ k) (f1 f a λj r n=>hw j r (UC n))
def fU.thr{rs:List Row}{z s d:Nat}{f bs:List Int}(i:z=rs.length)(h:fU rs z f s bs d):∀m,d<=m->rn true rs m s bs=(d,z,f):=by
 induction h with
 | done =>
  intro m _;subst i;cases m with
  | zero=>rfl| succ m=>exact ud (fw:=true) (n:=m+1) CP
 | @step s bs d h m t g =>
  intro n k;cases n with
  | zero=>omega| succ n =>have e:rn true rs n (cY true rs bs s).1 (cY true rs bs s).2=_:=g n ();rw[sD (fw:=true) m,e]
theorem fU.pre{rs:List Row}{z:Nat}{i:List Int}:∀{n s d:Nat} {bs:List Int},fU rs z i s bs d->n<=d->∃g b',rn true rs n s bs=(n,g,b')/\fU rs z i g b' (d-n)
 | 0,s,d,bs,h,_=>#[s,bs,rfl,h]| n+1,_,_,_,.done,j=>()| n+1,s,_,bs,.step (d:=d) _ m t,j=>by let#[g,b',e,f]:=fU.pre t (show n<=d by omega);have e:rn true rs n (cY true rs bs s).1 (cY true rs bs s).2=(n,g,b'):=e;exact#[g,b',by rw[sD (fw:=true) m,e],by rw[B59];exact f]
def vv2{W:Nat}{bs:List Str}{f:List (List av)}{w:List Pm}{p:Pm}:sX W bs f (w++[p])=sX W bs f w+duP W bs f p:=by unfold sX;rw[B7,Qy];rfl
theorem UL{W n s:Nat}{bs:List Str}{f:List (List av)}(l:n=f.length):∀{w:List Pm} {m:Nat} {j:Bool},gE n s m j w->((sX W bs f w:Nat):Int)=gn (f.map (pG W bs)) w+(if kz j w=true/\j=false then(bs.length:Int) else 0)
 | [],m,j,_=>by cases j <;> simp[sX,gn,kz]
 | none::r,m,j,h=>by
  have i:=UL (W:=W) (bs:=bs) l (w:=r) h.2;have e:((sX W bs f (none::r):Nat):Int)=bs.length+(sX W bs f r:Nat):=by unfold sX;rw[C0,K9,Z7];rfl
  rw[e,i,h.1.2];have t:∀r:List Pm,kz true r=true:=λr=>by
   induction r with
   | nil=>rfl| cons p r q=>cases p <;> exact q
  show _=gn (f.map (pG W bs)) r+(if kz true r=true/\false=false then(bs.length:Int) else 0)
  rw[if_neg (by simp),if_pos #[t r,rfl]];omega
 | some p::r,m,j,h=>by
  have i:=UL (W:=W) (bs:=bs) l (w:=r) h.2;have k:=h.1.1;have e:((sX W bs f (some p::r):Nat):Int)=((2*iu W bs (f.getD (p.2-1) [])+bs.length:Nat):Int)+(sX W bs f r:Nat):=by unfold sX;rw[C0,K9,Z7];rfl
  have g:(f.map (pG W bs)).getD (p.2-1) 0=((2*iu W bs (f.getD (p.2-1) [])+bs.length:Nat):Int):=by
   have o:p.2-1<f.length:=by have:=k.1;have:=k.2;omega
   rw[F4,F7,B6 o,F4,B6 o];rfl
  rw[e,i];show _=(f.map (pG W bs)).getD (p.2-1) 0+gn (f.map (pG W bs)) r+(if kz j r=true/\j=false then(bs.length:Int) else 0)
  rw[g];omega
def PJ(W:Nat)(bs:List Str)(h:List (List av))(fr n:Nat)(q:eY)(c:cQ):Prop:=∃(mv:D) (k f g:Nat),BS q=.tup [mv,.int (f:Int),.int (g:Int)]/\vT n mv k/\o7 W bs (h.getD (k-1) []) f g fr mv c.rs c.sz
def PJ.get{W:Nat}{bs:List Str}{i:List (List av)}{fr n k f aM:Nat}{q:eY}{c:cQ}{mv:D}(h:PJ W bs i fr n q c)(e:BS q=.tup [mv,.int (f:Int),.int (aM:Int)])(l:vT n mv k):o7 W bs (i.getD (k-1) []) f aM fr mv c.rs c.sz:=by let#[j,t,r,p,g,o,m]:=h;rw[e] at g;simp only[D.tup.injEq,V9,D.int.injEq,and_true,Int.ofNat_inj] at g;let#[rfl,rfl,rfl]:=g;obtain rfl:=l.uni o;exact m
def vw1{G:Gp}{a b:Addr}{ks:List Int}{i:Int}{Q:Bool->Prop}(h1:bB (G a)=some (ks.map .int))(k:bB (G b)=some (ks.map .int))(h:Q true): ∃n g f r,n<=40/\snap G n (.tup [.int i,.ref a])=some g/\snap G n (.tup [.int i,.ref b])=some f/\eV n g f=some r/\Q r:=by
 let#[s,j,l]:=v16 (pre:=[.int i]) (post:=[]) h1 k (all1 Vt) (λ_ h=>nomatch h);exact#[2,s,s,true,∅,j,l,NG 2 j,h]
def rdh{Z:ic}{g:ig}{f:dR}{G:Gp}{x y z:D}(h:f[2]?=some (some (.tup [x,y,z])))(k:Go (Z g) ((f.set 6 (some x)).set 7 (some y)) G):fz (hJ (Km DU (dD 2) FX (Dz (dC (.int 2)))) (uC 2 (FF (tF 6) (FF (tF 7) yI)))) Z g f G:=by have e:cutD [x,y,z] none (some 2)=[x,y]:=rfl;simp only[fz,hJ,Km,dD,FX,Dz,dC,h,DU,e];exact#[by show¬(HT.bU 3 0 none=0/\HT.bU 3 3 (some 2)=3);decide,rfl,rfl,k]
def kf(x:Nat×List Int×Addr):D:=.tup [.int (x.1:Int),.ref x.2.2]
inductive Dh(rs:List Row)(f:Nat)(g:List Int):List (Nat×List Int×Addr)->Nat->List Int->Prop
 | z:Dh rs f g [] f g
 | s {h:List (Nat×List Int×Addr)} {s:Nat} {bs:List Int} {q:Addr}:Dh rs f g h s bs->da true rs bs s=true->Dh rs f g (h++[(s,bs,q)]) (cY true rs bs s).1 (cY true rs bs s).2
def Dh.Dd{rs:List Row}{g sz:Nat}{i:List Int}(k:Pairs rs)(c:gF sz rs i g):∀{f:List (Nat×List Int×Addr)} {s:Nat} {bs:List Int},Dh rs g i f s bs->gF sz rs bs s:=by
 intro f s bs h;induction h with
 | z=>exact c| s _ m j=>exact(xV k j m).1
inductive vG:Prop
 | mk (h:D) (f bx:Addr) (rs:List Row) (bs i:List Int) (s most sz d:Nat) (_:ds=[.tup [h,.ref f],.int (s:Int),.ref bx,.int (most:Int)]) (_:G f=some (.lst (rs.map Row.d))) (_:G bx=some (.lst (bs.map .int))) (_:gF sz rs bs s) (_:Pairs rs) (_:fU rs rs.length i s bs d) (_:most<=1000) (_:∀g,aA G g->R (.bl true) g):vG
inductive vx:Prop
 | mk (W:Nat) (bs:List Str) (x:D) (f:List (List av)) (j pl i:Addr) (as h:List Addr) (w:List Pm) (s B:Nat) (_:ds=[.tup [.int (W:Int),.tup (bs.map .str),x],.ref j,.ref pl,.ref i]) (_:G j=some (.lst (as.map .ref))) (_:kh G as f) (_:G pl=some (.lst (w.map cO))) (_:G i=some (.lst (h.map .ref))) (_:jF G bs.length B h (0::gw 0 w)) (_:mB 0 w) (_:gE f.length s 0 false w) (_:B<=8) (_:B∈(0::gw 0 w).map (cnt 24)) (_:(∀x∈gw 0 w,cnt 24 x<=B)) (_:1<=f.length) (_:f.length<=4) (_:w.length<=2001) (_:Zh W bs f) (_:∀(q:Addr) (cs:List cQ) (g:Gp),G q=none->g q=some (.lst (cs.map cQ.d))->cs.length=w.length->(∀c∈cs,g c.ra=some (.lst (c.rs.map Row.d))/\c.ra≠q/\tY bs.length c)->Af ((2+B)*bs.length) cs (sX W bs f w)->aA G g->R (.ref q) g):vx
structure zj(W:Nat)(bs:List Str)(rs:List av)(ks:List Nat)(w:List Pm)(s:Nat)(b:Bool):Prop where
 dp:bj rs<=6
 wt:dw rs<=1000
 bd:jV rs
 kl:ks.length<=4
 gd:gd ks (aW rs).length
 pk:Zh W bs (ij ks (aW rs))
 pl:kg (ij ks (aW rs)).length s b w
 s8:s<=8
 wl:w.length<=2001
inductive vE:Prop
 | mk (W:Nat) (bs:List Str) (rs:List av) (h pl:Addr) (ks:List Nat) (w:List Pm) (s:Nat) (b:Bool) (_:ds=[.tup [.int (W:Int),.tup (bs.map .str),.tup (cq rs)],.ref h,.int (s:Int),.ref pl]) (_:G h=some (.lst ((nI ks).map .int))) (_:G pl=some (.lst (w.map cO))) (_:zj W bs rs ks w s b) (_:∀(q:Addr) (sz:Nat) (f:List Row) (g:Gp),G q=none->g q=some (.lst (f.map Row.d))->Pairs f->(∀r∈f,r.ok sz)->f.length<=9000000->bs.length<=sz->sz<=2000->(∀X,cn sz X->(∀i,bs.length<=i->gt X i=0)->∃j d,((d:Nat):Int)=gn ((ij ks (aW rs)).map (pG W bs)) w+(bs.length:Int)/\fU f f.length j 0 X d)->aA G g->R (.tup [.int (sz:Int),.ref q]) g):vE
inductive rQ:Prop
 | mk (W:Nat) (bs:List Str) (rs:List av) (f pl:Addr) (ks:List Nat) (w:List Pm) (s:Nat) (b:Bool) (_:ds=[.tup [.int (W:Int),.tup (bs.map .str),.tup (cq rs)],.ref f,.int (s:Int),.ref pl]) (_:G f=some (.lst ((nI ks).map .int))) (_:G pl=some (.lst (w.map cO))) (_:zj W bs rs ks w s b) (_:∀(g:Gp),aA G g->R (.int (gn ((ij ks (aW rs)).map (pG W bs)) w+(bs.length:Int))) g):rQ
inductive vK:Prop
 | mk (st:Addr) (m:Nat) (_:ds=[.ref st,.int (m:Int)]) (_:cF G st) (_:1<=m) (_:m<=4) (_:∀(q:Addr) (bs:List Str) (f:Gp),G q=none->q≠st->f q=some (.lst (bs.map .str))->bs.length=m->(∀b∈bs,b.length<=20)->bs.Nodup->cI st G f->R (.ref q) f):vK
inductive vN:Prop
 | mk (st:Addr) (W:Nat) (bs:List Str) (_:ds=[.ref st,.tup (bs.map .str),.int (W:Int)]) (_:cF G st) (_:1<=W) (_:W<=16) (_:1<=bs.length) (_:bs.length<=6) (_:∀(a:mK) (f:Gp),j0 W bs a->cI st G f->R (aD a) f):vN
inductive fK(dp:Nat)(ds:List D)(G:Gp)(R:DK):Prop
 | mk (st:Addr) (W f most:Nat) (bs:List Str) (_:ds=[.ref st,.tup (bs.map .str),.int (W:Int),.int (f:Int),.int (most:Int)]) (_:cF G st) (_:1<=W) (_:W<=16) (_:1<=bs.length) (_:bs.length<=6) (_:f<dp) (_:f<=3) (_:most<=3) (_:∀(rs:List av) (g:Gp),d8 W bs rs->jV rs->bj rs<=f+1->dw rs<=most*6^f->rs.length<=most->cI st G g->R (.tup (cq rs)) g):fK dp ds G R
def xd9:gi:=fK 8
def xe7{n:Nat}:n<*T.gX.1<*fK 0:=Nu (by rintro ds G R ⟨_,_,_,_,_,_,_,_,_,_,_,h,_⟩;omega)
inductive ji(dp:Nat)(ds:List D)(G:Gp)(R:DK):Prop
 | mk (st:Addr) (W f:Nat) (bs:List Str) (_:ds=[.ref st,.tup (bs.map .str),.int (W:Int),.int (f:Int)]) (_:cF G st) (_:1<=W) (_:W<=16) (_:1<=bs.length) (_:bs.length<=6) (_:f<=dp) (_:f<=3) (_:∀(r:av) (g:Gp),tN W bs r->EN r->j8 r<=f+1->qP r<=6^f->cI st G g->R (gM r) g):ji dp ds G R
def xl7:gi:=ji 8
inductive vI:Prop
 | mk (st:Addr) (_:ds=[.ref st]) (_:cF G st) (_:∀(W:Nat) (bs:List Str) (rs:List av) (f:Gp),1<=W->W<=16->1<=bs.length->bs.length<=4->bs.Nodup->d8 W bs rs->jV rs->bj rs<=4->dw rs<=78->cI st G f->R (.tup [.int (W:Int),.tup (bs.map .str),.tup (cq rs)]) f):vI
inductive vM:Prop
 | mk (st:Addr) (m n:Nat) (_:ds=[.ref st,.int (m:Int),.int (n:Int)]) (_:cF G st) (_:1<=n) (_:n<=m) (_:m<=24) (_:∀(q:Addr) (ks:List Nat) (f:Gp),gd ks m->ks.length=n->q≠st->G q=none->f q=some (.lst ((nI ks).map .int))->cI st G f->R (.ref q) f):vM
inductive vL:Prop
 | mk (st:Addr) (most:Nat) (_:ds=[.ref st,.int (most:Int)]) (_:cF G st) (_:∀(W:Nat) (bs:List Str) (rs:List av) (g pl:Addr) (ks:List Nat) (w:List Pm) (s:Nat) (b:Bool) (f:Gp),g≠st->pl≠st->f g=some (.lst ((nI ks).map .int))->f pl=some (.lst (w.map cO))->zj W bs rs ks w s b->cI st G f->R (.tup [.tup [.int (W:Int),.tup (bs.map .str),.tup (cq rs)],.ref g,.int (s:Int),.ref pl]) f):vL
def BF{W m sz:Nat}{vs:List Nat}(j:W<=16)(h1:vs.length=m)(k:∀v∈vs,v<2^W)(l:m<=sz):cn sz (vs.map (λ(v:Nat)=>(v:Int))++D2 (sz-m) 0)/\∀i,m<=i->gt (vs.map (λ(v:Nat)=>(v:Int))++D2 (sz-m) 0) i=0:=by
 apply⟨⟨by rw[B4,S8,B0];omega,λv f=>?_⟩,λi hi=>?_⟩
 .rcases E9.mp f with h|h
  .let#[n,g,rfl]:=D6.mp h;have:=C5 (k n g) (T9 (n:=2) ∅ j);omega
  .rw[B17 h];omega
 .unfold gt;rw[F4,E7 (by rw[B0];omega),A35];split <;> rfl
def zj.len{W:Nat}{bs:List Str}{rs:List av}{ks:List Nat}{w:List Pm}{s:Nat}{b:Bool}(h:zj W bs rs ks w s b):1<=(ij ks (aW rs)).length/\(ij ks (aW rs)).length<=4:=by have e:=congrArg J5 (NO ks (aW rs) (by rw[h.gd.2.2];exact B9 _));rw[B0] at e;have g:=h.kl;have f:ks.length≠0:=λz=>h.gd.1 (B30.mp z);omega
theorem UI{n s:Nat}:∀{w:List Pm} {m:Nat} {f:Bool} {p:Mv},gE n s m f w->some p∈w->1<=p.2/\p.2<=n
 | none::r,m,f,p,⟨_,h⟩,hp=>by
  rcases D7.mp hp with e|hp
  .cases e
  .exact UI h hp
 | some q::r,m,f,p,⟨g,h⟩,hp=>by
  rcases D7.mp hp with e|hp
  .cases e;exact g.1
  .exact UI h hp
def wh4{n s:Nat}{b:Bool}{w:List Pm}(h:kg n s b w){p:Mv}(f:some p∈w):1<=p.2/\p.2<=n:=UI (L3.kg.gE h).1 f
theorem UJ{n s:Nat}(i:n<=24):∀{w:List Pm} {m:Nat} {f:Bool},gE n s m f w->mB m w
 | [],_,_,_=>trivial| none::r,m,f,⟨_,h⟩=>#[trivial,UJ i (w:=r) h]| some q::r,m,f,⟨g,h⟩=>#[#[#[g.1.1,by have:=g.1.2;omega],g.2.2.1],UJ i (w:=r) h]
def wj8(w:List Pm):∃B,B∈(0::gw 0 w).map (cnt 24)/\∀x∈0::gw 0 w,cnt 24 x<=B:=by
 suffices h:∀(l:List Nat) (x:Nat),∃B,B∈(x::l).map (cnt 24)/\∀y∈x::l,cnt 24 y<=B from h _ _;intro l;induction l with
 | nil=>exact λx=>#[cnt 24 x,C6,λy f=>by rw[F5.mp f];exact B9 _]| cons z l i =>
  intro x;let#[B,j,g]:=i z;by_cases e:cnt 24 x<=B
  .exact#[B,C2 _ j,B64.mpr #[e,g]]
  .exact#[cnt 24 x,C6,B64.mpr #[B9 _,λy f=>D5 (g y f) ()]]
def wp0{n s B:Nat}{w:List Pm}(q:n<=24)(h:gE n s 0 false w)(r:B∈(0::gw 0 w).map (cnt 24)):B<=s:=by
 suffices k:∀(w:List Pm) (m:Nat) (j:Bool),m<2^n->cnt n m<=s->gE n s m j w->∀x∈m::gw m w,cnt n x<=s/\x<2^n by let#[x,hx,rfl]:=D6.mp r;let#[g,i]:=k w 0 false (Q0 _) (by rw[w_];exact J4 _) h x hx;rw[w47 i q];exact g
 intro w;induction w with
 | nil=>exact λm j g i _ x hx=>by rw[F5.mp hx];exact#[i,g]| cons p w o =>
  intro m j g i l x hx;rcases D7.mp hx with rfl|hx
  .exact⟨i,g⟩
  .cases p with
   | none=>exact o m true g i l.2 x hx| some p =>
    have f:=l.1;have t:xr m p.2<2^n:=QI g (QN ∅ (by have:=f.1;omega));apply o (xr m p.2) j t ?_ l.2 x hx;cases e:d5 p.2 m with
    | true =>have:=Gk f.1.1 f.1.2 e;omega| false =>have:=zD f.1.1 f.1.2 e;have:=f.2.2.2 (by rw[f.2.2.1,e];rfl);omega
theorem vy3{B:Nat}:∀{l:List Nat},(∀x∈l,x<=B)->l.sum<=B*l.length
 | [],_=>J4 _| x::l,h=>by have:=vy3 (l:=l) λy f=>h y (C2 _ f);have:=h x C6;rw[K9,C1,Nat.mul_succ];omega
theorem jF.last{G:Gp}{m B:Nat}:∀{as:List Addr} {w:List Pm} {M:Nat},jF G m B as (M::gw M w)->∃a f i,as=i++[a]/\G a=some (.bM (fc m f))/\pI (cE M w) B f
 | a::as,[],M,h=>by
  let#[q,r,f,e,k,j,g]:=h;cases e;cases as with
  | nil=>exact#[a,f,[],rfl,k,j]| cons b as=>let#[_,_,_,e,_]:=g;cases e
 | a::as,p::w,M,h=>by let#[q,r,f,e,k,j,g]:=h;cases e;let#[b,l,i,rfl,o,n]:=jF.last (w:=w) g;exact#[b,l,a::i,rfl,o,n]
def jF.two{G:Gp}{m B M l:Nat}{r:List Nat}:∀{g:List Addr},jF G m B g (M::l::r)->∃a f j i k,g=a::f::j/\G a=some (.bM (fc m i))/\G f=some (.bM (fc m k))/\pI M B i/\pI l B k/\jF G m B (f::j) (l::r):=by
 intro g h;rcases g with _|⟨a,_|⟨f,j⟩⟩
 .cases h
 .let#[_,_,_,e,_,_,h]:=h;cases e;cases h
 .let#[_,_,i,e,q,hi,n]:=h;cases e;have p:=n;let#[_,_,k,e,o,t,u]:=n;cases e;exact#[a,f,j,i,k,rfl,q,o,hi,t,p]
theorem sum_set:∀{ks:List Nat} {x:Nat} (h:x<ks.length),(ks.set x (ks[x]+1)).sum=ks.sum+1
 | [],_,h=>by cases h
 | k::ks,0,_=>by show((k+1)::ks).sum=_;rw[K9,K9];omega| k::ks,x+1,h=>by show(k::ks.set x (ks[x]'(A47 h)+1)).sum=_;rw[K9,K9,sum_set (A47 h)];omega
def Ws{W:Nat}{bs:List Str}{rs:List av}{ks:List Nat}(h1:1<=W)(k:W<=16)(j:1<=bs.length)(f:bs.length<=6)(i:bs.Nodup)(h:d8 W bs rs)(l:bj rs<=4)(hw:dw rs<=78):Zh W bs (ij ks (aW rs)):=by apply#[λp g=>?_,h1,j,f];let#[a,b,e]:=vc9 g;have o1:=Gf rs h;have o2:=Gg rs;have o3:=Gn rs;have o4:=DY rs;rw[e] at o1 o2 o3 o4;have o1:=(d7.mp (d7.mp o1).1).2;have o2:=(fF.mp (fF.mp o2).1).2;rw[Ea,Ea] at o3;rw[D',D'] at o4;exact#[#[f,i,o1,o2,(),(),k],()]
def Jc{W:Nat}{bs:List Str}{rs:List av}{ks:List Nat}{w:List Pm}{s n:Nat}{b:Bool}(h1:1<=W)(r:W<=16)(q:1<=bs.length)(p:bs.length<=6)(k:bs.Nodup)(i:d8 W bs rs)(t:jV rs)(o:bj rs<=4)(hw:dw rs<=78)(m:ks.length=n)(j:n<=4)(f:gd ks (aW rs).length)(h:kg n s b w)(g:s<=8)(l:w.length<=2001):zj W bs rs ks w s b:=by have e:=congrArg J5 (NO ks (aW rs) (by rw[f.2.2];exact B9 _));rw[B0] at e;exact#[(),(),t,(),f,Ws h1 r q p k i o hw,by rw[e,m];exact h,g,l]
def xi9{s:Nat}(g:1<=s):kg 1 s false [some (true,1),none,some (false,1)]:=by have f:fP 1 s 0 [(true,1)]:=#[#[#[∅,∅],.inl rfl,rfl,λ_=>by show cnt 1 0<s;rw[w_];omega],trivial];unfold kg;rw[if_neg ∅];exact#[[(true,1)],[(true,1)],rfl,f,f,rfl,∅]
theorem Uy{C:Int}{pl:List Int}(f:0<=C)(h:∀x∈pl,0<=x/\x<=C):∀w:List Pm,0<=gn pl w/\gn pl w<=C*w.length
 | []=>#[D04 _,by simp[gn]]| none::r=>by let#[a,b]:=Uy f h r;apply#[a,?_];show gn pl r<=_;rw[C1,C17,Fd];omega| some p::r=>by
  let#[a,b]:=Uy f h r;have g:0<=pl.getD (p.2-1) 0/\pl.getD (p.2-1) 0<=C:=by
   rw[F4];cases e:pl[p.2-1]? with
   | none=>exact#[D04 _,f]| some x=>exact h x (K3 e)
  show 0<=_+gn pl r/\_+gn pl r<=_;rw[C1,C17,Fd];omega
def zj.few{W:Nat}{bs:List Str}{rs:List av}{ks:List Nat}{w:List Pm}{s:Nat}{b:Bool}(h:zj W bs rs ks w s b):0<=gn ((ij ks (aW rs)).map (pG W bs)) w+(bs.length:Int)/\gn ((ij ks (aW rs)).map (pG W bs)) w+(bs.length:Int)<=9000000:=by have l:=h.pk.xo;let#[o,n]:=Uy (C:=4000) (pl:=(ij ks (aW rs)).map (pG W bs)) ∅ (λx i=>by let#[p,j,rfl]:=D6.mp i;let#[ok,m]:=h.pk.ok p j;have f:=tL (a:=0) (pl:=E6 bs.length) (fr:=bs.length) ok.hW ok.nb p ok.ok ok.nt J2;let#[_,_,_,_,k]:=f;unfold pG iu;omega) w;have:=h.wl;omega
end
end Law
set_option compiler.extract_closed false
open PySem L2 L3 Rw in
set_option hygiene false in
local macro_rules | `(tactic| simp! [$xs,*])=>`(tactic| try simp only [↓Nb,Int.toNat_natCast,↓iT,↓qS,↓Fx,↓fz,↓Rz,↓hJ,↓Bm,↓j9,↓RC,↓uV,↓dB,↓CW,↓YT,↓CU,↓Rx,↓CS,↓RA,↓YU,↓dD,↓dC,↓CT,↓Pz,↓eQ,↓mQ,↓sY,↓zb,↓PB,↓Km,↓Dz,↓FX,↓EM,↓YV,↓zc,↓CV,↓RD,↓Ry,↓Kl,↓tF,↓Ca,↓uC,↓FF,↓yI,↓ws6,↓ws5,↓xQ,↓sZ,↓Bd,↓Fv,↓Ft,↓Fs,↓Fq,↓Fp,↓Fw,↓xOr,↓Fo,DB,lE,v14,v13,vp0,DQ,Xa,W',List.cons_append,List.nil_append,List.length_cons,List.length_nil,List.replicate,List.getElem?_cons_zero,List.getElem?_cons_succ,List.set_cons_zero,List.set_cons_succ,Nat.reduceAdd,Nat.reduceSub,Nat.sub_self,↓vb7,↓vb8,aG,Option.bind_some,Option.bind_none,id,Bool.false_eq_true,↓reduceIte,true_and,and_true,decide_true,decide_false,Bool.not_true,Bool.not_false,xl6,xl5,xl4,xl3,xl2,xa1,xa0,x99,xa3,xa2,↓Rl,↓Rk,↓Rj,↓Ri,↓Rh,↓Rg,↓Rf,↓Rc,↓Rb,↓Ra,↓xh1,↓xh0,↓xg9,↓xg8,↓xg7,↓xg6,↓QZ,↓QY,↓QX,↓QW,↓QV,↓QU,↓QT,↓QS,↓QR,↓QQ,↓xg5,↓xg4,↓xg3,↓xg2,↓xg1,↓xg0,↓xf9,↓xf8,↓xf7,↓xf6,↓xf5,↓xf4,↓xf3,↓xf2,↓xf1,↓xf0,↓xe9,↓xe8,↓Na,$xs,*])
open L3 in
set_option hygiene false in
local macro_rules | `(tactic| dsimp! [$xs,*])=>`(tactic| (simp only [Go];simp! [$xs,*]))
open PySem L2 L3 Rw in
set_option hygiene false in
local macro_rules | `(!$n:num)=>`(ev $n)
open PySem L2 L3 Rw in
set_option hygiene false in
local macro_rules | `(#v[])=>`(mO) | `(#v[$x])=>`(w50 $x mO) | `(#v[$x,$xs,*])=>`(w50 $x #v[$xs,*])
namespace Law
open PySem L2 L3 Rw
section
variable{P:Program}{w:World}{K:W.Frag}{mg:Str->Option Value}{base:Heap}(T:Txt K mg)
def x52{n:Nat}(LX:n<*T.nW.1<*vw):n+1<*T.kU.1<*rZ:=by
 apply dk T.kU.1 jr (λ_ _ _ _ _ _ hr =>
   (az (aR 1 jr.nd (dS mO))
   (az (lC (jl (!0)) (cL 2 jr.nd) (az (aR 3 jr.nd (dz fD rfl T.bf ∅ #v[!1]))
   (aC (dU (Oa (!1) #v[(pq (N':=["row", "ahead"]) (ix:=[none,some 3]) (jU rfl rfl rfl) (jl (aj ai (!2) ao)) (λ_ _ _ _=>(cL 0 (show(["row", "ahead"]:List Str).Nodup by decide))) (λ_ _ _ _=>mV) (λ_ _ _ _=>(ek LX hr #v[!0,!1])))])))))
   (aC (aY (bp #v[(dz vx0 rfl T.rH ∅ #v[(pq (N':=["code"]) (ix:=[none]) (jU rfl rfl rfl) (jl (!0)) (λ_ _ _ _=>(cL 0 (show(["code"]:List Str).Nodup by decide))) (λ_ _ _ _=>mV) (λ_ _ _ _=>(aj ai (!0) ao)))]),!1])))))) (λds G R h=>?_)
 .let#[ca,u,rfl,y,Pg,h0,h10,post]:=h;simp!;apply#[∅,λp X=>?_];have O:ca≠p:=aL y X;have own:∀{G1:Gp} {o:DO},aA G G1->aA G (aH G1 p o):=λg=>#[λb o e=>by rw[aB (aL e X)];exact g.kp _ _ e];have f0:aH G p (.lst []) ca=some (.lst (u.map cQ.d)):=by rw[aB O];exact y
  dsimp![f0];apply lD (λr j l=>ES λ(c1 c2:List cQ) (f:List Row) (N L:Option D)=>Ds (c1++c2=u) (r=c2.map cQ.d) (jx f (c2.map cQ.rs)=jx [] (u.map cQ.rs)) (f.length<=4000*c1.length) (aA G l) (l p=some (.lst (f.map Row.d))) (j=[some (.ref ca),some (.ref p),N,L]))
   #[[],u,[],none,none,rfl,rfl,rfl,by simp,own aA.refl,aG,rfl] ?_ ?_
  .rintro j l ⟨c1,c2,f,N,L,e,i,Z,hl,g,x,rfl⟩;have H:c2=[]:=by simpa using i.symm
   subst H;have Y:f=jx [] (u.map cQ.rs):=Z;apply#[by rw[g.kp _ _ y];rfl,?_];dsimp![g.kp _ _ y];intro k C;have g2:∀{o:DO},aA G (aH l k o):=g.new C;have Q:p≠k:=aL x C;apply kr (λr j A=>mj λ(I t:List cQ) (v:Option D)=>mL (I++t=u) (r=t.map cQ.d) (A=aH l k (.lst ((I.map λc=>(c.sz:Int)).map .int))) (j=[v])) #[[],u,none,rfl,rfl,rfl,rfl] ?_ ?_
   .rintro j A ⟨I,t,v,e,i,rfl,rfl⟩;have H:t=[]:=by simpa using i.symm
    subst H;rw[D9] at e;subst e;apply#[by rw[g2.kp _ _ y];rfl,?_];simp![FK,Eg];apply#[by rw[B0];exact h0,λM YD Pp=>?_];rw[x82 h0 YD Pp];apply#[∅,post p _ X ?_ g2];rw[aB Q,x,Y]
   .rintro z r j A ⟨I,t,v,e,i,rfl,rfl⟩ U;cases t with
    | nil=>cases i
    | cons c t =>
     cases i;apply#[by rw[g2.kp _ _ y];rfl,?_];simp![cQ.d];apply#[?_,U _ _ #[I++[c],t,_,by rw[<- e,D4];rfl,rfl,?_,rfl]]
     .have:=congrArg J5 e;rw[B4,C1] at this;rw[B0,B0];exact C8 (m:=20000) () ∅
     .rw[ip,B7,B7];rfl
  .rintro z r j l ⟨c1,c2,f,N,L,e,i,Z,hl,g,x,rfl⟩ U;cases c2 with
   | nil=>cases i
   | cons c c2 =>
    cases i;apply#[by rw[g.kp _ _ y];rfl,?_];have CA:c∈u:=by rw[<- e];simp
    let#[JT,hcl]:=Pg c CA;have yQ:=congrArg J5 e;rw[B4,C1] at yQ;have J:=g.kp _ _ JT;simp![x,B0,cQ.d];dsimp![J,x];intro k C;have Q:p≠k:=aL x C;have E:c.ra≠k:=aL J C;apply kr (λr j A=>mj λ(B q:List Row) (v:Option D)=>mL (B++q=c.rs) (r=q.map Row.d) (A=aH l k (.lst ((B.map (mv f.length)).map Row.d))) (j=[v,some (.int (f.length:Int))])) #[[],c.rs,none,rfl,rfl,rfl,rfl] ?_ ?_
    .rintro j A ⟨B,q,v,e,i,rfl,rfl⟩;have H:q=[]:=by simpa using i.symm
     subst H;rw[D9] at e;subst e;apply#[by rw[aB E,J];rfl,?_];have f1:aH l k (.lst ((c.rs.map (mv f.length)).map Row.d)) p=some (.lst (f.map Row.d)):=by rw[aB Q];exact x
     simp![f1];apply#[by rw[B0,B0,B0];exact D5 (m:=9000000) () ∅,?_];apply U _ _ #[c1++[c],c2,dt f c.rs,_,_,by rw[<- e,D4];rfl,rfl,Z,?_,own (g.new C),?_,rfl]
     .rw[NZ,B4,O4];omega
     .rw[aG,dt,B7]
    .rintro z r j A ⟨B,q,v,e,i,rfl,rfl⟩ S;cases q with
     | nil=>cases i
     | cons row q =>
      cases i;apply#[by rw[aB E,J];rfl,?_];simp!;apply gp (v:=(mv f.length row).d) (G1:=aH l k (.lst ((B.map (mv f.length)).map Row.d))) (λR h=>#[row,f.length,rfl,h]) ?_;simp!;apply#[?_,S _ _ #[B++[row],q,_,by rw[<- e,D4];rfl,rfl,?_,rfl]]
      .have:=congrArg J5 e;rw[B4,C1] at this;rw[B0,B0];exact C8 (m:=20000) () ∅
      .rw[ip,B7,B7];rfl
def x25{n:Nat}:n+1<*T.nW.1<*vw:=by
 apply dk T.nW.1 vz6 (λ_ _ _ _ _ _ g =>
   (az (aK (bE (t9 g) (aj ai (!0) ao) (bp #v[aV,aV]) (by with_unfolding_all rfl)) (aC (aY (bp #v[(aj ai (!0) ao),(aj ai (!0) ao),(aj ai (!0) ao),(aQ cz (aj ai (!0) ao) (!1))]))) cw)
   (aC (aY (!0))))) (λp G R h=>?_)
 .let#[row,a,rfl,post]:=h;rcases B_ row with⟨x,n,k,rfl⟩|⟨x,n,k,rfl⟩|⟨o,rest,f,m,l,i⟩
  .have e:(k:Int)+(a:Int)=((k+a:Nat):Int):=()
   simp![Row.d,eL,C7,decide_false,decide_true,Vc,Qj,Fi,Qg,Qr,e];exact⟨∅,post⟩
  .have e:(k:Int)+(a:Int)=((k+a:Nat):Int):=()
   simp![Row.d,eL,C7,decide_false,decide_true,Vc,Qj,Fi,Qg,Qr,e];exact⟨∅,post⟩
  .have j:mv a row=row:=by cases row <;> first|rfl|cases i
   rw[j,f] at post;simp only[f];simp![m,l,Vc,Qj,Fi,Qg,Qr];dsimp!;exact post
def x67{n:Nat}:n+1<*T.gY<*ll:=by
 apply dk T.gY wv3 (λ_ _ _ _ _ _ C =>
   (az (xU T.aq.cl T.aq.cD (!0) (qU VB rfl T.fA ∅ #v[(aj ai (!1) ao)]))
   (az (xU T.aq.cl T.aq.fj (!0) (qU VB rfl T.fA ∅ #v[!2]))
   (aC (xU T.aq.cl T.aq.cZ (!0) (!3)))))) (λE G R h=>?_)
 .let#[p,I,H,u,B,J,s,rfl,q,A,j,post]:=h;simp?[A];intro k i;have g:p≠k:=aL q i;have y:u≠k:=aL j i;simp?[aB g,q,eL,str_beq,C7,decide_false,decide_true,beq_self_eq_true,I0,O8,putD];apply#[∅,?_];have x:u≠p:=by intro e;rw[e,q] at j;cases j
  simp?[aB x,aB y,j];intro t f;have l:t≠p:=by intro e;rw[e,aG] at f;cases f
  have m:t≠k:=by intro e;rw[e,aB (D3 g),aG] at f;cases f
  rw[aB l,aB m] at f;simp?[aB (D3 l),eL,str_beq,C7,decide_false,decide_true,beq_self_eq_true,I0,O8,putD];apply#[∅,∅,?_];apply post k t _ i f #[by rw[aG];rfl,?_,?_,D3 m] λb o r e=>?_
  .rw[aB (D3 g),aB (D3 g),aB (D3 m),aB (D3 g),aG]
  .rw[aB l,aB l,aG]
  .rw[aB r,aB r,aB (aL e f),aB r,aB (aL e i)];exact e
def x64{n:Nat}:n+1<*T.dH<*jH:=by
 apply dk T.dH w07 (λ_ _ _ _ _ _ i =>
   (aC (aY (fV T.aq.cl T.aq.cZ (!0))))) (λk G R h=>?_)
 .let#[p,g,j,f,l,s,rfl,A,post]:=h;simp?[A.ob,A.ro,dA];exact post
def x69{n:Nat}:n+1<*T.dZ<*jI:=by
 apply dk T.dZ w08 (λ_ _ _ _ _ _ i =>
   (aC (aY (qU VB rfl T.fA ∅ #v[(fV T.aq.cl T.aq.fj (!0))])))) (λk G R h=>?_)
 .let#[p,g,j,f,l,s,rfl,A,post]:=h;simp?[A.ob,A.he,dA];exact post
def x68{n:Nat}(Z:n<*T.fZ<*oV)(jK:n<*T.iR.1<*lj)(wD:n<*T.kX.1<*gj):n+1<*T.f'<*r_:=by
 apply dk T.f' qg (λ_ _ _ _ _ _ C =>
   (az (aK (FI (mS (fQ T.aq.cl T.fZ T.zP Z C (!0)))) (aC (aY dq)) cw)
   (az (aR 1 qg.nd (aj ai (fV T.aq.cl T.aq.cD (!0)) (fV T.aq.cl T.aq.cZ (!0))))
   (az (aK (pB (w_and (bE (aZ C) (aj ai (!1) ao) aV (ah _)) (wY (mS (ek jK C #v[!1,(fV T.aq.cl T.aq.fj (!0))]))))) (az (xU T.aq.cl T.aq.cZ (!0) (aQ cz (aj ai (!1) ao) ao))
   (aC (aY dq))) cw)
   (az (dU (ek wD C #v[!1,(fV T.aq.cl T.aq.fj (!0)),ao]))
   (az (FV T.aq.cl T.aq.cZ (!0) ao x6)
   (aC (aY dq)))))))) (λds G R h=>?_)
 .let#[p,r,g,j,i,s,I,rfl,A,c,post]:=h;have N:=A.ph;have Y:=A.pr;have hl:=c.bo.len;simp?[A.ob,dA];apply gp (v:=.bl (bw j i s)) (G1:=G) (λR h=>#[p,r,g,j,i,s,I,rfl,A,c,h]) ?_;simp?;cases y:bw j i s with
  | false =>simp?;rw[y] at post;exact post G (λ_=>rfl) λz=>by cases z
  | true =>
   simp?;rw[y] at post;have X:s<j.length:=by
    by_cases q:s<j.length
    .exact q
    .unfold bw at y;rw[M8 ()] at y;cases y
   have E:=B6 X;have H:=c.ro _ (M5 X);simp?[A.ob,A.ro,dA,Ov E];have step:∀(row:Row),j[s]=row->row.ok I->(bS j i s=(s+1,cB 1 i row))->∃o,gj [row.d,.ref g,.int 1] G o/\∀d f,o d f->∃l,f p=some (.ins bN l)/\l=cy r g s/\R (.bl true) (aH f p (.ins bN (cy r g (s+1)))):=by intro row _ Cq t;apply jR (post:=λd f=>d=.non/\vd g (cB 1 i row) G f) (λR h=>#[row,g,I,1,i,rfl,.inl rfl,Cq,c.bo,A.he,λf u=>h _ _ #[rfl,u]]) ?_;rintro d f ⟨rfl,u⟩;apply#[cy r g s,by rw[u.kp p N];exact A.ob,rfl,?_];apply post _ (λz=>by cases z) λ_=>?_;rw[t];apply#[#[aG,by rw[aB (D3 Y),u.kp r A.ne];exact A.ro,by rw[aB (D3 N)];exact u.at_,A.ne],λb J S=>by rw[aB J,u.kp b S]]
   have fin:∀{row:Row} {O:D->Gp->Prop},(∃o,gj [row.d,.ref g,.int 1] G o/\∀d f,o d f->∃l,f p=some (.ins bN l)/\l=cy r g s/\R (.bl true) (aH f p (.ins bN (cy r g (s+1))))) ->
     (∀d f,(∃l,f p=some (.ins bN l)/\l=cy r g s/\R (.bl true) (aH f p (.ins bN (cy r g (s+1)))))->O d f)->∃o,gj [row.d,.ref g,.int 1] G o/\∀d f,o d f->O d f:=λ⟨o,a,b⟩ h=>#[o,a,λd f q=>h d f (b d f q)]
   have U:((s:Int)+1)=((s+1:Nat):Int):=()
   rcases w36 j[s] with⟨x,m,k,B⟩|⟨w,rest,Q,hw,t⟩
   .rw[B];rw[B] at H;simp?[Row.d,eL,C7,decide_false,decide_true,A.ob,dA];apply gp (v:=.bl (decide (gt i x=m))) (G1:=G) (λR h=>#[.go x m k,g,x,i,m,k,rfl,.inl rfl,A.he,by rw[hl];exact H.1,h]) ?_;simp?;apply eZ (λL=>?_) (λL=>?_)
    .simp?[A.ob,dA];apply⟨DN,?_⟩;apply post _ (λz=>by cases z) λ_=>?_;have t:bS j i s=(k+1,i):=by unfold bS;rw[E,B];simp[L]
     rw[t];apply#[#[?_,by rw[aB (D3 Y)];exact A.ro,by rw[aB (D3 N)];exact A.he,A.ne],λb J S=>aB J];rw[aG];unfold cy;rw[show((k+1:Nat):Int)=(k:Int)+1 by omega]
    .simp?[A.ob,dA];apply fin (row:=.go x m k) (step _ B H (by unfold bS;rw[E,B];simp[L,cB])) ?_;rintro d f ⟨l,M,rfl,q⟩;simp?[M,dA,U];exact#[DN,q]
   .simp?[Q,hw,A.ob,dA];rw[<- Q];apply fin (row:=j[s]) (step _ rfl H (t j i s E)) ?_;rintro d f ⟨l,M,rfl,q⟩;simp?[M,dA,U];exact#[DN,q]
def x70{n:Nat}(Z:n<*T.f_<*oW)(jK:n<*T.iR.1<*lj)(wD:n<*T.kX.1<*gj):n+1<*T.gb<*sf:=by
 apply dk T.gb qh (λ_ _ _ _ _ _ C =>
   (az (aK (FI (mS (fQ T.aq.cl T.f_ T.zQ Z C (!0)))) (aC (aY dq)) cw)
   (az (aR 1 qh.nd (aj ai (fV T.aq.cl T.aq.cD (!0)) (aQ gI (fV T.aq.cl T.aq.cZ (!0)) ao)))
   (az (aK (pB (w_and (bE (aZ C) (aj ai (!1) ao) aV (ah _)) (wY (mS (ek jK C #v[!1,(fV T.aq.cl T.aq.fj (!0))]))))) (az (xU T.aq.cl T.aq.cZ (!0) (aj ai (!1) ao))
   (aC (aY dq))) cw)
   (az (dU (ek wD C #v[!1,(fV T.aq.cl T.aq.fj (!0)),(sW FN ao)]))
   (az (FV T.aq.cl T.aq.cZ (!0) ao wr3)
   (aC (aY dq)))))))) (λds G R h=>?_)
 .let#[p,r,g,j,i,s,I,rfl,A,c,post]:=h;have N:=A.ph;have Y:=A.pr;have hl:=c.bo.len;simp?[A.ob,dA];apply gp (v:=.bl (cx j i s)) (G1:=G) (λR h=>#[p,r,g,j,i,s,I,rfl,A,c,h]) ?_;simp?;cases J:cx j i s with
  | false =>simp?;rw[J] at post;exact post G (λ_=>rfl) λz=>by cases z
  | true =>
   simp?;rw[J] at post;have h00:¬ s=0:=by intro e;subst e;cases J
   have hle:=c.le;have X:s-1<j.length:=()
   have t:(s:Int)-1=((s-1:Nat):Int):=()
   have E:=B6 X;have H:=c.ro _ (M5 X);simp?[A.ob,A.ro,dA,t,Ov E];have step:∀(row:Row),j[s-1]=row->row.ok I->(dy j i s=(s-1,cB (-1) i row))->∃o,gj [row.d,.ref g,.int (-1)] G o/\∀d f,o d f->∃l,f p=some (.ins bN l)/\l=cy r g s/\R (.bl true) (aH f p (.ins bN (cy r g (s-1)))):=by intro row _ Cq y;apply jR (post:=λd f=>d=.non/\vd g (cB (-1) i row) G f) (λR h=>#[row,g,I,-1,i,rfl,.inr rfl,Cq,c.bo,A.he,λf u=>h _ _ #[rfl,u]]) ?_;rintro d f ⟨rfl,u⟩;apply#[cy r g s,by rw[u.kp p N];exact A.ob,rfl,?_];apply post _ (λz=>by cases z) λ_=>?_;rw[y];apply#[#[aG,by rw[aB (D3 Y),u.kp r A.ne];exact A.ro,by rw[aB (D3 N)];exact u.at_,A.ne],λb L S=>by rw[aB L,u.kp b S]]
   have fin:∀{row:Row} {O:D->Gp->Prop},(∃o,gj [row.d,.ref g,.int (-1)] G o/\∀d f,o d f->∃l,f p=some (.ins bN l)/\l=cy r g s/\R (.bl true) (aH f p (.ins bN (cy r g (s-1))))) ->
     (∀d f,(∃l,f p=some (.ins bN l)/\l=cy r g s/\R (.bl true) (aH f p (.ins bN (cy r g (s-1)))))->O d f)->∃o,gj [row.d,.ref g,.int (-1)] G o/\∀d f,o d f->O d f:=λ⟨o,a,b⟩ h=>#[o,a,λd f q=>h d f (b d f q)]
   have U:((s:Int)-1)=((s-1:Nat):Int):=t;rcases w37 j[s-1] with⟨x,m,k,B⟩|⟨w,rest,Q,hw,y⟩
   .rw[B];rw[B] at H;simp?[Row.d,eL,C7,decide_false,decide_true,A.ob,dA];apply gp (v:=.bl (decide (gt i x=m))) (G1:=G) (λR h=>#[.aP x m k,g,x,i,m,k,rfl,.inr rfl,A.he,by rw[hl];exact H.1,h]) ?_;simp?;apply eZ (λM=>?_) (λM=>?_)
    .simp?[A.ob,dA];apply⟨DN,?_⟩;apply post _ (λz=>by cases z) λ_=>?_;have y:dy j i s=(k,i):=by unfold dy;rw[E,B];simp[M]
     rw[y];apply#[#[?_,by rw[aB (D3 Y)];exact A.ro,by rw[aB (D3 N)];exact A.he,A.ne],λb L S=>aB L];rw[aG];rfl
    .simp?[A.ob,dA];apply fin (row:=.aP x m k) (step _ B H (by unfold dy;rw[E,B];simp[M,cB])) ?_;rintro d f ⟨l,t,rfl,q⟩;simp?[t,dA,U];exact#[DN,q]
   .simp?[Q,hw,A.ob,dA];rw[<- Q];apply fin (row:=j[s-1]) (step _ rfl H (y j i s E)) ?_;rintro d f ⟨l,t,rfl,q⟩;simp?[t,dA,U];exact#[DN,q]
def x71{n:Nat}:n+1<*T.gf<*oX:=by
 apply dk T.gf w09 (λ_ _ _ _ _ _ g =>
   (aC (aY (wW (aZ g) (fV T.aq.cl T.aq.cZ (!0)) (dz fD rfl T.bf ∅ #v[(fV T.aq.cl T.aq.cD (!0))]) (ah _))))) (λk G R h=>?_)
 .let#[p,i,j,f,l,s,rfl,A,post]:=h;simp?[A.ob,A.ro,dA,B0];have e:decide ((s:Int)=(f.length:Int))=decide (s=f.length):=by
   by_cases q:s=f.length
   .simp[q]
   .have:¬ (s:Int)=(f.length:Int):=()
    simp[q,this]
  rw[e];exact post
def x72{n:Nat}:n+1<*T.gh<*oY:=by
 apply dk T.gh w12 (λ_ _ _ _ _ _ f =>
   (aC (aY (wW (aZ f) (fV T.aq.cl T.aq.cZ (!0)) ao (ah _))))) (λk G R h=>?_)
 .let#[p,i,j,g,l,s,rfl,A,post]:=h;simp?[A.ob,A.ro,dA];have e:decide ((s:Int)=0)=decide (s=0):=by
   by_cases q:s=0
   .simp[q]
   .have:¬ (s:Int)=0:=()
    simp[q,this]
  rw[e];exact post
def x65{n:Nat}(y:n<*T.gf<*oX)(C:n<*T.iR.1<*lj):n+1<*T.fZ<*oV:=by
 apply dk T.fZ qe (λ_ _ _ _ _ _ j =>
   (az (aK (mS (fQ T.aq.cl T.gf T.zT y j (!0))) (aC (aY dq)) cw)
   (az (aR 1 qe.nd (aj ai (fV T.aq.cl T.aq.cD (!0)) (fV T.aq.cl T.aq.cZ (!0))))
   (aC (aY (Nf (Nd (wW (aZ j) (aj ai (!1) ao) aV (ah _)) (FD (ek C j #v[!1,(fV T.aq.cl T.aq.fj (!0))]))))))))) (λM G R h=>?_)
 .let#[p,B,o,g,i,s,L,rfl,A,c,post]:=h;simp?[A.ob,dA];apply gp (v:=.bl (decide (s=g.length))) (G1:=G) (λR h=>#[p,B,o,g,i,s,rfl,A,h]) ?_;simp?[A.ob,dA];apply eZ (λq=>?_) (λq=>?_)
  .subst q;have:bw g i g.length=false:=by unfold bw;rw[M8 (B9 _)]
   rw[this] at post;exact post
  .have t:s<g.length:=by have:=c.le;omega
   have l:=B6 t;have u:=c.ro _ (M5 t);have H:=c.bo.len;unfold bw at post;rw[l] at post;simp?[A.ob,A.ro,dA,Ov l];rcases w37 g[s] with⟨x,m,k,I⟩|⟨w,rest,f,hw,_⟩
   .rw[I] at post u⊢;simp?[Row.d,eL,C7,decide_false,decide_true,A.ob,dA];exact gp (v:=.bl (decide (gt i x=m))) (G1:=G) (λR h=>#[.aP x m k,o,x,i,m,k,rfl,.inr rfl,A.he,by rw[H];exact u.1,h]) post
   .have E:∀r:Row,r=g[s]->R (.bl true) G:=by
     intro r e;rw[<- e] at post f;cases r with
     | aP x m k=>injection f with f;injection f with f _;injection f with f;rw[<- f] at hw;exact(hw▸rfl:False).elim
     | _=>exact post
    simp?[f,hw,eL,C7,decide_false,decide_true];exact E _ rfl
def x66{n:Nat}(y:n<*T.gh<*oY)(C:n<*T.iR.1<*lj):n+1<*T.f_<*oW:=by
 apply dk T.f_ qf (λ_ _ _ _ _ _ j =>
   (az (aK (mS (fQ T.aq.cl T.gh T.zU y j (!0))) (aC (aY dq)) cw)
   (az (aR 1 qf.nd (aj ai (fV T.aq.cl T.aq.cD (!0)) (aQ gI (fV T.aq.cl T.aq.cZ (!0)) ao)))
   (aC (aY (Nf (Nd (wW (aZ j) (aj ai (!1) ao) aV (ah _)) (FD (ek C j #v[!1,(fV T.aq.cl T.aq.fj (!0))]))))))))) (λO G R h=>?_)
 .let#[p,B,q,g,i,s,N,rfl,A,c,post]:=h;simp?[A.ob,dA];apply gp (v:=.bl (decide (s=0))) (G1:=G) (λR h=>#[p,B,q,g,i,s,rfl,A,h]) ?_;simp?[A.ob,dA];apply eZ (λl=>?_) (λl=>?_)
  .subst l;have:cx g i 0=false:=rfl;rw[this] at post;exact post
  .have H:=c.le;have t:s-1<g.length:=()
   have o:=B6 t;have u:=c.ro _ (M5 t);have I:=c.bo.len;have J:(s:Int)-1=((s-1:Nat):Int):=()
   unfold cx at post;rw[if_neg l,o] at post;simp?[A.ob,A.ro,dA,J,Ov o];rcases w36 g[s-1] with⟨x,m,k,L⟩|⟨w,rest,f,hw,_⟩
   .rw[L] at post u⊢;simp?[Row.d,eL,C7,decide_false,decide_true,A.ob,dA];exact gp (v:=.bl (decide (gt i x=m))) (G1:=G) (λR h=>#[.go x m k,q,x,i,m,k,rfl,.inl rfl,A.he,by rw[I];exact u.1,h]) post
   .have E:∀r:Row,r=g[s-1]->R (.bl true) G:=by
     intro r e;rw[<- e] at post f;cases r with
     | go x m k=>injection f with f;injection f with f _;injection f with f;rw[<- f] at hw;exact(hw▸rfl:False).elim
     | _=>exact post
    simp?[f,hw,eL,C7,decide_false,decide_true];exact E _ rfl
def x53{n:Nat}:n+1<*T.iR.1<*lj:=by
 apply dk T.iR.1 w02 (λ_ _ _ _ _ _ i =>
   (aC (aY (wW (aZ i) (aj ai (!1) (aj ai (!0) ao)) (aj ai (!0) ao) (ah _))))) (λl G R h=>?_)
 .let#[row,a,x,o,m,k,rfl,j,g,f,post]:=h;rcases j with rfl|rfl
  .simp?[Row.d,g,ug f];exact post
  .simp?[Row.d,g,ug f];exact post
def x58{n:Nat}(I:n<*T.nV.1<*vt)(N:n<*T.nK.1<*vj):n+1<*T.kX.1<*gj:=by
 apply dk T.kX.1 qb (λ_ _ _ _ _ _ p =>
   (aC (aK (bE (aZ p) (aj ai (!0) ao) aV (ah _)) (aC (tG (aQ uc (aQ cz (aj ai (!1) (aj ai (!0) ao)) (aQ mT (!2) (ek I p #v[(aj ai (!0) ao),!1]))) (Bs T.kE)) (zy (!1) (aj ai (!0) ao) zB))) (aC (aK (bE (aZ p) (aj ai (!0) ao) aV (ah _)) (aC (tG (aQ uc (aQ gI (aj ai (!1) (aj ai (!0) ao)) (aQ mT (!2) (ek I p #v[(aj ai (!0) ao),!1]))) (Bs T.kE)) (zy (!1) (aj ai (!0) ao) zB))) (aC (aK (bE (aZ p) (aj ai (!0) ao) aV (ah _)) (aC (dU (ek N p #v[!0,!1]))) (aC (aK (bE (aZ p) (aj ai (!0) ao) aV (ah _)) (az (aR 3 qb.nd (aj ai (!1) (aj ai (!0) ao)))
   (az (tG (aj ai (!1) (aj ai (!0) ao)) (zy (!1) (aj ai (!0) ao) zB))
   (aC (tG (!3) (zy (!1) (aj ai (!0) ao) zB))))) cw))))))))) (λS G R h=>?_)
 .let#[row,a,J,s,f,rfl,M,q,j,l,post]:=h;have r:=j.len;have E:∀y:Int,jb s y:=λy=>.inl (by rcases M with rfl|rfl <;> decide);have B:((0:Int)<4294967296)=True:=∅;generalize t:row.d=d;cases row with
  | add x o =>
   have g:x<f.length:=by rw[r];exact q.1
   simp?[<- t,Row.d,eL,C7,decide_false,decide_true,l,ug g];apply gp (v:=.int (val f o)) (G1:=G) (λR h=>#[o,a,f,rfl,l,λy e=>by subst e;rw[r];exact q.2.1,h]) ?_;simp?[l,ug g,Gu g,ym,E,B];exact post _ #[aG,λb j=>aB j]
  | take x o =>
   have g:x<f.length:=by rw[r];exact q.1
   simp?[<- t,Row.d,eL,C7,decide_false,decide_true,l,ug g];apply gp (v:=.int (val f o)) (G1:=G) (λR h=>#[o,a,f,rfl,l,λy e=>by subst e;rw[r];exact q.2.1,h]) ?_;simp?[l,ug g,Gu g,ym,E,B];exact post _ #[aG,λb j=>aB j]
  | turn x i C =>simp?[<- t,Row.d,eL,C7,decide_false,decide_true];apply jR (post:=λd A=>d=.non/\vd a (cB 1 f (.turn x i C)) G A) (λR h=>#[x,i,C,a,J,f,rfl,q,j,l,λA u=>h _ _ #[rfl,u]]) ?_;rintro d A ⟨rfl,u⟩;exact post _ u
  | swap x y =>
   have g:x<f.length:=by rw[r];exact q.1
   have H:y<f.length:=by rw[r];exact q.2.1
   have L:x<(f.set x (gt f y)).length:=by rw[J9];exact g
   have O:y<(f.set x (gt f y)).length:=by rw[J9];exact H
   simp?[<- t,Row.d,eL,C7,decide_false,decide_true,l,ug g,ug H,Gu g,ym,Gu O,ip];exact post _ #[aG,λb j=>aB j]
  | go x m k =>simp?[<- t,Row.d,eL,C7,decide_false,decide_true];exact post _ #[l,λb j=>rfl]| aP x m k =>simp?[<- t,Row.d,eL,C7,decide_false,decide_true];exact post _ #[l,λb j=>rfl]
def x24{n:Nat}:n+1<*T.nV.1<*vt:=by
 apply dk T.nV.1 vz5 (λ_ _ _ _ _ _ g =>
   (aC (aY (qH (bE (aZ g) (aj ai (!0) ao) aV (ah _)) (aj ai (!1) (aj ai (!0) ao)) (aj ai (!0) ao))))) (λj G R h=>?_)
 .let#[o,a,k,rfl,i,f,post]:=h;cases o with
  | num m =>simp?[oZ.d,eL,C7,decide_false,decide_true];exact post| box y =>simp?[oZ.d,eL,C7,decide_false,decide_true,i,ug (f y rfl)];exact post
def x06{n:Nat}:n+1<*T.nK.1<*vj:=by
 apply dk T.nK.1 pV (λ_ _ _ _ _ _ B =>
   (az (lC (jl (aj ai (!0) ao)) (cL 2 pV.nd) (aC (aK (bE (aZ B) (aQ Nk (aQ wr0 (aj ai (!1) (aj ai (!2) ao)) (aj ai (!2) ao)) ao) ao (ah _)) (aC wv4) cw)))
   (aC (tG (aQ xh3 (aj ai (!1) (aj ai (!0) ao)) (aQ Bo ao (aj ai (!0) ao))) (zy (!1) (aj ai (!0) ao) zB))))) (λU G R h=>?_)
 .let#[x,i,g,a,L,j,rfl,I,l,p,post]:=h;have N:=l.len;let#[M,hi,_,E]:=I;have u:x<j.length:=()
  simp?[Row.d];apply lD (λr o t=>Zc λ(f:List (Nat×Nat)) (v:Option D)=>Ai5 (r=f.map cd) (∀c∈f,c∈g) (con j g=con j f) (t=G) (o=[some (Row.turn x i g).d,some (.ref a),v])) #[g,none,rfl,λ_ h=>h,rfl,rfl,rfl] ?_ ?_
  .rintro o t ⟨f,v,m,_,k,rfl,rfl⟩;have H:f=[]:=by simpa using m.symm
   subst H;apply#[trivial,?_];simp?[Row.d,p,ug u,Gu u,ym,v89];apply#[FP () (),?_];apply post _ #[?_,λb l=>aB l];rw[aG];show _=some (DO.lst (Dr D.int (if con j g=true then _ else _)));rw[k];rfl
  .rintro z r o t ⟨f,v,m,y,k,rfl,rfl⟩ A;cases f with
   | nil=>cases m
   | cons c f =>
    cases m;let#[S,Q,O]:=E c (y c C6);have J:c.1<j.length:=()
    simp?[Row.d,cd,p,ug J,vn0];apply#[(),?_];apply eZ (λq=>?_) (λq=>?_)
    .apply post _ #[?_,λb l=>rfl];have:con j g=false:=by rw[k];unfold con;rw[V3,q];rfl
     show _=some (DO.lst (Dr D.int (if con j g=true then _ else _)));rw[this];exact p
    .apply A _ _ #[f,_,rfl,λd C=>y d (C2 _ C),?_,rfl,rfl];rw[k];unfold con;rw[V3];simp[q]
def x20{n:Nat}(pe:n<*T.gY<*ll)(jL:n+1<*T.dH<*jH)(lu:n+1<*T.dZ<*jI)(wJ:n+1<*T.f'<*r_)(wL:n+1<*T.gf<*oX)(wH:n+1<*T.fZ<*oV)(v_:n+1<*T.kH.1<*lh):n+1+1<*T.nS.1<*rS:=by
 apply dk T.nS.1 iz (λ_ _ _ _ _ _ u =>
   (az (aR 3 iz.nd (YN T.gN T.aq.m T.Kk pe u #v[!0,!1]))
   (az (aR 4 iz.nd ao)
   (az (Gh (pB (w_and (bE (lB) (!4) (!2) (ah _)) (wY (mS (fQ T.aq.cl T.f' T.zR wJ u (!3)))))) (aC (FH 4 iz.nd ao x6)))
   (az (aR 5 iz.nd (ek v_ u #v[(fQ T.aq.cl T.gf T.zT wL u (!3)),aV,(fQ T.aq.cl T.fZ T.zP wH u (!3))]))
   (aC (aY (bp #v[!5,(fQ T.aq.cl T.dH T.nh jL u (!3)),(fQ T.aq.cl T.dZ T.rj lu u (!3)),!4])))))))) (λds G R h=>?_)
 .let#[Y,M,Z,f,J,most,B,rfl,EA,tV,c,hp,post]:=h;simp!;intro p O;apply TY (s:=0) O EA tV λt q y nra Ep A1 g1=>?_;dsimp!;dsimp!;apply Gy (λm L i=>mj λ(k s:Nat) (g:List Int)=>zq (m=most-k) (vS true f most 0 J k s g) (gF B f g s) (bc bN i p t q f g s) (Kept p q y i) (L=[some (.tup [Y,.ref M]),some (.ref Z),some (.int (most:Int)),some (.ref p),some (.int (k:Int)),none])) (m:=most)
   #[0,0,J,rfl,vS.init,c,A1,Kept.refl,rfl] ?_
  rintro m L i N ⟨k,s,g,em,E,I,A,Q,rfl⟩ ih;have stop:∀(e:rn true f most 0 J=(k,s,g)),Go ((fz (hJ (iT lh [] (mQ (qS bN "at_end" oX [] (dD 3) eQ) (mQ (dC (.str "end")) (mQ (qS bN "may_forth" oV [] (dD 3) eQ) eQ)))) (tF 5)) (j9 (sY (mQ (dD 5) (mQ (qS bN "place" jH [] (dD 3) eQ) (mQ (qS bN "boxes" jI [] (dD 3) eQ) (mQ (dD 4) eQ))))))) { nx:=λ_ i=>R .non i,rt:=R}) [some (.tup [Y,.ref M]),some (.ref Z),some (.int (most:Int)),some (.ref p),some (.int (k:Int)),none] i:=by
   intro e;dsimp![A.ob,dA];apply gp (v:=.bl (decide (s=f.length))) (G1:=i) (λR h=>#[p,t,q,f,g,s,rfl,A,h]) ?_;simp![A.ob,dA];apply gp (v:=.bl (bw f g s)) (G1:=i) (λR h=>#[p,t,q,f,g,s,B,rfl,A,I,h]) ?_;simp!;apply gp (v:=.str (tE true f g s)) (G1:=i) (λR h=>#[_,_,_,rfl,by
    have ew:(if decide (s=f.length)=true then("end" :Str) else if bw f g s=true then "tired" else "torn")=tE true f g s:=by
     unfold tE;by_cases x:s=f.length
     .rw[decide_eq_true x,if_pos rfl];exact(if_pos (show s=(if true=true then f.length else 0) from x)).symm
     .rw[decide_eq_false x,if_neg C9];exact(if_neg (show¬ s=(if true=true then f.length else 0) from x)).symm
    rw[ew];exact h]) ?_
   dsimp![A.ob,dA];apply gp (v:=.int (s:Int)) (G1:=i) (λR h=>#[p,t,q,f,g,s,rfl,A,h]) ?_;simp![A.ob,dA];apply jR (post:=λd r=>∃j,d=.ref j/\i j=none/\r=aH i j (.lst (g.map .int))) (λR h=>#[p,t,q,f,g,s,rfl,A,λj e=>h _ _ #[j,rfl,e,rfl]]) ?_;rintro d r ⟨j,rfl,C,rfl⟩;simp!;apply#[∅,?_];have H:∀b o,G b=some o->i b=some o:=λb o e=>Q.kp b o (aL e O) (aL e Ep) (g1.kp _ _ e);have YF:G j=none:=by
    cases ez:G j with
    | none=>rfl| some o=>rw[H j o ez] at C;cases C
   have:=post j (aH i j (.lst (g.map .int))) YF (by rw[e];exact aG) #[λb o X=>by rw[aB (aL (H b o X) C)];exact H b o X];rw[e] at this;exact this
  simp!;apply eZ (λS=>?_) (λS=>stop (E.stop (.inl λz=>S ())));simp![A.ob,dA];apply jR (post:=λd r=>(da true f g s=false/\d=.bl false/\r=i)\/(da true f g s=true/\d=.bl true/\bc bN r p t q f (cY true f g s).2 (cY true f g s).1/\∀b,b≠p->b≠q->r b=i b))
   (λR h=>#[p,t,q,f,g,s,B,rfl,A,I,λr x U=>by
    cases l:bw f g s with
    | false=>exact h _ _ (.inl #[l,rfl,x l])| true=>exact h _ _ (.inr #[l,rfl,(U l).1,(U l).2])]) ?_
  rintro d r (⟨l,rfl,rfl⟩|⟨l,rfl,A2,e2⟩)
  .simp!;exact stop (E.stop (.inr l))
  .simp!;have z9:k<most:=()
   exact ih _ _ (most-(k+1)) () #[k+1,_,_,rfl,E.step z9 l,(xV hp I l).1,A2,Q.eqs e2,rfl]
def x21{n:Nat}(pe:n<*T.gY<*ll)(jL:n+1<*T.dH<*jH)(lu:n+1<*T.dZ<*jI)(wK:n+1<*T.gb<*sf)(wM:n+1<*T.gh<*oY)(wI:n+1<*T.f_<*oW)(v_:n+1<*T.kH.1<*lh):n+1+1<*T.nU.1<*vq:=by
 apply dk T.nU.1 iA (λ_ _ _ _ _ _ u =>
   (az (aR 4 iA.nd (YO T.gN T.aq.m pe u #v[!0,!1,!2]))
   (az (aR 5 iA.nd ao)
   (az (Gh (pB (w_and (bE (lB) (!5) (!3) (ah _)) (wY (mS (fQ T.aq.cl T.gb T.zS wK u (!4)))))) (aC (FH 5 iA.nd ao x6)))
   (az (aR 6 iA.nd (ek v_ u #v[(fQ T.aq.cl T.gh T.zU wM u (!4)),aV,(fQ T.aq.cl T.f_ T.zQ wI u (!4))]))
   (aC (aY (bp #v[!6,(fQ T.aq.cl T.dH T.nh jL u (!4)),(fQ T.aq.cl T.dZ T.rj lu u (!4)),!5])))))))) (λds G R h=>?_)
 .let#[Z,O,bx,f,L,x,most,C,rfl,EA,tV,c,hp,post]:=h;simp!;intro p Q;apply TY (s:=x) Q EA tV λt q B nra Ep A1 g1=>?_;dsimp!;dsimp!;apply Gy (λm M i=>mj λ(k s:Nat) (g:List Int)=>zq (m=most-k) (vS false f most x L k s g) (gF C f g s) (bc bN i p t q f g s) (Kept p q B i) (M=[some (.tup [Z,.ref O]),some (.ref bx),some (.int (x:Int)),some (.int (most:Int)),some (.ref p),some (.int (k:Int)),none])) (m:=most)
   #[0,x,L,rfl,vS.init,c,A1,Kept.refl,rfl] ?_
  rintro m M i N ⟨k,s,g,em,H,J,A,S,rfl⟩ ih;have stop:∀(e:rn false f most x L=(k,s,g)),Go ((fz (hJ (iT lh [] (mQ (qS bN "at_begin" oY [] (dD 4) eQ) (mQ (dC (.str "begin")) (mQ (qS bN "may_back" oW [] (dD 4) eQ) eQ)))) (tF 6)) (j9 (sY (mQ (dD 6) (mQ (qS bN "place" jH [] (dD 4) eQ) (mQ (qS bN "boxes" jI [] (dD 4) eQ) (mQ (dD 5) eQ))))))) { nx:=λ_ i=>R .non i,rt:=R}) [some (.tup [Z,.ref O]),some (.ref bx),some (.int (x:Int)),some (.int (most:Int)),some (.ref p),some (.int (k:Int)),none] i:=by
   intro e;dsimp![A.ob,dA];apply gp (v:=.bl (decide (s=0))) (G1:=i) (λR h=>#[p,t,q,f,g,s,rfl,A,h]) ?_;simp![A.ob,dA];apply gp (v:=.bl (cx f g s)) (G1:=i) (λR h=>#[p,t,q,f,g,s,C,rfl,A,J,h]) ?_;simp!;apply gp (v:=.str (tE false f g s)) (G1:=i) (λR h=>#[_,_,_,rfl,by
    have ew:(if decide (s=0)=true then("begin" :Str) else if cx f g s=true then "tired" else "torn")=tE false f g s:=by
     unfold tE;by_cases y:s=0
     .rw[decide_eq_true y,if_pos rfl];exact(if_pos (show s=(if false=true then f.length else 0) from y)).symm
     .rw[decide_eq_false y,if_neg C9];exact(if_neg (show¬ s=(if false=true then f.length else 0) from y)).symm
    rw[ew];exact h]) ?_
   dsimp![A.ob,dA];apply gp (v:=.int (s:Int)) (G1:=i) (λR h=>#[p,t,q,f,g,s,rfl,A,h]) ?_;simp![A.ob,dA];apply jR (post:=λd r=>∃j,d=.ref j/\i j=none/\r=aH i j (.lst (g.map .int))) (λR h=>#[p,t,q,f,g,s,rfl,A,λj e=>h _ _ #[j,rfl,e,rfl]]) ?_;rintro d r ⟨j,rfl,E,rfl⟩;simp!;apply#[∅,?_];have I:∀b o,G b=some o->i b=some o:=λb o e=>S.kp b o (aL e Q) (aL e Ep) (g1.kp _ _ e);have YF:G j=none:=by
    cases ez:G j with
    | none=>rfl| some o=>rw[I j o ez] at E;cases E
   have:=post j (aH i j (.lst (g.map .int))) YF (by rw[e];exact aG) #[λb o Y=>by rw[aB (aL (I b o Y) E)];exact I b o Y];rw[e] at this;exact this
  simp!;apply eZ (λU=>?_) (λU=>stop (H.stop (.inl λz=>U ())));simp![A.ob,dA];apply jR (post:=λd r=>(da false f g s=false/\d=.bl false/\r=i)\/(da false f g s=true/\d=.bl true/\bc bN r p t q f (cY false f g s).2 (cY false f g s).1/\∀b,b≠p->b≠q->r b=i b))
   (λR h=>#[p,t,q,f,g,s,C,rfl,A,J,λr y X=>by
    cases l:cx f g s with
    | false=>exact h _ _ (.inl #[l,rfl,y l])| true=>exact h _ _ (.inr #[l,rfl,(X l).1,(X l).2])]) ?_
  rintro d r (⟨l,rfl,rfl⟩|⟨l,rfl,A2,e2⟩)
  .simp!;exact stop (H.stop (.inr l))
  .simp!;have z9:k<most:=()
   exact ih _ _ (most-(k+1)) () #[k+1,_,_,rfl,H.step z9 l,(xV hp J l).1,A2,S.eqs e2,rfl]
def wz7{n:Nat}:n+1<*T.kH.1<*lh:=by
 apply dk T.kH.1 vy7 (λ_ _ _ _ _ _ f =>
   (az (aK (mS (!0)) (aC (aY (!1))) cw)
   (aC (aY (qH (mS (!2)) aV aV))))) (λg G R h=>?_)
 .let#[a,c,w,rfl,post]:=h;cases a <;> cases c <;> (simp?;exact post)
def x05{n:Nat}(I:n<*T.nJ.1<*vh):n+1<*T.kJ.1<*rN:=by
 apply dk T.kJ.1 pU (λ_ _ _ _ _ _ A =>
   (az (aR 1 pU.nd (aQ gI (dz fD rfl T.bf ∅ #v[(aj ai (!0) ao)]) ao))
   (aC (aY (bp #v[(aj ai (!0) ao),(pq (N':=["row", "last"]) (ix:=[none,some 1]) (jU rfl rfl rfl) (v78 rfl T.gy #v[(aj ai (!0) ao)]) (λ_ _ _ _=>(cL 0 (show(["row", "last"]:List Str).Nodup by decide))) (λ_ _ _ _=>mV) (λ_ _ _ _=>(ek I A #v[!0,!1])))]))))) (λN G R h=>?_)
 .let#[O,x,f,rfl,k,B,M,post]:=h;simp?[k,Bj,B0];intro p q;have u:x≠p:=aL k q;have H:(f.map Row.d).reverse=f.reverse.map Row.d:=by rw[QC]
  rw[H];apply kr (λr o t=>mj λ(i g:List Row) (v:Option D)=>mL (i++g=f.reverse) (r=g.map Row.d) (t=aH G p (.lst ((i.map (mW f.length)).map Row.d))) (o=[v,some (.int ((f.length:Int)-1))])) #[[],f.reverse,none,rfl,rfl,rfl,rfl] ?_ ?_
  .rintro o t ⟨i,g,v,e,l,rfl,rfl⟩;have E:g=[]:=by simpa using l.symm
   subst E;rw[D9] at e;subst e;apply#[by rw[aB u,k];rfl,?_];apply#[∅,post p _ q ?_ (aA.refl.new q)];rw[aG,iO,QC]
  .rintro z r o t ⟨i,g,v,e,l,rfl,rfl⟩ y;cases g with
   | nil=>cases l
   | cons row g =>
    cases l;apply#[by rw[aB u,k];rfl,?_];have J:row∈f:=QD.mp (by rw[<- e];simp);let#[j,C]:=List.getElem?_of_mem J;simp!;apply gp (v:=(mW f.length row).d) (G1:=aH G p (.lst ((i.map (mW f.length)).map Row.d))) (λR h=>#[row,f.length,rfl,B.lt C,h]) ?_;simp!;apply#[?_,y _ _ #[i++[row],g,_,by rw[<- e,D4];rfl,rfl,?_,rfl]]
    .have:=congrArg J5 e;rw[B4,C1,R8] at this;rw[B0,B0];exact C8 (m:=9000000) () ∅
    .rw[ip,B7,B7];rfl
def x04{n:Nat}:n+1<*T.nJ.1<*vh:=by
 apply dk T.nJ.1 vz0 (λ_ _ _ _ _ _ f =>
   (az (aK (bE (aZ f) (aj ai (!0) ao) aV (ah _)) (aC (aY (bp #v[aV,(aj ai (!0) ao),(aj ai (!0) ao)]))) cw)
   (az (aK (bE (aZ f) (aj ai (!0) ao) aV (ah _)) (aC (aY (bp #v[aV,(aj ai (!0) ao),(aj ai (!0) ao)]))) cw)
   (az (aK (bE (aZ f) (aj ai (!0) ao) aV (ah _)) (aC (aY (bp #v[aV,(aj ai (!0) ao),(aj ai (!0) ao),(aQ gI (!1) (aj ai (!0) ao))]))) cw)
   (az (aK (bE (aZ f) (aj ai (!0) ao) aV (ah _)) (aC (aY (bp #v[aV,(aj ai (!0) ao),(aj ai (!0) ao),(aQ gI (!1) (aj ai (!0) ao))]))) cw)
   (aC (aY (!0)))))))) (λj G R h=>?_)
 .let#[row,m,rfl,g,post]:=h;cases row with
  | add x o =>simp?[Row.d,eL,C7,decide_false,decide_true];exact#[∅,post]| take x o =>simp?[Row.d,eL,C7,decide_false,decide_true];exact#[∅,post]| turn x i l =>simp?[Row.d,eL,C7,decide_false,decide_true];exact post| swap x y =>simp?[Row.d,eL,C7,decide_false,decide_true];exact post| go x n k =>
   have:=g x n k (.inl rfl);have e:(m:Int)-1-(k:Int)=((m-1-k:Nat):Int):=()
   simp?[Row.d,eL,C7,decide_false,decide_true,e];exact#[∅,post]
  | aP x n k =>
   have:=g x n k (.inr rfl);have e:(m:Int)-1-(k:Int)=((m-1-k:Nat):Int):=()
   simp?[Row.d,eL,C7,decide_false,decide_true,e];exact#[∅,post]
def x76{n:Nat}:n+1<*T.k_<*vR:=by
 apply dk T.k_ w15 (λ_ _ _ _ _ _ l =>
   (az (xU T.au.cl T.au.jv (!0) (!1))
   (az (xU T.au.cl T.au.jf (!0) (!2))
   (az (xU T.au.cl T.au.cD (!0) (dS mO))
   (aC (xU T.au.cl T.au.rh (!0) ao)))))) (λq G R h=>?_)
 .let#[p,W,m,rfl,k,post]:=h;simp![k,Er,eL,str_beq,C7,decide_false,decide_true,beq_self_eq_true,I0,O8,putD];apply#[∅,?_];dsimp![aG,Er,eL,str_beq,C7,decide_false,decide_true,beq_self_eq_true,I0,O8,putD];apply#[∅,?_];dsimp![aG,Er,eL,str_beq,C7,decide_false,decide_true,beq_self_eq_true,I0,O8,putD];apply#[∅,λj f=>?_];rw[ip] at f;have g:p≠j:=aL aG f;rw[aB (D3 g)] at f;simp![ip,aB g,aG,Er,eL,str_beq,C7,decide_false,decide_true,beq_self_eq_true,I0,O8,putD];apply#[∅,?_];dsimp![aG,Er,eL,str_beq,C7,decide_false,decide_true,beq_self_eq_true,I0,O8,putD];apply#[∅,?_];apply post j _ f #[by rw[aG];rfl,?_] λb o i e=>?_
  .rw[aB (D3 g),aB (D3 g),aG];rfl
  .rw[aB i,aB i,aB (aL e f),aB i];exact e
def x77{n:Nat}:n+1<*T.bF<*d4:=by
 apply dk T.bF w16 (λ_ _ _ _ _ _ k =>
   (az (FV T.au.cl T.au.jf (!0) ao x6)
   (aC (aY (aQ gI (fV T.au.cl T.au.jf (!0)) ao))))) (λm G R h=>?_)
 .let#[p,j,W,f,g,st,rfl,A,post]:=h;simp![A.ob,aI];apply#[Ug,?_];rw[show((f:Int)+1)=((f+1:Nat):Int) by omega,aI.2.2.2.2.2.2.2.2.1];dsimp![aG,aI];rw[show(((f+1:Nat):Int)-1)=(f:Int) by omega];exact post _ #[aG,by rw[aB (D3 A.pr)];exact A.ro] λb o i l e=>by rw[aB i];exact e
def x75{n:Nat}:n+1<*T.bO<*d3:=by
 apply dk T.bO w14 (λ_ _ _ _ _ _ t =>
   (az (dU (Oa (fV T.au.cl T.au.cD (!0)) #v[!1]))
   (aC (FV T.au.cl T.au.rh (!0) (dz fD rfl T.bf ∅ #v[!1]) x6)))) (λx G R h=>?_)
 .let#[p,r,q,W,u,f,new,st,rfl,A,g,k,j,i,post]:=h;simp![A.ob,A.ro,aI,g];apply#[by rw[B0,B0];exact D5 (m:=20000) () ∅,?_];have l:((new.map Row.d).length<=sizeLine)=True:=eq_true (by rw[B0];exact D5 (m:=20000) () ∅);dsimp![aB A.pr,A.ob,aI,aB k,g,l,B0];rw[show((st:Int)+(new.length:Int))=((st+new.length:Nat):Int) by omega];apply#[Ug,?_];rw[aI.2.2.2.2.2.2.2.2.2];apply post _ #[aG,by rw[aB (D3 A.pr),aG,B7]] λb o j i e=>by rw[aB j,aB i];exact e
def x74{n:Nat}(X:n<*T.gZ<*si):n+1<*T.iS<*vQ:=by
 apply dk T.iS w13 (λ_ _ _ _ _ _ O =>
   (az (dU (em T.au.cl T.gZ T.zV X O (!0) #v[!1,ao,!2]))
   (az (dU (em T.au.cl T.gZ T.zV X O (!0) #v[!1,ao,!3]))
   (aC (FV T.au.cl T.au.rh (!0) (aQ cz (dz fD rfl T.bf ∅ #v[!2]) ao) x6))))) (λds G R h=>?_)
 .let#[p,i,q1,q2,W,B,t,f,j,ns,st,rfl,A,J,N,I,M,r,u,h3,post]:=h;have C:∀{G:Gp} {q:Addr} {n:Int} {f new:List Row} {Q:DK},ax bG G p i W B f st->G q=some (.lst (new.map Row.d))->q≠i->f.length<=9000->new.length<=1000->(∀g,ax bG g p i W B (f++(.go t n (f.length+new.length+1)::(new++[.aP t n f.length]))) st->cG p i G g->Q .non g)->∃R,si [.ref p,.int (t:Int),.int n,.ref q] G R/\∀d g,R d g->Q d g:=λA hq Z r u k =>
   jR (post:=λd g=>d=.non/\ax bG g p i W B _ st/\cG p i _ g) (λR h'=>#[p,i,_,W,B,t,_,_,_,st,rfl,A,hq,Z,r,u,λg x y=>h' _ _ #[rfl,x,y]]) λd g ⟨e,x,y⟩=>by subst e;exact k g x y
  have H:∀{G:Gp} {q:Addr} {l:List Row} {f:List Row},ax bG G p i W B f st->G q=some (.lst (l.map Row.d))->q≠p:=λA k z=>by rw[z,A.ob] at k;cases k
  simp![A.ob,aI];apply C A J I () () λG1 E L=>?_;have Jk:=L _ _ (H A N) M N;have U:=L _ _ (H A J) I J;simp![E.ob,aI];dsimp![E.ob,aI];apply C E Jk M (by rw[B4,C1,B4];show f.length+(j.length+1+1)<=9000;omega) () λG2 Y S=>?_;have Xo:=S _ _ (H E U) I U;have l2:((j.map Row.d).length<=sizeLine)=True:=eq_true (by rw[B0];exact D5 (m:=3000) () ∅);simp!;dsimp![Y.ob,aI,Xo,l2,B0];apply#[Ug,?_];rw[show((st:Int)+((j.length:Int)+3))=((st+(j.length+3):Nat):Int) by omega,aI.2.2.2.2.2.2.2.2.2];apply post _ #[aG,?_] λb o r u e=>by rw[aB r];exact S b o r u (L b o r u e)
  rw[aB (D3 A.pr),Y.ro];have e3:(f++(Row.go t 0 (f.length+j.length+1)::(j++[.aP t 0 f.length]))).length=f.length+(j.length+2):=by rw[B4,C1,B4];rfl
  rw[e3,D4];rfl
def x73{n:Nat}:n+1<*T.gZ<*si:=by
 apply dk T.gZ qj (λ_ _ _ _ _ _ H =>
   (az (aR 4 qj.nd (dz fD rfl T.bf ∅ #v[(fV T.au.cl T.au.cD (!0))]))
   (az (dU (pA (fV T.au.cl T.au.cD (!0)) #v[(bp #v[aV,!1,!2,(aQ cz (aQ cz (!4) (dz fD rfl T.bf ∅ #v[!3])) ao)])]))
   (az (dU (Oa (fV T.au.cl T.au.cD (!0)) #v[!3]))
   (aC (dU (pA (fV T.au.cl T.au.cD (!0)) #v[(bp #v[aV,!1,!2,!4])]))))))) (λJ G R h=>?_)
 .let#[p,E,q,W,I,x,n,f,new,st,rfl,A,k,r,y,l,post]:=h;have u:((f.map Row.d).length<=sizeLine)=True:=eq_true (by rw[B0];exact D5 (m:=20000) () ∅);have t:((new.map Row.d).length<=sizeLine)=True:=eq_true (by rw[B0];exact D5 (m:=20000) () ∅);simp![A.ob,A.ro,aI,u];dsimp![A.ob,A.ro,aI,k,t];apply#[∅,by rw[B0];exact C8 (m:=20000) () ∅,?_];have C:(f.map Row.d++[D.tup [D.str "go",.int (x:Int),.int n,.int (((f.map Row.d).length:Int)+((new.map Row.d).length:Int)+1)]])=(f++[Row.go x n (f.length+new.length+1)]).map Row.d:=by rw[B7,B0,B0];rfl
  rw[C];obtain⟨g,i⟩:∃g,g=f++[Row.go x n (f.length+new.length+1)]:=#[_,rfl];have L:g.length=f.length+1:=by rw[i,B4];rfl
  rw[<- i];dsimp![aB A.pr,A.ob,aI,aG,aB r,k];apply#[by rw[B0,B0];exact D5 (m:=20000) () ∅,?_];rw[<- B7];dsimp![aB A.pr,A.ob,aI,aG];apply#[∅,by rw[B0,B4];exact C8 (m:=20000) () ∅,?_];rw[ip,ip];apply post _ #[by rw[aB A.pr];exact A.ob,?_] λb o y l e=>by rw[aB l];exact e
  rw[aG,i];have B:f++(Row.go x n (f.length+new.length+1)::(new++[.aP x n f.length]))=(f++[Row.go x n (f.length+new.length+1)]++new)++[Row.aP x n f.length]:=by simp
  rw[B,B7 (l₁:=f++[Row.go x n (f.length+new.length+1)]++new),B0];rfl
def x01{n:Nat}(Mx:n<*T.k_<*vR)(sm:n+1<*T.gU.1<*xd4):n+1+1<*T.kI.1<*rM:=by
 apply dk T.kI.1 lG (λ_ _ _ _ _ _ A =>
   (az (aR 5 lG.nd (YO T.lX T.au.m Mx A #v[!2,!4]))
   (az (aR 6 lG.nd (vj7 A rfl T.uZ rfl T.gA #v[!1,!3]))
   (az (dU (ek sm A #v[!0,!6,!5]))
   (aC (aY (bp #v[(fV T.au.cl T.au.cD (!5)),(pq (N':=["name", "where"]) (ix:=[none,some 6]) (jU rfl rfl rfl) (jl (!1)) (λ_ _ _ _=>(cL 0 (show(["name", "where"]:List Str).Nodup by decide))) (λ_ _ _ _=>mV) (λ_ _ _ _=>(x9 A (!1) (!0)))),(fV T.au.cl T.au.jf (!5)),(fV T.au.cl T.au.rh (!5))]))))))) (λds G R h=>?_)
 .let#[pc,pa,W,i,f,g,u,rfl,S,JG,I,hb,H,A,hs,me,hsz,hW,post]:=h;simp!;intro p U;have g0:aA G (aH G p (.ins bG [])):=aA.refl.new U;apply jR (post:=λd k=>d=.non/\∃j,G j=none/\j≠p/\ax bG k p j W i [] 0/\aA G k) (λR h=>#[p,W,i,rfl,aG,λj k x1 x2 x3=>h _ _ #[rfl,j,g0.none x1,D3 (aL aG x1),x2,#[λb o e=>x3 b o (aL e U) (g0.kp _ _ e)]]]) ?_;rintro d L ⟨rfl,j,N,WM,A1,g1⟩;apply#[rfl,?_];have Cu:=g1.kp _ _ JG;have uA2:=g1.kp _ _ S;have Y:(f.map Y2).map kD=f.map D.str:=by rw[P9];rfl
  dsimp![Vi];apply#[f.map Y2,g.map nD,by rw[Y];rfl,by show bB (L pa)=_;rw[Cu];rfl,by rw[B0,B0];exact I.symm,by rw[B0];omega,λq Xz=>?_];rw[v64 I H];have g2:aA G (aH L q (.bM (bH f g))):=g1.new Xz;have A2:=A1.new (o:=.bM (bH f g)) Xz;have Z:G q=none:=g1.none Xz;dsimp!;apply jR (post:=λd k=>d=.non/\ax bG k p j W (bt W f u 0 g i).2.2.1 (bt W f u 0 g i).1 (bt W f u 0 g i).2.2.2/\k q=some (.bM (bH f (bt W f u 0 g i).2.1))/\(∀b o,b≠p->b≠j->b≠q->aH L q (.bM (bH f g)) b=some o->k b=some o)) (λR h=>#[.ref pc,p,j,q,W,i,f,g,[],0,u,rfl,A2,aG,by show bB (aH L q (.bM (bH f g)) pc)=_;rw[g2.kp _ _ S];rfl,λz=>aL S N (D.ref.inj z),I,hb,H,A,hs,C8 me ∅,by show 0+22*bZ u<=3960;omega,hW,λk x y z=>h _ _ #[rfl,by rw[J6,L5] at x;exact x,y,z]]) ?_;rintro d G3 ⟨rfl,A3,w3,f3⟩;have g3:aA G G3:=#[λb o e=>f3 b o (aL e U) (aL e N) (aL e Z) (g2.kp _ _ e)];simp!;dsimp![A3.ob,aI];intro p1 E;have Yb:(bt W f u 0 g i).2.1.length=f.length:=(tL hW hb u (a:=0) (fr:=i) A hs I).2.2.2.1;generalize hX:bt W f u 0 g i=X at *;let#[new,WH,f3',uA0]:=X;apply kr (λr M k=>mj λ(l t:List Str) (Q:Option D)=>mL (l++t=f) (r=t.map D.str) (k=aH G3 p1 (.lst ((l.map (gtB f WH)).map nD))) (M=[Q,some (.ref q)])) #[[],f,none,rfl,rfl,rfl,rfl] ?_ ?_
  .rintro M G4 ⟨l,t,Q,B,J,rfl,rfl⟩;have ht:t=[]:=by simpa using J.symm
   subst ht;rw[D9] at B;subst B;apply#[trivial,?_];have A4:=A3.new (o:=.lst ((l.map (gtB l WH)).map nD)) E;simp![A4.ob,aI];rw[UQ H Yb];rw[UQ H Yb] at A4;apply#[∅,post j p1 _ N (g3.none E) ?_ A4.ro aG (g3.new E)];exact aL A3.ro E
  .rintro z t M G4 ⟨l,t,Q,B,J,rfl,rfl⟩ ih;cases t with
   | nil=>cases J
   | cons O t =>
    cases J;apply#[trivial,?_];have hm:O∈f:=by rw[<- B];simp
    have C:=congrArg J5 B;rw[B4,C1] at C;simp![wV];apply#[q,bH f WH,.inr O,_,rfl,rfl,by rw[aB (aL w3 E)];exact w3,yd hm Yb,?_];simp![aG];apply#[C8 (m:=1000) (by rw[B0,B0];omega) ∅,ih _ _ #[l++[O],t,_,by rw[<- B];simp,rfl,?_,rfl]];rw[ip,B7,B7];rfl
def wz9{n dp:Nat}(LL:n<*T.nG.1<*ml dp)(pb:n<*T.kO.1<*oS)(LK:n<*T.nF.1<*vg):n+1<*T.gU.1<*fI (dp+1):=by
 apply dk T.gU.1 jm (λ_ _ _ _ _ _ hr =>
   (aC (lC (jl (!0)) (cL 3 jm.nd) (aC (aK (bE (aZ hr) (aj ai (!3) ao) aV (ah _)) (aC (NR hr (!1) (aj ai (!3) ao) (ek pb hr #v[(aj ai (!3) ao),!1,!2]))) (aC (aK (bE (aZ hr) (aj ai (!3) ao) aV (ah _)) (az (aR 4 jm.nd (ek pb hr #v[(aj ai (!3) ao),!1,!2]))
   (az (aR 5 jm.nd (ek pb hr #v[(aj ai (!3) ao),!1,!2]))
   (aC (NR hr (!1) (aj ai (!3) ao) (ek LK hr #v[(aj ai (!3) ao),!4,!5,!2]))))) (aC (dU (ek LL hr #v[!3,!1,!2])))))))))) (λds G R h=>?_)
 .let#[d,p,C,u,W,H,i,pl,g,st,rs,rfl,A,hw,Q,nd,hl,hb,hn,aE,JI,me,hsz,S,post]:=h;have J:u≠p:=λz=>by rw[z,A.ob] at hw;cases hw
  have L:u≠C:=λz=>by rw[z,A.ro] at hw;cases hw
  have kd:∀M:Gp,(∀b o,b≠p->b≠C->b≠u->G b=some o->M b=some o)->uj M d=some (cq rs):=by
   intro M f;cases d with
   | tup ds=>exact Q| ref a =>
    have yZ:bB (G a)=some (cq rs):=Q;cases e:G a with
    | none=>rw[e] at yZ;cases yZ
    | some o =>
     have n1:a≠p:=λz=>by rw[z,A.ob] at yZ;cases yZ
     have n2:a≠C:=λz=>nd (by rw[z]);have n3:a≠u:=λz=>by rw[z,hw] at yZ;cases yZ
     show bB (M a)=_;rw[f a o n1 n2 n3 e,<- e];exact yZ
   | _=>exact absurd Q (by simp[uj])
  apply xb0 Q rfl λok j6=>?_;apply lD (λr σ M=>ES λ(l t:List av) (Z Y U:Option D)=>zq (l++t=rs) (r=cq t) (ax bG M p C W (bt W i l g.length pl H).2.2.1 (g++(bt W i l g.length pl H).1) (st+(bt W i l g.length pl H).2.2.2)) (M u=some (.bM (bH i (bt W i l g.length pl H).2.1))) (∀b o,b≠p->b≠C->b≠u->G b=some o->M b=some o) (σ=[some d,some (.ref u),some (.ref p),Z,Y,U])) #[[],rs,none,none,none,rfl,rfl,by show ax bG G p C W H (g++[]) (st+0);rw[D9];exact A,hw,λ_ _ _ _ _ e=>e,rfl] ?_ ?_
  .rintro σ G1 ⟨l,t,Z,Y,U,e,e2,A1,B,f1,rfl⟩;have ht:t=[]:=by
    cases t with
    | nil=>rfl| cons x t=>cases e2
   subst ht;rw[D9] at e;subst e;exact#[j6 _ (kd _ f1),post G1 A1 B f1]
  .rintro z r σ G1 ⟨l,t,Z,Y,U,e,e2,A1,B,f1,rfl⟩ ih;cases t with
   | nil=>cases e2
   | cons E t =>
    cases e2;apply#[j6 _ (kd _ f1),?_];have hm:E∈rs:=by rw[<- e];simp
    have OX:=w29 aE hm;have hnr:=w31 JI hm;have uJ:=UR (C03 me) E hm;have N:=v04 (W:=W) (bs:=i) l (r:=E) (a:=g.length) (pl:=pl) (fr:=H);have Jt:bZ rs=bZ l+(pR E+bZ t):=by rw[<- e,D'];rfl
    have Cz:d8 W i l:=by rw[<- e] at aE;exact(d7.mp aE).1
    have hnL:fW l:=by rw[<- e] at JI;exact(fF.mp JI).1
    have hle:=tL S hb l (a:=g.length) (fr:=H) Cz hnL hl;generalize hX:bt W i l g.length pl H=X at *;let#[xr,q,j,xs]:=X;obtain⟨q1,q2,q3,O,q5⟩:xr.length<=22*bZ l/\j<=H+9*bZ l/\H<=j/\q.length=i.length/\xs<=22*bZ l:=hle;have A1:ax bG G1 p C W j (g++xr) (st+xs):=A1;have B:G1 u=some (.bM (bH i q)):=B;have i7:(g++xr).length=g.length+xr.length:=B4;have ld:(bH i q).length<sizeLine:=C8 (m:=1000) (by have:=Gv i q;(omega)) ∅;have N:bt W i (l++[E]) g.length pl H=(xr++(cH W i E (g.length+xr.length) q j).1,(cH W i E (g.length+xr.length) q j).2.1,(cH W i E (g.length+xr.length) q j).2.2.1,xs+(cH W i E (g.length+xr.length) q j).2.2.2):=N;generalize CN:forL ok _ _ _ (cq t)=FL at ih⊢;have yA:∀(I:Gp) (Z Y U:Option D),ax bG I p C W (cH W i E (g.length+xr.length) q j).2.2.1 (g++xr++(cH W i E (g.length+xr.length) q j).1) (st+xs+(cH W i E (g.length+xr.length) q j).2.2.2)->I u=some (.bM (bH i (cH W i E (g.length+xr.length) q j).2.1))->(∀b o,b≠p->b≠C->b≠u->G1 b=some o->I b=some o)->FL [some d,some (.ref u),some (.ref p),Z,Y,U] I:=λI Z Y U B1 B2 B3 =>
     ih _ _ #[l++[E],t,Z,Y,U,by rw[<- e];simp,rfl,by rw[N,<- D4,<- K8];exact B1,by rw[N];exact B2,λb o h1 h2 h3 e=>B3 b o h1 h2 h3 (f1 b o h1 h2 h3 e),rfl]
    have fin:∀(I:Gp) (Z Y U:Option D) (x:Str) (b f2:Nat) (new:List Row),ax bG I p C W f2 (g++xr++new) (st+xs+new.length)->cG p C G1 I->x∈i->cH W i E (g.length+xr.length) q j=(new,eN i q x b,f2,new.length)->FL [some d,some (.ref u),some (.ref p),Z,Y,U] (aH I u (.bM (mR (bH i q) (.inr x) (.int (b:Int))))):=by
     intro I Z Y U x b f2 new A2 a2 hx ev;rw[VJ hx hn O];apply yA _ _ _ _ ?_ ?_ λc o h1 h2 h3 e=>?_
     .rw[ev];exact#[by rw[aB (D3 J)];exact A2.ob,by rw[aB (D3 L)];exact A2.ro]
     .rw[aG,ev]
     .rw[aB h3];exact a2 c o h1 h2 e
    cases E with
    | is x a =>obtain⟨hx,ha⟩:x∈i/\j0 W i a:=OX;have iQ:pR (.is x a)=1:=rfl;simp![gM,Fz];apply NF A1 B O ha (by(omega)) λI A2 a2=>?_;simp!;apply#[u,bH i q,.inr x,rfl,rfl,a2 _ _ J L B,ld,?_];exact fin I _ _ _ x _ _ _ A2 a2 hx rfl
    | op x o a c =>obtain⟨hx,ho,ha,hc⟩:x∈i/\o∈L3.signs/\j0 W i a/\j0 W i c:=OX;have iQ:pR (.op x o a c)=1:=rfl;have d1:(J0 "op" = J0 "is")=False:=eq_false ∅;simp![gM,d1];apply NF A1 B O ha (by(omega)) λI A2 a2=>?_;have tR:=a2 _ _ J L B;have la:=pO (fr:=j) a;have lc:=pO (fr:=bh j a) c;simp!;dsimp!;apply NF A2 tR O hc (by rw[B4];(omega)) λG3 A3 a3=>?_;have hw3:=a3 _ _ J L tR;simp!;dsimp![Fz];apply bQ #[o,ho,p,C,W,bh (bh j a) c,fE i q j a,fE i q (bh j a) c,_,_,rfl,A3,S,by rw[B4,B4];(omega),λG4 A4 a4=>?_];simp!;apply#[u,bH i q,.inr x,rfl,rfl,a4 _ _ J L hw3,ld,?_];apply fin G4 _ _ _ x _ _ _ ?_ (a2.trans (a3.trans a4)) hx rfl;show ax bG G4 p C W (mY (bh (bh j a) c) o) (g++xr++(dF j a++dF (bh j a) c++gC W (fE i q j a) (fE i q (bh j a) c) (bh (bh j a) c) o)) (st+xs+(dF j a++dF (bh j a) c++gC W (fE i q j a) (fE i q (bh j a) c) (bh (bh j a) c) o).length);rw[show g++xr++(dF j a++dF (bh j a) c++gC W (fE i q j a) (fE i q (bh j a) c) (bh (bh j a) c) o)=g++xr++dF j a++dF (bh j a) c++gC W (fE i q j a) (fE i q (bh j a) c) (bh (bh j a) c) o by simp[D4],B4,B4,<- K8,<- K8];exact A4
    | fG a ys ns =>have d1:(J0 "choose" = J0 "is")=False:=eq_false ∅;have d2:(J0 "choose" = J0 "op")=False:=eq_false ∅;have nA:1+max (bj ys) (bj ns)<=dp:=uJ;simp![gM,d1,d2];apply jR (post:=λd M=>d=.non/\ax bG M p C W (cH W i (.fG a ys ns) (g.length+xr.length) q j).2.2.1 (g++xr++(cH W i (.fG a ys ns) (g.length+xr.length) q j).1) (st+xs+(cH W i (.fG a ys ns) (g.length+xr.length) q j).2.2.2)/\M u=some (.bM (bH i (cH W i (.fG a ys ns) (g.length+xr.length) q j).2.1))/\∀b o,b≠p->b≠C->b≠u->G1 b=some o->M b=some o) (λR h'=>#[p,C,u,W,j,i,q,g++xr,st+xs,a,ys,ns,rfl,A1,B,O,hb,hn,OX,hnr,by(omega),by(omega),by(omega),S,λM x y z=>h' _ _ #[rfl,by rw[i7] at x;exact x,by rw[i7] at y;exact y,z]]) ?_;rintro d I ⟨rfl,A2,w2,f2⟩;simp!;exact yA I _ _ _ A2 w2 f2
    | kx k ys=>exact hnr.elim
def x00{n dp:Nat}(bX:n<*T.bF<*d4)(Mu:n<*T.iS<*vQ)(sm:n<*T.gU.1<*fI dp)(pb:n<*T.kO.1<*oS)(LP:n<*T.nL.1<*vk):n+1<*T.nG.1<*ml dp:=by
 apply dk T.nG.1 gs (λ_ _ _ _ _ _ hr =>
   (az (aR 3 gs.nd (qU VA rfl T.gA ∅ #v[!1]))
   (az (dU (ek sm hr #v[(aj ai (!0) ao),!3,!2]))
   (az (aR 4 gs.nd (qU VA rfl T.gA ∅ #v[!1]))
   (az (dU (ek sm hr #v[(aj ai (!0) ao),!4,!2]))
   (az (aR 5 gs.nd (ek LP hr #v[(ek pb hr #v[(aj ai (!0) ao),!1,!2]),!2]))
   (az (dU (xk6 (!1) (!3)))
   (az (Ny 6 gs.nd (N':=["name", "yes", "no"]) (ix:=[none,some 3,some 4]) (jU rfl rfl rfl) (wm3 (!3)) (λ_ _ _ _=>(cL 0 (show(["name", "yes", "no"]:List Str).Nodup by decide))) (λ_ _ _ _=>(UO (bE (iU hr) (vj8 hr (!1) (!0)) (x9 hr (!2) (!0)) (ah _)))) (λ_ _ _ _=>(!0)))
   (az (lC (jl (!6)) (cL 7 gs.nd) (aC (NR hr (!1) (!7) (fQ T.au.cl T.bF T.eE bX hr (!2)))))
   (aC (dU (em T.au.cl T.iS T.Jd Mu hr (!2) #v[!5,(pq (N':=["name", "where", "yes"]) (ix:=[none,some 1,some 3]) (jU rfl rfl rfl) (jl (!6)) (λ_ _ _ _=>(cL 0 (show(["name", "where", "yes"]:List Str).Nodup by decide))) (λ_ _ _ _=>mV) (λ_ _ _ _=>(bp #v[aV,(x9 hr (!1) (!0)),(bp #v[aV,(vj8 hr (!2) (!0))])]))),(pq (N':=["name", "where", "no"]) (ix:=[none,some 1,some 4]) (jU rfl rfl rfl) (jl (!6)) (λ_ _ _ _=>(cL 0 (show(["name", "where", "no"]:List Str).Nodup by decide))) (λ_ _ _ _=>mV) (λ_ _ _ _=>(bp #v[aV,(x9 hr (!1) (!0)),(bp #v[aV,(x9 hr (!2) (!0))])])))])))))))))))) (λds G R h=>?_)
 .let#[p,rp,wa,W,fr,bs,pl,rows,st,c,ys,ns,rfl,A,hw,hl,hb,hn,aE,JI,qy,nz,hsz,hW,post]:=h;obtain⟨hc,oky,okn⟩:j0 W bs c/\d8 W bs ys/\d8 W bs ns:=aE;obtain⟨nty,ntn⟩:fW ys/\fW ns:=JI;have hsz:rows.length+22*(1+bZ ys+bZ ns)<=3960:=hsz;have fh:wa≠p:=λz=>by rw[z,A.ob] at hw;cases hw
  have fg:wa≠rp:=λz=>by rw[z,A.ro] at hw;cases hw
  have hyl:=tL hW hb ys (a:=rows.length) (fr:=fr) oky nty hl;simp![gM];apply#[wa,_,rfl,hw,λpy j5=>?_];have mF:py≠p:=D3 (aL A.ob j5);have mE:py≠rp:=D3 (aL A.ro j5);have mC:py≠wa:=D3 (aL hw j5);dsimp!;apply bQ #[.tup (cq ys),p,rp,py,W,fr,bs,pl,rows,st,ys,rfl,A.new j5,aG,rfl,by simp,hl,hb,hn,oky,nty,qy,by(omega),hW,λG2 A2 y2 f2=>?_];have qF:∀b o,b≠p->b≠rp->G b=some o->G2 b=some o:=λb o h1 h2 e=>f2 b o h1 h2 (aL e j5) (by rw[aB (aL e j5)];exact e);have w2:=qF _ _ fh fg hw;have fo:∀{N:List Row×List Nat×Nat×Nat},bt W bs ns (rows.length+(bt W bs ys rows.length pl fr).1.length) pl (bt W bs ys rows.length pl fr).2.2.1=N->cH W bs (.fG c ys ns) rows.length pl fr=((bt W bs ys rows.length pl fr).1++N.1++dF N.2.2.1 c++[Row.take (bh N.2.2.1 c) (.box (fE bs pl N.2.2.1 c)),Row.turn (bh N.2.2.1 c+1) 0 [(bh N.2.2.1 c,31)]]++s_ (rows.length+((bt W bs ys rows.length pl fr).1++N.1++dF N.2.2.1 c++[Row.take (bh N.2.2.1 c) (.box (fE bs pl N.2.2.1 c)),Row.turn (bh N.2.2.1 c+1) 0 [(bh N.2.2.1 c,31)]]).length) (bh N.2.2.1 c+1) (jd (bh N.2.2.1 c+2) (uY (bt W bs ys rows.length pl fr).2.1 N.2.1)) (jd (bh N.2.2.1 c+2) (uN (bt W bs ys rows.length pl fr).2.1 N.2.1)),gD (bh N.2.2.1 c+2) (bt W bs ys rows.length pl fr).2.1 N.2.1,bh N.2.2.1 c+2+(uY (bt W bs ys rows.length pl fr).2.1 N.2.1).length,(bt W bs ys rows.length pl fr).2.2.2+N.2.2.2+(dF N.2.2.1 c).length+2+((uY (bt W bs ys rows.length pl fr).2.1 N.2.1).length+3)):=λe=>by subst e;rfl
  generalize hY:bt W bs ys rows.length pl fr=Y at *;let#[yr,yp,yf,pj]:=Y;obtain⟨l1,l2,l3,l4,l5⟩:yr.length<=22*bZ ys/\yf<=fr+9*bZ ys/\fr<=yf/\yp.length=bs.length/\pj<=22*bZ ys:=hyl;have A2:ax bG G2 p rp W yf (rows++yr) (st+pj):=A2;have y2:G2 py=some (.bM (bH bs yp)):=y2;have OY:=tL hW hb ns (a:=rows.length+yr.length) (fr:=yf) okn ntn hl;have i7:(rows++yr).length=rows.length+yr.length:=B4;simp!;dsimp!;apply#[wa,_,rfl,w2,λpn kG=>?_];have qu:pn≠p:=D3 (aL A2.ob kG);have qt:pn≠rp:=D3 (aL A2.ro kG);have qr:pn≠wa:=D3 (aL w2 kG);have rg:pn≠py:=D3 (aL y2 kG);dsimp!;apply jR (post:=λd G'=>d=.non/\ax bG G' p rp W (bt W bs ns (rows.length+yr.length) pl yf).2.2.1 (rows++yr++(bt W bs ns (rows.length+yr.length) pl yf).1) (st+pj+(bt W bs ns (rows.length+yr.length) pl yf).2.2.2)/\G' pn=some (.bM (bH bs (bt W bs ns (rows.length+yr.length) pl yf).2.1))/\∀b o,b≠p->b≠rp->b≠pn->aH G2 pn (.bM (bH bs pl)) b=some o->G' b=some o) (λR h'=>#[.tup (cq ns),p,rp,pn,W,yf,bs,pl,rows++yr,st+pj,ns,rfl,A2.new kG,aG,rfl,by simp,hl,hb,hn,okn,ntn,nz,by rw[i7];(omega),hW,λG' x y z=>h' _ _ #[rfl,by rw[i7] at x;exact x,by rw[i7] at y;exact y,z]]) ?_;rintro d G4 ⟨rfl,A4,n4,f4⟩;have qE:∀b o,b≠p->b≠rp->G2 b=some o->G4 b=some o:=λb o h1 h2 e=>f4 b o h1 h2 (aL e kG) (by rw[aB (aL e kG)];exact e);have w4:=qE _ _ fh fg w2;have y4:=qE _ _ mF mE y2;have fo:=fo (N:=bt W bs ns (rows.length+yr.length) pl yf) rfl;generalize hN:bt W bs ns (rows.length+yr.length) pl yf=N at *;let#[nr,np,nf,pC]:=N;obtain⟨m1,m2,m3,m4,m5⟩:nr.length<=22*bZ ns/\nf<=yf+9*bZ ns/\yf<=nf/\np.length=bs.length/\pC<=22*bZ ns:=OY;have A4:ax bG G4 p rp W nf (rows++yr++nr) (st+pj+pC):=A4;have n4:G4 pn=some (.bM (bH bs np)):=n4;have ik:=pO (fr:=nf) c;simp!;dsimp!;apply NF A4 w4 hl hc (by rw[B4,i7];(omega)) λG5 A5 a5=>?_;simp!;apply bQ #[p,rp,W,bh nf c,fE bs pl nf c,_,_,rfl,A5,by rw[B4,B4,i7];(omega),λG6 A6 a6=>?_];have f6:∀b o,b≠p->b≠rp->G4 b=some o->G6 b=some o:=λb o h1 h2 e=>a6 b o h1 h2 (a5 b o h1 h2 e);have w6:=f6 _ _ fh fg w4;have y6:=f6 _ _ mF mE y4;have n6:=f6 _ _ qu qt n4;generalize hF:bh nf c+2=F at *;simp!;dsimp![CQ];apply#[#[wa,_,rfl,w6],wa,py,_,_,rfl,rfl,D3 mC,w6,y6,D5 (m:=1000) (by have:=Gv bs pl;have:=Gv bs yp;(omega)) ∅,?_];rw[vf6 hn hl l4];obtain⟨G7,CM⟩:∃G7,G7=aH G6 wa (.bM (bH bs yp)):=#[_,rfl];have w7:G7 wa=some (.bM (bH bs yp)):=by rw[CM];exact aG
  have y7:G7 py=some (.bM (bH bs yp)):=by rw[CM,aB mC];exact y6
  have n7:G7 pn=some (.bM (bH bs np)):=by rw[CM,aB qr];exact n6
  have A7:ax bG G7 p rp W F (rows++yr++nr++dF nf c++[.take (bh nf c) (.box (fE bs pl nf c)),.turn (bh nf c+1) 0 [(bh nf c,31)]]) (st+pj+pC+(dF nf c).length+2):=by rw[CM];exact#[by rw[aB (D3 fh)];exact A6.ob,by rw[aB (D3 fg)];exact A6.ro]
  have f7:∀b o,b≠p->b≠rp->b≠wa->G b=some o->G7 b=some o:=λb o h1 h2 h3 e=>by rw[CM,aB h3];exact f6 b o h1 h2 (qE b o h1 h2 (qF b o h1 h2 e))
  rw[<- CM];clear CM;generalize jz:rows++yr++nr++dF nf c++[Row.take (bh nf c) (.box (fE bs pl nf c)),.turn (bh nf c+1) 0 [(bh nf c,31)]]=pre at *;generalize xu:st+pj+pC+(dF nf c).length+2=cB at *;dsimp![vx6];apply#[py,bH bs yp,rfl,y7,?_];rw[v45 l4];intro o8;obtain⟨G8,CL⟩:∃G8,G8=aH G7 py (.qC o8 (bH bs yp)):=#[_,rfl];have w8:G8 wa=some (.bM (bH bs yp)):=by rw[CL,aB (D3 mC)];exact w7
  have y8:G8 py=some (.qC o8 (bH bs yp)):=by rw[CL];exact aG
  have n8:G8 pn=some (.bM (bH bs np)):=by rw[CL,aB rg];exact n7
  have A8:ax bG G8 p rp W F pre cB:=by rw[CL];exact#[by rw[aB (D3 mF)];exact A7.ob,by rw[aB (D3 mE)];exact A7.ro]
  have f8:∀b o,b≠p->b≠rp->b≠wa->G b=some o->G8 b=some o:=λb o h1 h2 h3 e=>by rw[CL,aB (aL e j5)];exact f7 b o h1 h2 h3 e
  rw[<- CL];clear CL;intro p1 bT;generalize xv:Go (fz _ _ _)=N9;have qq:py≠p1:=aL y8 bT;have uw:pn≠p1:=aL n8 bT;apply kr (λr σ G'=>mj λ(l t:List Str) (v0:Option D)=>mL (l++t=bs) (r=t.map D.str) (G'=aH G8 p1 (.lst ((l.filter λn=>!decide (gtB bs yp n=gtB bs np n)).map D.str))) (σ=[v0,some (.ref py),some (.ref pn)])) #[[],bs,none,rfl,rfl,rfl,rfl] ?_ ?_
  .rintro σ G9 ⟨l,t,v0,el,e2,rfl,rfl⟩;have ht:t=[]:=by simpa using e2.symm
   subst ht;rw[D9] at el;subst el;apply#[by rw[aB qq];exact y8,?_];rw[ul6 hn l4 m4];have hU:=va1 (bs:=l) (ps:=yp) (qs:=np) l4 m4;have Pn:=Bv (ps:=yp) (qs:=np);have uO:=λx=>Gi (bs:=l) (ps:=yp) (qs:=np) (x:=x);have mf:=UG (f:=F) hn l4 m4;have xt:=Vy (f:=F) hn l4 m4;generalize jc l yp np=U at *;obtain⟨G9,z_⟩:∃G9,G9=aH G8 p1 (.lst (U.map D.str)):=#[_,rfl];have w9:G9 wa=some (.bM (bH l yp)):=by rw[z_,aB (aL w8 bT)];exact w8
   have y9:G9 py=some (.qC o8 (bH l yp)):=by rw[z_,aB qq];exact y8
   have n9:G9 pn=some (.bM (bH l np)):=by rw[z_,aB uw];exact n8
   have u9:G9 p1=some (.lst (U.map D.str)):=by rw[z_];exact aG
   have A9:ax bG G9 p rp W F pre cB:=by rw[z_];exact A8.new bT
   have xh:p1≠wa:=D3 (aL w8 bT);have xk:p1≠p:=D3 (aL A8.ob bT);have xj:p1≠rp:=D3 (aL A8.ro bT);have f9:∀b o,b≠p->b≠rp->b≠wa->G b=some o->G9 b=some o:=λb o h1 h2 h3 e=>by have:=f8 b o h1 h2 h3 e;rw[z_,aB (aL this bT)];exact this
   rw[<- z_];clear z_;rw[<- xv];dsimp![u9];generalize yX:Go (Bm _ _)=NA;apply lD (λr σ G'=>mj λ(u1 u2:List Str) (v7:Option D)=>zq (u1++u2=U) (r=u2.map D.str) (ax bG G' p rp W (F+u1.length) pre cB) (G' wa=some (.bM (bH l (asg l u1 F yp)))) (∀b o,b≠p->b≠rp->b≠wa->G9 b=some o->G' b=some o) (σ=[some (.tup [.str (J0 "choose"),aD c,.tup (cq ys),.tup (cq ns)]),some (.ref wa),some (.ref p),some (.ref py),some (.ref pn),some (.int ((bh nf c+1:Nat):Int)),some (.ref p1),v7])) #[[],U,none,rfl,rfl,A9,w9,λ_ _ _ _ _ e=>e,rfl] ?_ ?_
   .rintro σ EW ⟨u1,u2,v7,eu,e2,zt,jP,qG,rfl⟩;have ht:u2=[]:=by simpa using e2.symm
    subst ht;rw[D9] at eu;subst eu;have tM:=qG _ _ xk xj xh u9;apply#[by rw[tM];rfl,?_];rw[mf] at jP;have xJ:=qG _ _ mF mE mC y9;have ux:=qG _ _ qu qt qr n9;have hml:=Gd (ps:=yp) (qs:=np) (fr:=F) ();rw[<- yX];dsimp![zt.ob,aI,tM];intro q1 j4;have dl:(bH l (gD F yp np)).length<=6:=by have:=Gv l (gD F yp np);(omega)
    apply kr (λr σ G'=>mj λ(a t:List Str) (v0:Option D)=>mL (a++t=u1) (r=t.map D.str) (G'=aH EW q1 (.lst ((a.map λn=>Row.add (gtB l (gD F yp np) n) (.box (gtB l yp n))).map Row.d))) (σ=[v0,some (.ref wa),some (.ref py)])) #[[],u1,none,rfl,rfl,rfl,rfl] ?_ ?_
    .rintro σ tZ ⟨a,t,v0,ea,e2,rfl,rfl⟩;have ht:t=[]:=by simpa using e2.symm
     subst ht;rw[D9] at ea;subst ea;rw[xt.1];obtain⟨tZ,uQ⟩:∃tZ,tZ=aH EW q1 (.lst ((jd F (uY yp np)).map Row.d)):=#[_,rfl];have sT:∀b o,EW b=some o->tZ b=some o:=λb o e=>by rw[uQ,aB (aL e j4)];exact e
     have l9:tZ q1=some (.lst ((jd F (uY yp np)).map Row.d)):=by rw[uQ];exact aG
     have Ba:ax bG tZ p rp W (F+a.length) pre cB:=by rw[uQ];exact zt.new j4
     have ur:q1≠rp:=D3 (aL zt.ro j4);rw[<- uQ];clear uQ;have yi:=sT _ _ tM;apply#[by rw[yi];rfl,?_];simp only[yi,bB];intro q2 rA;apply kr (λr σ G'=>mj λ(b t:List Str) (v0:Option D)=>mL (b++t=a) (r=t.map D.str) (G'=aH tZ q2 (.lst ((b.map λn=>Row.add (gtB l (gD F yp np) n) (.box (gtB l np n))).map Row.d))) (σ=[v0,some (.ref wa),some (.ref pn)])) #[[],a,none,rfl,rfl,rfl,rfl] ?_ ?_
     .rintro σ AU ⟨b,t,v0,eb,e2,rfl,rfl⟩;have ht:t=[]:=by simpa using e2.symm
      subst ht;rw[D9] at eb;subst eb;rw[xt.2];obtain⟨AU,uP⟩:∃AU,AU=aH tZ q2 (.lst ((jd F (uN yp np)).map Row.d)):=#[_,rfl];have uR:∀b o,tZ b=some o->AU b=some o:=λb o e=>by rw[uP,aB (aL e rA)];exact e
      have tQ:AU q2=some (.lst ((jd F (uN yp np)).map Row.d)):=by rw[uP];exact aG
      have A12:ax bG AU p rp W (F+b.length) pre cB:=by rw[uP];exact Ba.new rA
      have BP:q2≠rp:=D3 (aL Ba.ro rA);rw[<- uP];clear uP;apply#[by rw[uR _ _ yi],?_];have hul:=DE (ps:=yp) (qs:=np);have cA:pre.length<=4100:=by rw[<- jz,B4,B4,B4,i7];show rows.length+yr.length+nr.length+(dF nf c).length+2<=4100;omega
      apply bQ #[p,rp,q1,q2,W,F+b.length,bh nf c+1,pre,_,_,cB,rfl,A12,uR _ _ l9,tQ,ur,BP,cA,by rw[ya];(omega),by rw[ya];(omega),λPK A13 ER=>?_];have f13:∀c o,c≠p->c≠rp->EW c=some o->PK c=some o:=λc o h1 h2 e=>ER c o h1 h2 (uR c o (sT c o e));apply post PK ?_ ?_ λc o h1 h2 h3 e=>f13 c o h1 h2 (qG c o h1 h2 h3 (f9 c o h1 h2 h3 e))
      .rw[fo];show ax bG PK p rp W (F+(uY yp np).length) (rows++(yr++nr++dF nf c++[Row.take (bh nf c) (.box (fE l pl nf c)),.turn (bh nf c+1) 0 [(bh nf c,31)]]++s_ (rows.length+(yr++nr++dF nf c++[Row.take (bh nf c) (.box (fE l pl nf c)),.turn (bh nf c+1) 0 [(bh nf c,31)]]).length) (bh nf c+1) (jd F (uY yp np)) (jd F (uN yp np)))) (st+(pj+pC+(dF nf c).length+2+((uY yp np).length+3)));have hP:pre=rows++(yr++nr++dF nf c++[Row.take (bh nf c) (.box (fE l pl nf c)),.turn (bh nf c+1) 0 [(bh nf c,31)]]):=by rw[<- jz];simp only[D4]
       generalize yr++nr++dF nf c++[Row.take (bh nf c) (.box (fE l pl nf c)),.turn (bh nf c+1) 0 [(bh nf c,31)]]=PP at hP⊢;rw[ya,hP,B4,D4,hU,<- xu] at A13;rw[show st+(pj+pC+(dF nf c).length+2+((uY yp np).length+3))=st+pj+pC+(dF nf c).length+2+((uY yp np).length+3) by omega];exact A13
      .rw[fo];exact f13 _ _ fh fg jP
     .rintro z t σ AU ⟨b,t,v0,eb,e2,rfl,rfl⟩ ih;cases t with
      | nil=>cases e2
      | cons x0 t =>cases e2;have hx:x0∈l:=uO x0 (by rw[<- eb];simp);have hlen:=congrArg J5 eb;rw[B4,C1] at hlen;apply#[by rw[aB (aL yi rA),yi],?_];simp![wV];have Bl:=sT _ _ jP;have BV:=sT _ _ ux;apply#[wa,bH l (gD F yp np),.inr x0,_,rfl,rfl,by rw[aB (aL Bl rA)];exact Bl,yd hx (by(omega)),pn,bH l np,.inr x0,_,rfl,rfl,by rw[aB (aL BV rA)];exact BV,yd hx m4,?_];simp![aG];apply#[∅,∅,C8 (m:=1000) (by rw[B0,B0];(omega)) ∅,ih _ _ #[b++[x0],t,_,by rw[<- eb];simp,rfl,?_,rfl]];rw[ip,B7,B7];rfl
    .rintro z t σ tZ ⟨a,t,v0,ea,e2,rfl,rfl⟩ ih;cases t with
     | nil=>cases e2
     | cons x0 t =>cases e2;have hx:x0∈l:=uO x0 (by rw[<- ea];simp);have hlen:=congrArg J5 ea;rw[B4,C1] at hlen;apply#[by rw[aB (aL tM j4),tM];rfl,?_];simp![wV,Nc];apply#[wa,bH l (gD F yp np),.inr x0,_,rfl,rfl,by rw[aB (aL jP j4)];exact jP,yd hx (by(omega)),py,o8,bH l yp,.inr x0,_,rfl,rfl,by rw[aB (aL xJ j4)];exact xJ,yd hx l4,?_];simp![aG];apply#[∅,∅,C8 (m:=1000) (by rw[B0,B0];(omega)) ∅,ih _ _ #[a++[x0],t,_,by rw[<- ea];simp,rfl,?_,rfl]];rw[ip,B7,B7];rfl
   .rintro z r σ EW ⟨u1,u2,v7,eu,e2,zt,jP,qG,rfl⟩ ih;cases u2 with
    | nil=>cases e2
    | cons x0 u2 =>cases e2;have hx:x0∈l:=uO x0 (by rw[<- eu];simp);apply#[by rw[qG _ _ xk xj xh u9];rfl,?_];simp![Fz,zt.ob,aI];apply tI zt λtZ Ba a11=>?_;simp!;have Bl:=a11 _ _ fh fg jP;apply#[wa,bH l (asg l u1 F yp),.inr x0,rfl,rfl,Bl,C8 (m:=1000) (by have:=Gv l (asg l u1 F yp);(omega)) ∅,?_];rw[VJ hx hn (by rw[vm7];exact l4),<- v52];apply ih _ _ #[u1++[x0],u2,_,by rw[<- eu];simp,rfl,?_,aG,λb o h1 h2 h3 e=>by rw[aB h3];exact a11 b o h1 h2 (qG b o h1 h2 h3 e),rfl];rw[B4,show F+(u1.length+[x0].length)=F+u1.length+1 from rfl];exact#[by rw[aB (D3 fh)];exact Ba.ob,by rw[aB (D3 fg)];exact Ba.ro]
  .rintro z t σ G9 ⟨l,t,v0,el,e2,rfl,rfl⟩ ih;cases t with
   | nil=>cases e2
   | cons x0 t =>
    cases e2;apply#[by rw[aB qq];exact y8,?_];have hm:x0∈bs:=by rw[<- el];simp
    simp![Nc,wV];apply#[py,o8,bH bs yp,.inr x0,_,rfl,rfl,by rw[aB qq];exact y8,yd hm l4,?_];apply#[pn,bH bs np,.inr x0,_,rfl,rfl,by rw[aB uw];exact n8,yd hm m4,?_];simp![aG];have hlen:=congrArg J5 el;rw[B4,C1] at hlen;by_cases q:gtB bs yp x0=gtB bs np x0
    .rw[if_neg (by simp[q])];apply ih _ _ #[l++[x0],t,_,by rw[<- el];simp,rfl,?_,rfl];rw[Z3,B28 (by simp[q]),C34,D9]
    .rw[if_pos (by rw[decide_eq_false ()];rfl)];apply#[C8 (m:=1000) (by rw[B0];have:=Z8 (λn=>!decide (gtB bs yp n=gtB bs np n)) l;(omega)) ∅,ih _ _ #[l++[x0],t,_,by rw[<- el];simp,rfl,?_,rfl]];rw[ip,Z3,B29 (by simp[q]),C34,B7];rfl
def x22{n:Nat}(r:n<*T.bF<*d4)(q:n<*T.bO<*d3):n+1<*T.kO.1<*oS:=by
 apply dk T.kO.1 pY (λ_ _ _ _ _ _ g =>
   (az (aK (mS (dz vo0 rfl T.eA ∅ #v[!0,(xb2 (T:= "str") T.u6 ∅)])) (aC (aY (x9 g (!1) (!0)))) cw)
   (az (aR 3 pY.nd (fQ T.au.cl T.bF T.eE r g (!2)))
   (az (dU (em T.au.cl T.bO T.gO q g (!2) #v[(dS #v[(bp #v[aV,!3,(bp #v[aV,!0])])])]))
   (aC (aY (!3))))))) (λL G R h=>?_)
 .let#[p,E,l,W,j,f,st,M,H,a,rfl,A,hw,m,o,J,post]:=h;cases a with
  | num i =>simp![aD,DB];apply#[by simp,?_];rw[if_neg ∅];dsimp![A.ob,aI];apply tI A λN k y=>?_;simp!;dsimp![k.ob,aI];apply#[∅,∅,∅,λI t=>?_];apply xW (new:=[.add j (.num (i:Int))]) k t () (P5 rfl) λB C u=>?_;simp!;dsimp!;exact post B C (y.trans u)| box x =>simp![aD,DB,wV];apply#[by simp,?_];rw[if_pos ∅];exact#[l,_,.inr x,_,rfl,rfl,hw,yd o m,post G (by rw[show f++dF j (.box x)=f from D9 _];exact A) cG.refl]
def wz8{n:Nat}(J:n<*T.nM.1<*xd6)(H:n<*T.oF.1<*xe0)(r:n<*T.kY.1<*Rr)(C:n<*T.oI.1<*xe2)(E:n<*T.oH.1<*xe1)(I:n<*T.nN.1<*xd7)(B:n<*T.oJ.1<*xe3):n+1<*T.nF.1<*vg:=by
 apply DL T.nF.1 vy8 (λu G R h=>?_) (λ_ _ _ _ _ _ g =>
   (az (aK (bE (aZ g) (!0) aV (ah _)) (aC (aY (ek J g #v[!1,!2,!3]))) cw)
   (az (aK (bE (aZ g) (!0) aV (ah _)) (aC (aY (ek H g #v[!1,!2,!3]))) cw)
   (az (aK (bE (aZ g) (!0) aV (ah _)) (aC (aY (ek r g #v[!1,!2,!3]))) cw)
   (az (aK (bE (aZ g) (!0) aV (ah _)) (aC (aY (ek C g #v[!1,!2,!3]))) cw)
   (az (aK (bE (aZ g) (!0) aV (ah _)) (aC (aY (ek E g #v[!1,!2,!3]))) cw)
   (az (aK (bE (aZ g) (!0) aV (ah _)) (aC (aY (ek I g #v[!1,!2,!3]))) cw)
   (aC (aY (ek B g #v[!1,!2,!3])))))))))) (λu G R h=>?_)
 .let#[o,q,p,t,W,f,x,y,m,st,rfl,_]:=h;rfl
 .let#[o,q,p,t,W,f,x,y,m,st,rfl,A,i,L,post]:=h;rcases Vs q with rfl|rfl|rfl|rfl|rfl|rfl|rfl
  .simp![K2,J6];exact ua (xs:=xy) (bx:=λf=>f) (fn:=λf=>f+2) (nw:=λW x y f=>gC W x y f "+") A i () post
  .simp![K2,J6];rw[if_neg ∅];dsimp!;exact ua (xs:=xy) (bx:=λf=>f) (fn:=λf=>f+2) (nw:=λW x y f=>gC W x y f "-") A i () post
  .simp![K2,J6];rw[if_neg ∅];dsimp!;rw[if_neg ∅];dsimp!;exact ua (xs:=xy) (bx:=λf=>f) (fn:=λf=>f+1) (nw:=λW x y f=>cV f x y W) A i () post
  .simp![K2,J6];rw[if_neg ∅];dsimp!;rw[if_neg ∅];dsimp!;rw[if_neg ∅];dsimp!;exact ua (xs:=xy) (bx:=λf=>f+1) (fn:=λf=>f+2) (nw:=λW x y f=>gC W x y f "|") A i () post
  .simp![K2,J6];rw[if_neg ∅];dsimp!;rw[if_neg ∅];dsimp!;rw[if_neg ∅];dsimp!;rw[if_neg ∅];dsimp!;exact ua (xs:=xy) (bx:=λf=>f+1) (fn:=λf=>f+2) (nw:=λW x y f=>gC W x y f "^") A i () post
  .simp![K2,J6];rw[if_neg ∅];dsimp!;rw[if_neg ∅];dsimp!;rw[if_neg ∅];dsimp!;rw[if_neg ∅];dsimp!;rw[if_neg ∅];dsimp!;exact ua (xs:=xy) (bx:=λf=>f+1) (fn:=λf=>f+2) (nw:=λW x y f=>gC W x y f "<") A i () post
  .simp![K2,J6];rw[if_neg ∅];dsimp!;rw[if_neg ∅];dsimp!;rw[if_neg ∅];dsimp!;rw[if_neg ∅];dsimp!;rw[if_neg ∅];dsimp!;rw[if_neg ∅];dsimp!;exact ua (xs:=xy) (bx:=λf=>f+2) (fn:=λf=>f+3) (nw:=λW x y f=>gC W x y f "=") A i () post
def x08{n:Nat}(i:n<*T.bF<*d4)(m:n<*T.bO<*d3):n+1<*T.nM.1<*xd6:=by
 apply dk T.nM.1 lJ (λ_ _ _ _ _ _ f =>
   (az (aR 3 lJ.nd (fQ T.au.cl T.bF T.eE i f (!2)))
   (az (aR 4 lJ.nd (fQ T.au.cl T.bF T.eE i f (!2)))
   (az (dU (em T.au.cl T.bO T.gO m f (!2) #v[(dS #v[(bp #v[aV,!3,(bp #v[aV,!0])]),(bp #v[aV,!3,(bp #v[aV,!1])]),(bp #v[aV,!4,(fV T.au.cl T.au.jv (!2)),(bp #v[(bp #v[!3,(fV T.au.cl T.au.jv (!2))])])]),(bp #v[aV,!3,(bp #v[aV,!4])])])]))
   (aC (aY (!3))))))) (λI G R h=>?_)
 .let#[p,B,W,l,x,y,g,st,rfl,A,H,E,post]:=h;simp![xy,K2,J6,A.ob,aI];apply tI A λL k t=>?_;simp!;dsimp![k.ob,aI];apply tI k λJ j r=>?_;simp!;dsimp![j.ob,aI];apply#[∅,∅,∅,∅,∅,∅,∅,∅,∅,∅,λC o=>?_];apply xW (new:=gC W x y l "+") j o () (P5 rfl) λu A3 q=>?_;simp!;dsimp!;exact post u A3 ((t.trans r).trans q)
def x55{n:Nat}(q:n<*T.bF<*d4)(o:n<*T.bO<*d3)(l:n<*T.jD.1<*MY):n+1<*T.oF.1<*xe0:=by
 apply dk T.oF.1 lS (λ_ _ _ _ _ _ g =>
   (az (aR 3 lS.nd (ek l g #v[!0,!1,!2]))
   (az (aR 4 lS.nd (fQ T.au.cl T.bF T.eE q g (!2)))
   (az (dU (em T.au.cl T.bO T.gO o g (!2) #v[(dS #v[(bp #v[aV,!4,(fV T.au.cl T.au.jv (!2)),(bp #v[(bp #v[!3,(Bs T.bP)])])]),(bp #v[aV,!3,(bp #v[aV,!4])])])]))
   (aC (aY (!3))))))) (λM G R h=>?_)
 .let#[p,E,W,f,x,y,i,st,rfl,A,m,J,post]:=h;simp![xy,K2,J6];apply ua (xs:=xy) (bx:=λf=>f) (fn:=λf=>f+1) (nw:=λ_ x y f=>[.add f (.box x),.take f (.box y)]) A m () λQ k B=>?_;simp!;dsimp![k.ob,aI];apply tI k λO j u=>?_;simp!;dsimp![j.ob,aI];apply#[∅,∅,∅,∅,∅,∅,λH r=>?_];apply xW (new:=[.turn (f+1) W [(f,31)],.add f (.box (f+1))]) j r (by rw[B4];show _+2<=_;omega) (P5 rfl) λC A3 t=>?_;simp!;dsimp!;rw[D4,K8] at A3;exact post C A3 ((B.trans u).trans t)
def x78{n:Nat}(l:n<*T.bF<*d4)(k:n<*T.bO<*d3):n+1<*T.jD.1<*MY:=by
 apply dk T.jD.1 qk (λ_ _ _ _ _ _ g =>
   (az (aR 3 qk.nd (fQ T.au.cl T.bF T.eE l g (!2)))
   (az (dU (em T.au.cl T.bO T.gO k g (!2) #v[(dS #v[(bp #v[aV,!3,(bp #v[aV,!0])]),(bp #v[aV,!3,(bp #v[aV,!1])])])]))
   (aC (aY (!3)))))) (λH G R h=>?_)
 .let#[p,u,W,i,x,y,f,st,rfl,A,E,C,post]:=h;simp![xy,K2,J6,A.ob,aI];apply tI A λI j q=>?_;simp!;dsimp![j.ob,aI];apply#[∅,∅,∅,∅,∅,λB m=>?_];apply xW (new:=[.add i (.box x),.take i (.box y)]) j m () (P5 rfl) λr t o=>?_;simp!;dsimp!;exact post r t (q.trans o)
def x60{n:Nat}(C:n<*T.bF<*d4)(B:n<*T.bO<*d3):n+1<*T.kY.1<*Rr:=by
 apply dk T.kY.1 qd (λ_ _ _ _ _ _ l =>
   (az (aR 3 qd.nd (fQ T.au.cl T.bF T.eE C l (!2)))
   (az (dU (em T.au.cl T.bO T.gO B l (!2) #v[(pq (N':=["bit", "box", "first", "second"]) (ix:=[none,some 3,some 0,some 1]) (jU rfl rfl rfl) (xY rfl T.bL #v[(fV T.au.cl T.au.jv (!2))]) (λ_ _ _ _=>(cL 0 (show(["bit", "box", "first", "second"]:List Str).Nodup by decide))) (λ_ _ _ _=>mV) (λ_ _ _ _=>(bp #v[aV,!1,!0,(bp #v[(bp #v[!2,!0]),(bp #v[!3,!0])])])))]))
   (aC (aY (!3)))))) (λX G R h=>?_)
 .let#[p,O,W,j,x,y,k,st,rfl,A,U,S,post]:=h;simp![xy,K2,J6,A.ob,aI];apply tI A λM o I=>?_;simp!;dsimp![o.ob,aI];apply#[#[(),()],λq E=>?_];apply kr (λr g N=>mj λ(i c:Nat) (v:Option D)=>mL (i+c=W) (r=b_ (i:Int) c) (N=aH M q (.lst ((cV j x y i).map Row.d))) (g=[v,some (.int (j:Int)),some (.int (x:Int)),some (.int (y:Int))])) #[0,W,none,(),rfl,rfl,rfl] ?_ ?_
  .rintro g L ⟨i,c,v,e,f,rfl,rfl⟩;have u:c=0:=by
    cases c with
    | zero=>rfl| succ c=>rw[jX] at f;cases f
   subst u;obtain rfl:i=W:=()
   apply#[trivial,?_];apply xW (new:=cV j x y i) o E () (by unfold cV;rw[B0,J2];omega) λJ A3 H=>?_;simp!;dsimp!;exact post J A3 (I.trans H)
  .rintro z r g L ⟨i,c,v,e,f,rfl,rfl⟩ t;cases c with
   | zero=>cases f
   | succ c =>
    rw[jX] at f;cases f;apply#[trivial,?_];simp![aG];apply#[∅,∅,∅,∅,?_,t _ _ #[i+1,c,_,(),rfl,?_,rfl]]
    .rw[B0];unfold cV;rw[B0,J2];exact C8 (m:=1000) () ∅
    .rw[ip];unfold cV;rw[W5,B7,B7];rfl
def x61{n:Nat}(k:n<*T.kK.1<*rO):n+1<*T.oI.1<*xe2:=by
 apply dk T.oI.1 w05 (λ_ _ _ _ _ _ l =>
   (aC (aY (ek k l #v[!0,!1,ao,!2])))) (λr G R h=>?_)
 .let#[p,j,W,g,x,y,f,st,rfl,A,m,q,post]:=h;simp![xy,K2,J6];exact jR (post:=λd i=>d=.int ((g+1:Nat):Int)/\ax bG i p j W (g+2) (f++gC W x y g "|") (st+(gC W x y g "|").length)/\cG p j G i) (λR o=>#[1,∅,p,j,W,g,x,y,f,st,rfl,A,m,(),λi a b=>o _ _ #[rfl,a,b]]) λd i ⟨e,a,b⟩=>by subst e;exact post i a b
def x59{n:Nat}(k:n<*T.kK.1<*rO):n+1<*T.oH.1<*xe1:=by
 apply dk T.oH.1 w04 (λ_ _ _ _ _ _ l =>
   (aC (aY (ek k l #v[!0,!1,ao,!2])))) (λr G R h=>?_)
 .let#[p,j,W,g,x,y,f,st,rfl,A,m,q,post]:=h;simp![xy,K2,J6];exact jR (post:=λd i=>d=.int ((g+1:Nat):Int)/\ax bG i p j W (g+2) (f++gC W x y g "^") (st+(gC W x y g "^").length)/\cG p j G i) (λR o=>#[2,∅,p,j,W,g,x,y,f,st,rfl,A,m,(),λi a b=>o _ _ #[rfl,a,b]]) λd i ⟨e,a,b⟩=>by subst e;exact post i a b
def x09{n:Nat}(Y:n<*T.bF<*d4)(X:n<*T.bO<*d3)(L:n<*T.kY.1<*Rr):n+1<*T.kK.1<*rO:=by
 apply DL T.kK.1 lK (λU G R h=>?_) (λ_ _ _ _ _ _ l =>
   (az (aR 4 lK.nd (ek L l #v[!0,!1,!3]))
   (az (aR 5 lK.nd (fQ T.au.cl T.bF T.eE Y l (!3)))
   (az (dU (em T.au.cl T.bO T.gO X l (!3) #v[(aQ cz (dS #v[(bp #v[aV,!5,(bp #v[aV,!0])]),(bp #v[aV,!5,(bp #v[aV,!1])])]) (aQ mT (dS #v[(bp #v[aV,!5,(bp #v[aV,!4])])]) (!2)))]))
   (aC (aY (!5))))))) (λU G R h=>?_)
 .let#[n,O,p,i,W,f,x,y,g,st,rfl,_]:=h;rfl
 .let#[n,O,p,i,W,f,x,y,g,st,rfl,A,Q,hl,post]:=h;have hand:(cV f x y W).length=W:=by unfold cV;rw[B0,J2]
  simp![K2,J6,A.ob,aI];apply ua (xs:=xy) (bx:=λf=>f) (fn:=λf=>f+1) (nw:=λW x y f=>cV f x y W) A Q () λG1 J a1=>?_;simp!;dsimp![J.ob,aI];apply tI J λG2 I a2=>?_;simp!;dsimp![I.ob,aI];apply#[∅,∅,∅,∅,∅,λj E=>?_];simp!;apply#[∅,∅,∅,λB q=>#[#[(),(),D5 (m:=10) () ∅],λu k=>?_]];have N:∀{o2 o3:DO},aH (aH (aH G2 j (.lst (([.add (f+1) (.box x),.add (f+1) (.box y)]:List Row).map Row.d))) B o2) u o3 j=some (.lst (([.add (f+1) (.box x),.add (f+1) (.box y)]:List Row).map Row.d)):=λ{o2 o3}=>by
   have C:j≠B:=aL aG q;have M:j≠u:=λz=>by rw[<- z,aB C,aG] at k;cases k
   rw[aB M,aB C,aG]
  apply zF N aG (by rw[Q9,S8];exact D5 (m:=10) (by show 2+n<=10;omega) ∅) λp4 OW=>?_;have S:([Row.add (f+1) (.box x),.add (f+1) (.box y)]:List Row).map Row.d++(D2 n [D.tup [.str "take",.int ((f+1:Nat):Int),.tup [.str "box",.int (f:Int)]]]).flatten=([.add (f+1) (.box x),.add (f+1) (.box y)]++D2 n (.take (f+1) (.box f)):List Row).map Row.d:=by rw[Q9,B7,B88];rfl
  rw[S];have t:=((I.new (o:=.lst (([.add (f+1) (.box x),.add (f+1) (.box y)]:List Row).map Row.d)) E).new (o:=.lst (([.take (f+1) (.box f)]:List Row).map Row.d)) q).new (o:=.lst ((D2 n [D.tup [.str "take",.int ((f+1:Nat):Int),.tup [.str "box",.int (f:Int)]]]).flatten)) k;have r:=((cG.refl (p:=p) (rp:=i)).new (o:=.lst (([.add (f+1) (.box x),.add (f+1) (.box y)]:List Row).map Row.d)) E).new (o:=.lst (([.take (f+1) (.box f)]:List Row).map Row.d)) q |>.new (o:=.lst ((D2 n [D.tup [.str "take",.int ((f+1:Nat):Int),.tup [.str "box",.int (f:Int)]]]).flatten)) k
  apply xW (new:=[.add (f+1) (.box x),.add (f+1) (.box y)]++D2 n (.take (f+1) (.box f))) t OW (by rw[B4,hand];omega) (by rw[B4,S8];show 2+n<=1000;omega) λH A3 Z=>?_;simp!;dsimp!;apply post H ?_ ((a1.trans a2).trans (r.trans Z));show ax bG H p i W (f+2) (g++(cV f x y W++([.add (f+1) (.box x),.add (f+1) (.box y)]++D2 n (.take (f+1) (.box f))))) (st+(cV f x y W++([Row.add (f+1) (.box x),.add (f+1) (.box y)]++D2 n (Row.take (f+1) (.box f)))).length);rw[B4 (as:=cV f x y W),<- K8,<- D4];exact A3
def x14{n:Nat}(q:n<*T.bF<*d4)(o:n<*T.bO<*d3)(l:n<*T.jD.1<*MY):n+1<*T.nN.1<*xd7:=by
 apply dk T.nN.1 lL (λ_ _ _ _ _ _ g =>
   (az (aR 3 lL.nd (ek l g #v[!0,!1,!2]))
   (az (aR 4 lL.nd (fQ T.au.cl T.bF T.eE q g (!2)))
   (az (dU (em T.au.cl T.bO T.gO o g (!2) #v[(dS #v[(bp #v[aV,!4,ao,(bp #v[(bp #v[!3,(Bs T.bP)])])])])]))
   (aC (aY (!4))))))) (λM G R h=>?_)
 .let#[p,E,W,f,x,y,i,st,rfl,A,m,J,post]:=h;simp![xy,K2,J6];apply ua (xs:=xy) (bx:=λf=>f) (fn:=λf=>f+1) (nw:=λ_ x y f=>[.add f (.box x),.take f (.box y)]) A m () λQ k B=>?_;simp!;dsimp![k.ob,aI];apply tI k λO j u=>?_;simp!;dsimp![j.ob,aI];apply#[∅,∅,∅,∅,λH r=>?_];apply xW (new:=[.turn (f+1) 0 [(f,31)]]) j r (by rw[B4];show _+2<=_;omega) (P5 rfl) λC A3 t=>?_;simp!;dsimp!;rw[D4,K8] at A3;exact post C A3 ((B.trans u).trans t)
def x63{n:Nat}(r:n<*T.bF<*d4)(q:n<*T.bO<*d3)(k:n<*T.jD.1<*MY):n+1<*T.oJ.1<*xe3:=by
 apply dk T.oJ.1 ju (λ_ _ _ _ _ _ i =>
   (az (aR 3 ju.nd (ek k i #v[!0,!1,!2]))
   (az (aR 4 ju.nd (ek k i #v[!1,!0,!2]))
   (az (aR 5 ju.nd (fQ T.au.cl T.bF T.eE r i (!2)))
   (az (dU (em T.au.cl T.bO T.gO q i (!2) #v[(dS #v[(bp #v[aV,!5,ao,(bp mO)]),(bp #v[aV,!5,ao,(bp #v[(bp #v[!3,(Bs T.bP)])])]),(bp #v[aV,!5,ao,(bp #v[(bp #v[!4,(Bs T.bP)])])])])]))
   (aC (aY (!5)))))))) (λQ G R h=>?_)
 .let#[p,j,W,f,x,y,g,st,rfl,A,l,N,post]:=h;simp![xy,K2,J6];apply ua (xs:=xy) (bx:=λf=>f) (fn:=λf=>f+1) (nw:=λ_ x y f=>[.add f (.box x),.take f (.box y)]) A l () λY J E=>?_;simp!;dsimp!;have H:(g++[Row.add f (.box x),.take f (.box y)]).length+2*0<=4100:=by rw[B4];show _+2+0<=_;omega
  apply bQ #[p,j,W,f+1,y,x,_,_,rfl,J,l,H,λX o C=>?_];simp!;dsimp![o.ob,aI];apply tI o λU A3 B=>?_;simp!;dsimp![A3.ob,aI];apply#[∅,∅,∅,∅,∅,∅,∅,∅,∅,λL t=>?_];apply xW (new:=[.turn (f+2) 0 [],.turn (f+2) 0 [(f,31)],.turn (f+2) 0 [(f+1,31)]]) A3 t (by rw[B4,B4];show _+2+2<=_;omega) (P5 rfl) λm I u=>?_;simp!;dsimp!;apply post m ?_ ((E.trans C).trans (B.trans u));show ax bG m p j W (f+3) (g++(([Row.add f (.box x),.take f (.box y)]++[.add (f+1) (.box y),.take (f+1) (.box x)])++[.turn (f+2) 0 [],.turn (f+2) 0 [(f,31)],.turn (f+2) 0 [(f+1,31)]])) (st+2+2+3);rw[<- D4,<- D4];exact I
def x07{n:Nat}(j:n<*T.bF<*d4)(m:n<*T.bO<*d3):n+1<*T.nL.1<*vk:=by
 apply dk T.nL.1 lI (λ_ _ _ _ _ _ f =>
   (az (aR 2 lI.nd (fQ T.au.cl T.bF T.eE j f (!1)))
   (az (aR 3 lI.nd (fQ T.au.cl T.bF T.eE j f (!1)))
   (az (dU (em T.au.cl T.bO T.gO m f (!1) #v[(dS #v[(bp #v[aV,!2,(bp #v[aV,!0])]),(bp #v[aV,!3,ao,(bp #v[(bp #v[!2,(Bs T.bP)])])])])]))
   (aC (aY (!3))))))) (λE G R h=>?_)
 .let#[p,y,W,g,x,i,st,rfl,A,C,post]:=h;simp![A.ob,aI];apply tI A λI l t=>?_;simp!;dsimp![l.ob,aI];apply tI l λH k r=>?_;simp!;dsimp![k.ob,aI];apply#[∅,∅,∅,∅,∅,∅,λB o=>?_];apply xW (new:=[.take g (.box x),.turn (g+1) 0 [(g,31)]]) k o () (P5 rfl) λu A3 q=>?_;simp!;dsimp!;exact post u A3 ((t.trans r).trans q)
def x32{n:Nat}(wB:n<*T.kU.1<*rZ)(wc:n<*T.kJ.1<*rN)(wb:n<*T.kI.1<*rM):n+1<*T.oh.1<*vD:=by
 apply dk T.oh.1 iB (λ_ _ _ _ _ _ A =>
   (az (aR 6 iB.nd (dz fD rfl T.bf ∅ #v[(aj ai (!2) ao)]))
   (az (aR 7 iB.nd (ek wb A #v[!1,(aj ai (!2) ao),(aj ai (!2) ao),(vj6 A rfl T.bL rfl T.fA #v[!3,(aQ cz (!3) (!6))]),!5]))
   (az (aR 8 iB.nd (bp #v[(aj ai (!7) ao),(aj ai (!7) ao)]))
   (az (Ny 9 iB.nd (N':=["at", "place", "word", "target"]) (ix:=[none,none,some 0,some 4]) (jU rfl rfl rfl) (VS rfl T.cU #v[(aj ai (!7) ao)]) (λ_ _ _ _=>(xT (n:=2) rfl (jW (cL 0 (show(["at", "place", "word", "target"]:List Str).Nodup by decide)) (jW (cL 1 (show(["at", "place", "word", "target"]:List Str).Nodup by decide)) xZ)))) (λ_ _ _ _=>mV) (λ_ _ _ _=>(bp #v[!2,(aQ cz (!3) (!0)),(bp #v[aV,!1])])))
   (aC (aY (ek wB A #v[(dS #v[!8,(bp #v[(aj ai (!7) ao),!9]),(ek wc A #v[!8])])])))))))) (λds G R h=>?_)
 .let#[add,pc,W,i,E,x,f,g,B,rfl,ik,ok,hW,J',h1,h2,h3,post]:=h;have hb:=ok.nb;simp![B0];dsimp![Vj];apply#[#[(),()],λp J=>?_];have A:b_ (f:Int) ((f:Int)+(i.length:Int)-(f:Int)).toNat=(bR f i.length).map nD:=by rw[show((f:Int)+(i.length:Int)-(f:Int)).toNat=i.length by omega];unfold b_ bR;rw[P9];exact M9 λk _=>by show D.int _=D.int _;congr 1
  rw[A];apply bQ #[pc,p,W,B,i,bR f i.length,E,rfl,by rw[aB (aL ik J)];exact ik,aG,by unfold bR;rw[B0,J2],ok.nb,ok.nd,ok.ok,ok.nt,ok.dp,ok.sz,ok.hW,λu q2 N n1 n2 n3 k1 I g2=>?_];have g0:=(aA.refl (G:=G) |>.new (o:=.lst ((bR f i.length).map nD)) J).trans g2;have cA:(bR f i.length).length=i.length:=by unfold bR;rw[B0,J2]
  have wl:=tL (a:=0) (fr:=B) ok.hW ok.nb E ok.ok ok.nt cA;have wp:=(sG (a:=0) (fr:=B) ok.hW E ok.ok ok.nt cA λp J=>UY h1 J).1.pr.pairs;unfold iZ at post;generalize hZ:(bt W i E 0 (bR f i.length) B)=Z at *;dsimp!;dsimp!;apply#[∅,?_];let#[l1,l2,l3,lz,l5]:=wl;simp![FJ,I,bB];intro q X;have U:u≠q:=aL k1 X;have C:q2≠q:=aL I X;apply kr (λr O G'=>tj λ(l t:List Nat) (S Q:Option D)=>mL (l++t=Z.2.1) (r=xA l.length (t.map nD)) (G'=aH N q (.lst (((E6 l.length).map λj=>if add=true then Row.add (g+j) (.box (Z.2.1.getD j 0)) else Row.take (g+j) (.box (Z.2.1.getD j 0))).map Row.d))) (O=[S,Q,some (.str (Sd add)),some (.int (g:Int))])) #[[],Z.2.1,none,none,rfl,rfl,rfl,rfl] ?_ ?_
  .rintro O G3 ⟨l,t,S,Q,e,M,rfl,rfl⟩;have ht:t=[]:=by
    cases t with
    | nil=>rfl| cons x t=>cases M
   subst ht;rw[D9] at e;subst e;apply#[by rw[aB C,I],?_];have Y:aH N q (.lst (((E6 Z.2.1.length).map λj=>if add=true then Row.add (g+j) (.box (Z.2.1.getD j 0)) else Row.take (g+j) (.box (Z.2.1.getD j 0))).map Row.d)) q=some (.lst ((dr add g Z.2.1).map Row.d)):=aG;have lc:(dr add g Z.2.1).length<=4000:=by unfold dr;rw[B0,J2];omega
   have OS:aH N q (.lst (((E6 Z.2.1.length).map λj=>if add=true then Row.add (g+j) (.box (Z.2.1.getD j 0)) else Row.take (g+j) (.box (Z.2.1.getD j 0))).map Row.d)) u=some (.lst (Z.1.map Row.d)):=by rw[aB U];exact k1
   have g3:=g0.new (o:=.lst (((E6 Z.2.1.length).map λj=>if add=true then Row.add (g+j) (.box (Z.2.1.getD j 0)) else Row.take (g+j) (.box (Z.2.1.getD j 0))).map Row.d)) X;generalize aH N q (.lst (((E6 Z.2.1.length).map λj=>if add=true then Row.add (g+j) (.box (Z.2.1.getD j 0)) else Row.take (g+j) (.box (Z.2.1.getD j 0))).map Row.d))=G3 at *;dsimp!;apply#[∅,?_];apply bQ #[_,u,Z.1,rfl,OS,wp,(),λH G4 n4 k4 g4=>?_];simp!;apply#[∅,λp5 tT=>?_];have L:=g4.new (o:=.lst ([cQ.mk Z.2.2.1 u Z.1,cQ.mk Z.2.2.1 q (dr add g Z.2.1),cQ.mk Z.2.2.1 H (iO Z.1)].map cQ.d)) tT;apply bQ #[p5,[cQ.mk Z.2.2.1 u Z.1,cQ.mk Z.2.2.1 q (dr add g Z.2.1),cQ.mk Z.2.2.1 H (iO Z.1)],rfl,aG,?_,by simp,by simp,λq6 G6 n6 k6 g6=>?_]
   .intro c hc;have lt:(iO Z.1).length<=4000:=by unfold iO;rw[R8,B0];omega
    simp only[D7,Y7,or_false] at hc;rcases hc with rfl|rfl|rfl
    .exact⟨L.kp _ _ OS,by show Z.1.length<=4000;omega⟩
    .exact⟨L.kp _ _ Y,lc⟩
    .exact⟨by show aH G4 p5 _ H=_;rw[aB (aL k4 tT)];exact k4,lt⟩
   .have hm:tP [cQ.mk Z.2.2.1 u Z.1,cQ.mk Z.2.2.1 q (dr add g Z.2.1),cQ.mk Z.2.2.1 H (iO Z.1)]=Z.2.2.1:=by show max Z.2.2.1 (max Z.2.2.1 (max Z.2.2.1 0))=_;simp
    rw[hm];exact post q6 G6 ((g3.trans L).none n6) k6 ((g3.trans L).trans g6)
  .rintro z r O G3 ⟨l,t,S,Q,e,M,rfl,rfl⟩ ih;cases t with
   | nil=>cases M
   | cons y t =>
    cases M;apply#[by rw[aB C,I],?_];have hy:Z.2.1.getD l.length 0=y:=by rw[<- e,F4,E7 (B9 _),Fl];rfl
    have uI:l.length<i.length:=by rw[<- lz,<- e,B4,C1];omega
    simp![aG];apply#[∅,∅,?_,ih _ _ #[l++[y],t,_,_,by rw[<- e];simp,by rw[B4];rfl,?_,rfl]]
    .rw[B0,B0,J2];exact C8 (m:=1000) () ∅
    .rw[ip,B4,O4,W5,B7,B7];have Jo:Z.2.1[l.length]?.getD 0=y:=by rw[<- F4];exact hy
     cases add <;> simp[Row.d,Sd,oZ.d,Jo,nD]
def x31{n:Nat}(m:n<*T.kI.1<*rM):n+1<*T.og.1<*vC:=by
 apply dk T.og.1 lM (λ_ _ _ _ _ _ g =>
   (az (aR 2 lM.nd (dz fD rfl T.bf ∅ #v[(aj ai (!1) ao)]))
   (az (aR 3 lM.nd (ek m g #v[!0,(aj ai (!1) ao),(aj ai (!1) ao),(v80 g rfl T.bL rfl T.fA #v[!2]),!2]))
   (aC (aY (aQ cz (aQ mT ao (aj ai (!3) ao)) (!2))))))) (λE G R h=>?_)
 .let#[pc,W,f,i,x,rfl,j,ok,post]:=h;simp![B0];have y:=ok.nb;dsimp![VE];apply#[#[(),()],λp l=>?_];have g:b_ 0 ((f.length:Int)-0).toNat=(E6 f.length).map nD:=by rw[show((f.length:Int)-0).toNat=f.length by omega];unfold b_;exact M9 λk _=>by show D.int _=D.int _;congr 1;omega
  rw[g];apply bQ #[pc,p,W,f.length,f,E6 f.length,i,rfl,by rw[aB (aL j l)];exact j,aG,J2,ok.nb,ok.nd,ok.ok,ok.nt,ok.dp,ok.sz,ok.hW,λr q o C B A u t g2=>?_];have post:=post o ((aA.refl.new l).trans g2);unfold iu at post;generalize (bt W f i 0 (E6 f.length) f.length)=Z at *;dsimp!;apply#[.inl ∅,?_];rw[show(2:Int)*(Z.2.2.2:Int)+(f.length:Int)=((2*Z.2.2.2+f.length:Nat):Int) by omega];exact post
def x23{n:Nat}(f:n<*T.gV.1<*xd5):n+1<*T.kP.1<*rT:=by
 apply dk T.kP.1 vz4 (λ_ _ _ _ _ _ g =>
   (aC (aY (ek f g #v[(aj ai (!0) ao)])))) (λo G R h=>?_)
 .let#[x,y,l,rfl,m,j,i,post]:=h;simp!;exact bQ #[_,rfl,(),j,i,λq k a b c=>post q k a b c]
def x03{n dp:Nat}(U:n<*T.nH.1<*mm dp):n+1<*T.gV.1<*fJ (dp+1):=by
 apply dk T.gV.1 lH (λ_ _ _ _ _ _ N =>
   (az (aR 1 lH.nd (dS mO))
   (az (lC (jl (!0)) (cL 2 lH.nd) (aC (dU (Oa (!1) #v[(ek U N #v[!2])]))))
   (aC (aY (!1)))))) (λZ G R h=>?_)
 .let#[i,rfl,Q,hw,S,post]:=h;simp!;apply#[∅,λp A=>?_];dsimp!;apply lD (λr u E=>mj λ(l t:List av) (y:Option D)=>Ai5 (l++t=i) (r=cq t) (aA G E) (E p=some (.lst (cq (aW l)))) (u=[some (.tup (cq i)),some (.ref p),y])) #[[],i,none,rfl,rfl,aA.refl.new A,aG,rfl] ?_ ?_
  .rintro u C ⟨l,t,y,e,k,g,j,rfl⟩;have M:t=[]:=by
    cases t with
    | nil=>rfl| cons x t=>cases k
   subst M;rw[D9] at e;subst e;apply#[trivial,?_];dsimp!;exact post p C A j g
  .rintro x r u C ⟨l,t,y,e,k,g,j,rfl⟩ J;cases t with
   | nil=>cases k
   | cons f t =>
    cases k;apply#[trivial,?_];have B:f∈i:=by rw[<- e];simp
    have H:=UR (C03 Q) f B;have L:=vx1 B;have Y:dw l+(qP f+dw t)=dw i:=by rw[<- e,U_];rfl
    have O:=vd7 l;simp![j];apply bQ #[_,rfl,H,(),(w48 S B),λq G2 f2 I g2=>?_];have X:=g2.kp _ _ j;have WR:p≠q:=aL j f2;have OX:(iX f).length<=qP f:=by have:=Ue (iX f);rw[w27] at this;exact this
    simp![X,I];apply#[D5 (m:=2000) (by rw[ye,ye];omega) ∅,J _ _ #[l++[f],t,_,by rw[<- e];simp,rfl,#[λc o h=>?_],?_,rfl]]
    .rw[aB (aL h A)];exact g2.kp _ _ (g.kp _ _ h)
    .rw[aG,v26,<- ut6];simp[aW]
def x02{n dp:Nat}(l:n<*T.gV.1<*fJ dp):n+1<*T.nH.1<*mm dp:=by
 apply dk T.nH.1 vy9 (λ_ _ _ _ _ _ i =>
   (az (aK (bE (aZ i) (aj ai (!0) ao) aV (ah _)) (aC (aY (qH (bE (aZ i) (aj ai (!0) ao) ao (ah _)) (dS mO) (aQ mT (ek l i #v[(aj ai (!0) ao)]) (aj ai (!0) ao))))) cw)
   (az (aK (bE (aZ i) (aj ai (!0) ao) aV (ah _)) (aC (aY (dS #v[(bp #v[aV,(aj ai (!0) ao),(qU Oo rfl T.fH ∅ #v[(ek l i #v[(aj ai (!0) ao)])]),(qU Oo rfl T.fH ∅ #v[(ek l i #v[(aj ai (!0) ao)])])])]))) cw)
   (aC (aY (dS #v[!0])))))) (λQ G R h=>?_)
 .let#[r,rfl,A,hw,j,post]:=h;cases r with
  | is x a =>simp![gM];dsimp!;dsimp!;exact#[∅,λp f=>post p _ f aG (aA.refl.new f)]| op x o a b =>simp![gM];dsimp!;dsimp!;exact#[∅,λp f=>post p _ f aG (aA.refl.new f)]| fG a g y =>
   simp![gM];have E:1+max (bj g) (bj y)<=dp:=A;have B:1+dw g+dw y<=1000:=hw;rw[if_neg ∅];apply bQ #[_,rfl,(),(),j.1,λC N f1 q g1=>?_];simp![q,bB];apply bQ #[_,rfl,(),(),j.2,λO S f2 H g2=>?_];simp![H,bB];apply#[∅,∅,λp f=>post p _ ?_ ?_ ((g1.trans g2).new f)]
   .exact(g1.trans g2).none f
   .rw[aG];rfl
  | kx k g =>
   have E:1+bj g<=dp:=A;have B:k*dw g<=1000:=hw;simp![gM];apply eZ (λL=>?_) (λL=>?_)
   .have u:k=0:=()
    subst u;exact#[∅,λp f=>post p _ f (by rw[aG];rfl) (aA.refl.new f)]
   .have J:dw g<=k*dw g:=A49 _ ();apply bQ #[_,rfl,(),(),j.2.1,λC N f1 q g1=>?_];simp![q];have t:=vd7 g;have M:(aW g).length*k<=1000:=D5 (M4 k t) (by rw[Qi];exact B);have I:=j.2.2;apply#[#[(),(),D5 (m:=1000) (by rw[ye];exact M) ∅],λp f=>post p _ (g1.none f) ?_ (g1.new f)];rw[aG,ut5];rfl
def x10{n:Nat}(wq:n<*T.kP.1<*rT):n+1<*T.kL.1<*rP:=by
 apply dk T.kL.1 gu (λ_ _ _ _ _ _ Y =>
   (az (aR 2 gu.nd (ek wq Y #v[!0]))
   (az (aK (pB (w_or (bE (aZ Y) (dz fD rfl T.bf ∅ #v[!1]) ao (ah _)) (w_or (bE (lB) (dz wr2 rfl T.rG ∅ #v[!1]) ao (ah _)) (DG (bE (iU Y) (dz wq9 rfl T.rF ∅ #v[!1]) (dz fD rfl T.bf ∅ #v[!2]) (ah _)))))) (aC UU) cw)
   (az (aR 3 gu.nd (dS mO))
   (az (aR 4 gu.nd ao)
   (az (lC (jl (!1)) (cL 5 gu.nd) (az (dU (pA (!3) #v[(za xK (!2) (DT (!4)) (DT (aQ cz (!4) (!5))))]))
   (aC (FH 4 gu.nd (!5) x6))))
   (aC (aY (!3))))))))) (λds G R h=>?_)
 .let#[x,y,Q,ca,j,rfl,qA,hd,hw,hb,hl,E,B]:=h;simp!;apply bQ #[_,_,_,rfl,hd,hw,hb,λqp G1 fp X g1=>?_];have g:=g1.kp _ _ qA;have fX:j.length≠0:=λz=>E.1 (B30.mp z);simp![g,B0];generalize hu:fz (hJ (zb eQ) (tF 3)) _=u;dsimp![g,B0];apply eZ (λq=>?_) (λq=>?_)
  .exact absurd (by unfold nI at q;rw[B0] at q;omega) fX
  simp![TU,g,bB,Eg];apply#[by unfold nI;rw[B0];omega,λM hM Pp=>eZ (λq1=>?_) (λq1=>?_)]
  .let#[k,hk,rfl]:=D6.mp hM;have:=E.2.1 k hk;omega
  simp![t_,g,bB,Eg,X,ye];have q2:(nI j).sum=((aW Q).length:Int):=by rw[w33,E.2.2]
  rw[if_neg (by rw[decide_eq_true q2];decide)];subst hu;generalize hO:aW Q=O at *;dsimp!;apply#[∅,λf i=>?_];have yQ:qp≠f:=aL X i;have mG:ca≠f:=aL g i;have xl:=g1.none i;dsimp!;dsimp![aB mG,g,bB];have Pb:=hl;apply lD (λr L Z=>tj λ(l t:List Nat) (as:List Addr) (N:Option D)=>MC (l++t=j) (r=(nI t).map .int) (aA G1 Z) (Z f=some (.lst (as.map .ref))) (∀a∈as,G a=none) (∀a∈as,a≠f) (kh Z as (ij l O)) (as.length=l.length) (L=[some (.tup [x,y,.tup (cq Q)]),some (.ref ca),some (.ref qp),some (.ref f),some (.int (l.sum:Int)),N])) #[[],j,[],none,rfl,rfl,aA.refl.new i,aG,(λa h=>nomatch h),(λa h=>nomatch h),rfl,rfl,rfl] ?_ ?_
  .rintro L J ⟨l,t,as,N,e,I,g2,p,f1,f2,S,A,rfl⟩;have ht:t=[]:=by
    cases t with
    | nil=>rfl| cons x t=>cases I
   subst ht;rw[D9] at e;subst e;apply#[by rw[g2.kp _ _ g],?_];dsimp!;exact B f as J xl f1 f2 p S (g1.trans g2)
  .rintro z r L J ⟨l,t,as,N,e,I,g2,p,f1,f2,S,A,rfl⟩ ih;cases t with
   | nil=>cases I
   | cons c t =>
    cases I;apply#[by rw[g2.kp _ _ g],?_];have Cj:l.sum+c<=O.length:=by rw[<- E.2.2,<- e,Qy,K9];omega
    have uI:l.length<j.length:=by rw[<- e,B4,C1];omega
    have Et:=g2.kp _ _ X;simp![Et,bB,p];intro C H;have U:f≠C:=aL p H;simp![aB U,p];rw[wo8 Cj];apply#[C8 (m:=1000) (by rw[B0];omega) ∅,?_];dsimp!;have g3:=g2.new (o:=.lst (cq ((O.drop l.sum).take c))) H;have keep:∀a∈as,∀o,J a=some o->aH (aH J C (.lst (cq ((O.drop l.sum).take c)))) f (.lst (as.map D.ref++[.ref C])) a=some o:=λa ha o ho=>by rw[aB (f2 a ha),aB (aL ho H)];exact ho
    apply ih _ _ #[l++[c],t,as++[C],some (.int (c:Int)),by rw[<- e];simp,rfl,g3.own i,by rw[aG,B7];rfl,?_,?_,?_,by rw[B4,B4,A];rfl,by rw[Qy];simp]
    .intro a ha;rcases E9.mp ha with ha|ha
     .exact f1 a ha
     .rw[F5.mp ha];exact(g1.trans g2).none H
    .intro a ha;rcases E9.mp ha with ha|ha
     .exact f2 a ha
     .rw[F5.mp ha];exact D3 U
    .rw[v22];exact kh.snoc (by rw[aB (D3 U),aG]) (S.Et keep)
def x56{n:Nat}(Ma:n<*T.og.1<*vC)(X:n<*T.kL.1<*rP):n+1<*T.oG.1<*vP:=by
 apply dk T.oG.1 w03 (λ_ _ _ _ _ _ N =>
   (aC (aY (pq (N':=["stretch", "program"]) (ix:=[none,some 0]) (jU rfl rfl rfl) (jl (ek X N #v[!0,!1])) (λ_ _ _ _=>(cL 0 (show(["stretch", "program"]:List Str).Nodup by decide))) (λ_ _ _ _=>mV) (λ_ _ _ _=>(ek Ma N #v[!0,!1])))))) (λds G R h=>?_)
 .let#[W,J,g,ca,j,rfl,Y,hd,hw,I,hl,O,ok,post]:=h;simp!;apply bQ #[_,_,g,ca,j,rfl,Y,hd,hw,I,hl,O,λq as y hq f1 f2 k Z g1=>?_];simp![k,bB];intro E o;have n3:q≠E:=aL k o;have U:=g1.none o;have hlp:(ij j (aW g)).length<=1000:=by have:=congrArg J5 (NO j (aW g) (by rw[O.2.2];exact B9 _));rw[B0] at this;omega
  generalize Po:ij j (aW g)=L at *;apply kr (λr A S=>tj λ(l t:List (List av)) (f:List Addr) (v:Option D)=>Ds (l++t=L) (r=f.map .ref) (∀a∈f,a∈as) (kh y f t) (aA y S) (S E=some (.lst ((l.map (pG W J)).map .int))) (A=[v,some (.tup [.int (W:Int),.tup (J.map .str),.tup (cq g)])])) #[[],L,as,none,rfl,rfl,λa h=>h,Z,aA.refl.new o,aG,rfl] ?_ ?_
  .rintro A Q ⟨l,t,f,v,e,u,M,i,g2,H,rfl⟩;have ha:f=[]:=by
    cases f with
    | nil=>rfl| cons x t=>cases u
   subst ha;have ht:t=[]:=by have:=i.len;exact E8 this.symm
   subst ht;rw[D9] at e;subst e;apply#[by rw[g2.kp _ _ k],?_];exact post E Q U H (g1.trans g2)
  .rintro z r A Q ⟨l,t,f,v,e,u,M,i,g2,H,rfl⟩ ih;cases f with
   | nil=>cases u
   | cons a f =>
    cases u;cases t with
    | nil=>exact absurd i.len (by simp)| cons p t =>
     obtain⟨C,B⟩:y a=some (.lst (cq p))/\kh y f t:=by let#[p',t',e',h1,h2]:=i;cases e';exact#[h1,h2]
     apply#[by rw[g2.kp _ _ k],?_];simp!;apply bQ #[a,W,J,p,_,rfl,g2.kp _ _ C,ok p (by rw[<- e];simp),λG3 g3=>?_];have k3:=g3.kp _ _ H;simp![k3];have uI:l.length<L.length:=by rw[<- e,B4,C1];omega
     apply#[C8 (m:=1000) (by rw[B0,B0];omega) ∅,ih _ _ #[l++[p],t,f,_,by rw[<- e];simp,rfl,λb I=>M b (C2 _ I),B,(g2.trans g3).own o,?_,rfl]];rw[aG,B7,B7];rfl
def x57{n:Nat}(L':n<*T.n_.1<*vB)(O:n<*T.jB.1<*oR)(N:n<*T.kN.1<*oQ)(H:n<*T.kZ.1<*r9):n+1<*T.kW.1<*r8:=by
 apply dk T.kW.1 dO (λ_ _ _ _ _ _ g =>
   (az (aR 3 dO.nd ao)
   (az (aR 4 dO.nd dq)
   (az (lC (VS rfl T.cU #v[!0]) (xT (n:=2) rfl (jW (cL 5 dO.nd) (jW (cL 6 dO.nd) xZ))) (az (aK (bE (aZ g) (aj ai (!6) ao) aV (ah _)) (az (aR 7 dO.nd (Nd (ek N g #v[!1,!3]) (FD (Nf (!4)))))
   (aC (aR 4 dO.nd dq))) (aC (aR 7 dO.nd (ek L' g #v[!6,!3,!1,!2]))))
   (az (aK (FI (mS (!7))) (aC UU) cw)
   (aC (aR 3 dO.nd (ek H g #v[!6,!3]))))))
   (az (aK (pB (w_and (mS (!4)) (wY (bE (aZ g) (!3) ao (ah _))))) (aC (aY aV)) cw)
   (az (aK (pB (w_and (FI (mS (!4))) (wY (bE (aZ g) (!3) (ek O g #v[!1]) (ah _))))) (aC (aY aV)) cw)
   (aC UU))))))) (λds G R h=>?_)
 .let#[a,w,f,s,b,rfl,A,S,yQ,mG,hl,post]:=h;let#[Y,Cn,CG]:=S.gE;simp!;dsimp!;dsimp![FJ,A];apply lD (λr m i=>ES λ(l t:List Pm) (u q o:Option D)=>mL (l++t=w) (r=xA l.length (t.map cO)) (i=G) (m=[some (.ref a),some (.int (f:Int)),some (.int (s:Int)),some (.int (cE 0 l:Int)),some (.bl (kz false l)),u,q,o])) #[[],w,none,none,none,rfl,rfl,rfl,rfl] ?_ ?_
  .rintro m i ⟨l,t,u,q,o,e,k,rfl,rfl⟩;have Q:t=[]:=by
    cases t with
    | nil=>rfl| cons x t=>cases k
   subst Q;rw[D9] at e;subst e;apply#[by rw[A];rfl,?_];rw[Cn,CG];cases b with
   | false =>simp?;exact post| true =>simp?;apply gp (v:=.int (1*2^(f-1))) (G1:=i) (λR h=>#[f,rfl,(),(λe=>()),λj e=>by subst e;exact h]) ?_;have U:(((2^(f-1):Nat):Int)=1*2^(f-1))=True:=eq_true (by simp);simp![U];exact post
  .rintro z r m i ⟨l,t,u,q,o,e,k,rfl,rfl⟩ E;cases t with
   | nil=>cases k
   | cons C t =>
    cases k;apply#[by rw[A];rfl,?_];have Z:gE f s 0 false (l++C::t):=by rw[e];exact Y
    let#[y,o1]:=h_.mp Z;have X:=T_ (Q0 f) y;cases C with
    | none =>
     let#[#[L,J],_]:=o1;have I:ui f (cE 0 l)=true:=by unfold ui;rw[L];simp
     simp![cO];apply MZ () ?_;rw[I,J];simp!;dsimp!;dsimp!;apply gp (v:=.int (cE 0 l:Int)) (G1:=i) (λR h=>#[none,cE 0 l,rfl,trivial,h]) ?_;simp!;exact E _ _ #[l++[none],t,_,_,_,by rw[<- e,D4];rfl,by rw[B4];rfl,rfl,by rw[zH,D_];rfl]
    | some p =>let#[o1,_]:=o1;have M:((if p.1=true then("lay" :Str) else "clear") = "show")=False:=eq_false (by cases p.1 <;> decide);simp![cO,mD,pD,mP,M];apply gp (v:=.bl true) (G1:=i) (λR h=>#[p,cE 0 l,f,s,rfl,o1,(),X,h]) ?_;simp!;dsimp!;apply gp (v:=.int (xr (cE 0 l) p.2:Int)) (G1:=i) (λR h=>#[some p,cE 0 l,rfl,#[#[o1.1.1,by have:=o1.1.2;omega],o1.2.2.1],h]) ?_;simp!;exact E _ _ #[l++[some p],t,_,_,_,by rw[<- e,D4];rfl,by rw[B4];rfl,rfl,by rw[zH,D_];rfl]
def x30{n:Nat}(k:n<*T.kN.1<*oQ)(r:n<*T.kQ.1<*rV):n+1<*T.n_.1<*vB:=by
 apply dk T.n_.1 p_ (λ_ _ _ _ _ _ f =>
   (az (aR 4 p_.nd (aj ai (!0) ao))
   (az (aK (pB (w_or (bE (lB) (!4) ao (ah _)) (w_or (bE (pL) (!4) (!2) (ah _)) (DG (FI (mS (ek k f #v[(aQ gI (!4) ao),!1]))))))) (aC (aY dq)) cw)
   (az (aK (bE (aZ f) (aj ai (!0) ao) aV (ah _)) (aC (aY (Nd (Nf (ek k f #v[!4,!1])) (FD (wW (lB) (ek r f #v[!1]) (!3) (ah _)))))) cw)
   (aC (aY (ek k f #v[!4,!1]))))))) (λL G R h=>?_)
 .let#[p,m,i,s,rfl,B,H,A,post]:=h;let#[#[J,I],x,j,C]:=B;have u:((p.2:Int)<1)=False:=eq_false ();have t:((i:Int)<(p.2:Int))=False:=eq_false ();have E:(p.2:Int)-1=((p.2-1:Nat):Int):=()
  have q:ui (p.2-1) m=true:=by
   unfold ui;rcases x with z|z
   .have:p.2-1=0:=()
    rw[this];rfl
   .have:p.2-1-1=p.2-2:=()
    rw[this,z];simp
  have o:ui p.2 m=d5 p.2 m:=by
   unfold ui d5;have:(p.2==0)=false:=by rw[beq_eq_false_iff_ne];omega
   rw[this];simp
  simp![mD,pD,mP];dsimp![u,t,E];apply MZ () ?_;rw[q];cases g:p.1 with
  | true =>
   rw[g] at j;have l:d5 p.2 m=false:=by simpa using j.symm
   simp?[g];apply MZ () ?_;rw[o,l];simp!;apply gp (v:=.int (pc i m:Int)) (G1:=G) (λR h=>#[i,m,rfl,A,h]) ?_;have M:=C g;have:((pc i m:Int)<(s:Int))=True:=eq_true (by rw[w25];omega);simp![this];exact post
  | false =>
   rw[g] at j;have l:d5 p.2 m=true:=by simpa using j.symm
   have y:(("clear" :Str) = "lay")=False:=eq_false ∅;simp?[g,y];apply MZ () ?_;rw[o,l];exact post
def x19{n:Nat}:n+1<*T.jB.1<*oR:=by
 apply dk T.jB.1 vz3 (λ_ _ _ _ _ _ l =>
   (aC (aY (qH (bE (pL) (!0) ao (ah _)) (aQ Bo ao (aQ gI (!0) ao)) ao)))) (λo G R h=>?_)
 .let#[k,rfl,m,g,f]:=h;cases k with
  | zero =>simp!;exact g rfl| succ i =>
   have j:(((i+1:Nat):Int)-1)=(i:Int):=()
   have c:kj 1 (i:Int):=FP () ();have p:((0:Int)<((i+1:Nat):Int))=True:=eq_true ();simp![j,c,p];exact f i rfl
def x12{n:Nat}(g:n<*T.jB.1<*oR):n+1<*T.kN.1<*oQ:=by
 apply dk T.kN.1 vz1 (λ_ _ _ _ _ _ f =>
   (aC (aY (YQ (wW (aZ f) (!0) ao (ah _)) (FD (wW (iU f) (aQ Nk (!1) (ek g f #v[!0])) ao (ah _))))))) (λo G R h=>?_)
 .let#[k,m,rfl,l,post]:=h;cases k with
  | zero =>simp!;exact post| succ i =>
   have p:(((i+1:Nat):Int)=0)=False:=eq_false ();simp![p];apply gp (v:=.int (1*2^i)) (G1:=G) (λR h=>#[i+1,rfl,l,(λe=>by cases e),λj e=>by cases e;exact h]) ?_;simp!;have e:(!decide (P6 (m:Int) (1*2^i)=0))=ui (i+1) m:=by unfold ui;rw[U7];simp only[wq3,Bool.not_eq_true',decide_eq_false_iff_not,K6,C29,beq_iff_eq,Nat.add_one_ne_zero,false_or,Bool.not_eq_false]
   rw[e];exact post
def x33{n:Nat}:n+1<*T.kQ.1<*rV:=by
 apply dk T.kQ.1 jo (λ_ _ _ _ _ _ t =>
   (az (aR 1 jo.nd ao)
   (az (Gh (bE (pL) (!0) ao (ah _)) (az (FH 1 jo.nd (aQ Nk (!0) ao) x6)
   (aC (aR 0 jo.nd (aQ wr0 (!0) ao)))))
   (aC (aY (!1)))))) (λu G R h=>?_)
 .let#[b,m,rfl,l,post]:=h;simp!;dsimp!;apply Gy (λc f j=>Zc λ(x y:Nat)=>mL (j=G) (f=[some (.int (x:Int)),some (.int (y:Int))]) (x<2^c) (y+pc c x=pc b m)) #[m,0,rfl,rfl,l,()] ?_;rintro c f j N ⟨x,y,rfl,rfl,i,g⟩ k;by_cases o:x=0
  .subst o;simp!;rw[wi9] at g;have:y=pc b m:=()
   subst this;simp?;exact post
  .have p:((0:Int)<(x:Int))=True:=eq_true ();simp![p];cases c with
   | zero=>exact absurd i ()| succ c =>
    have e:P6 (x:Int) 1=((x%2:Nat):Int):=by rw[show(1:Int)=((1:Nat):Int) from rfl,UD,Nat.and_one_is_mod]
    have r:(x:Int) / 2^(Int.toNat 1)=((x / 2:Nat):Int):=by simp
    have q:(y:Int)+((x%2:Nat):Int)=((y+x%2:Nat):Int):=()
    simp?[e,r,q];apply#[∅,?_];apply k _ _ c rfl #[x / 2,y+x%2,rfl,rfl,?_,?_]
    .rw[Q8] at i;omega
    .rw[wj0] at g;omega
def x62{n:Nat}(q:n<*T.jB.1<*oR):n+1<*T.kZ.1<*r9:=by
 apply dk T.kZ.1 w06 (λ_ _ _ _ _ _ f =>
   (az (aK (bE (aZ f) (aj ai (!0) ao) aV (ah _)) (aC (aY (aQ Rn (!1) (ek q f #v[(aj ai (!0) ao)])))) cw)
   (az (aK (bE (aZ f) (aj ai (!0) ao) aV (ah _)) (aC (aY (aQ Nk (!1) (sW xh5 (ek q f #v[(aj ai (!0) ao)]))))) cw)
   (aC (aY (!1)))))) (λC G R h=>?_)
 .let#[p,m,rfl,A,post]:=h;cases p with
  | none =>have g:(("show" :Str) = "lay")=False:=eq_false ∅;have u:(("show" :Str) = "clear")=False:=eq_false ∅;simp?[cO,g,u];exact post| some p =>
   let#[o,k]:=p;let#[#[y,t],x]:=A;obtain⟨i,rfl⟩:∃i,k=i+1:=#[k-1,by have:1<=k:=y;omega];have t:i+1<=24:=t;have r:(!m.testBit i)=o:=x.symm;have post:R (.int ((m ^^^ 2^i:Nat):Int)) G:=post;have g:(("clear" :Str) = "lay")=False:=eq_false ∅;cases o with
   | true =>
    have l:m.testBit i=false:=by simpa using r
    simp![cO,mD,pD,mP];apply gp (v:=.int (1*2^i)) (G1:=G) (λR h=>#[i+1,rfl,(),(λe=>by cases e),λj e=>by cases e;exact h]) ?_;simp![wl7 l];exact post
   | false =>
    have l:m.testBit i=true:=by simpa using r
    simp![cO,mD,pD,mP,g];dsimp!;apply gp (v:=.int (1*2^i)) (G1:=G) (λR h=>#[i+1,rfl,(),(λe=>by cases e),λj e=>by cases e;exact h]) ?_;simp![Bg,wo9 l];exact post
def x18{n:Nat}(y:n<*T.kZ.1<*r9):n+1<*T.nR.1<*rR:=by
 apply dk T.nR.1 iy (λ_ _ _ _ _ _ C =>
   (az (aR 1 iy.nd ao)
   (az (aR 2 iy.nd (dS #v[!1]))
   (az (lC (jl (!0)) (cL 3 iy.nd) (az (aR 1 iy.nd (ek y C #v[!3,!1]))
   (aC (dU (pA (!2) #v[!1])))))
   (aC (aY (!2))))))) (λL G R h=>?_)
 .let#[a,w,rfl,u,E,J,post]:=h;simp!;dsimp!;apply#[∅,λp k=>?_];have I:a≠p:=aL u k;have j:∀{o:DO},aH G p o a=some (.lst (w.map cO)):=λ{o}=>by rw[aB I];exact u
  dsimp![j];apply lD (λr i q=>mj λ(l t:List Pm) (v:Option D)=>mL (l++t=w) (r=t.map cO) (q=aH G p (.lst ((0::gw 0 l).map nD))) (i=[some (.ref a),some (.int (cE 0 l:Int)),some (.ref p),v])) #[[],w,none,rfl,rfl,rfl,rfl] ?_ ?_
  .rintro i q ⟨l,t,v,e,g,rfl,rfl⟩;have B:t=[]:=by simpa using g.symm
   subst B;rw[D9] at e;subst e;apply#[by rw[j];rfl,?_];dsimp!;exact post p _ k aG (aA.refl.new k)
  .rintro z r i q ⟨l,t,v,e,g,rfl,rfl⟩ A;cases t with
   | nil=>cases g
   | cons f t =>
    cases g;apply#[by rw[j];rfl,?_];have x:mB 0 (l++f::t):=by rw[e];exact E
    let#[_,o1,_]:=rb.mp x;simp!;apply gp (v:=.int (iY (cE 0 l) f:Int)) (G1:=aH G p (.lst ((0::gw 0 l).map nD))) (λR h=>#[f,cE 0 l,rfl,o1,h]) ?_;simp!;dsimp!;have H:=congrArg J5 e;rw[B4,C1] at H;apply#[?_,A _ _ #[l++[f],t,some (cO f),by rw[<- e,D4];rfl,rfl,?_,?_]]
    .rw[B0,NT];exact C8 (m:=3001) () ∅
    .rw[ip,UW];simp[gw,nD]
    .rw[zH];rfl
def x28{n:Nat}(I:n<*T.kQ.1<*rV)(X:n<*T.nR.1<*rR):n+1<*T.nZ.1<*vA:=by
 apply dk T.nZ.1 vz7 (λ_ _ _ _ _ _ C =>
   (aC (aY (dz vx0 rfl T.rH ∅ #v[(pq (N':=["marks"]) (ix:=[none]) (jU rfl rfl rfl) (jl (ek X C #v[!0])) (λ_ _ _ _=>(cL 0 (show(["marks"]:List Str).Nodup by decide))) (λ_ _ _ _=>mV) (λ_ _ _ _=>(ek I C #v[!0])))])))) (λds G R h=>?_)
 .let#[a,w,rfl,Q,E,O,post]:=h;simp!;apply wp6 Q E O λq A f1 i g1=>?_;have H:=w17 (Q0 24) E;obtain⟨j,y⟩:∃j,j=0::gw 0 w:=#[_,rfl];have S:j.length<=3001:=by rw[y,C1,NT];omega
  rw[<- y] at i post H;have u:0<j.length:=by rw[y];simp
  simp![i];intro p t;apply kr (λr o B=>mj λ(g f:List Nat) (v:Option D)=>mL (g++f=j) (r=f.map nD) (B=aH A p (.lst ((g.map λm=>(cnt 24 m:Int)).map .int))) (o=[v])) #[[],j,none,rfl,rfl,rfl,rfl] ?_ ?_
  .rintro o B ⟨g,f,v,e,l,rfl,rfl⟩;have N:f=[]:=by simpa using l.symm
   subst N;rw[D9] at e;subst e;apply#[by rw[aB (aL i t),i];rfl,?_];apply v90 (ns:=g.map λm=>(cnt 24 m:Int)) (by rw[aG];rfl) (by rw[B0];exact u) λM U L=>?_;exact post M _ U L (g1.new t)
  .rintro z r o B ⟨g,f,v,e,l,rfl,rfl⟩ J;cases f with
   | nil=>cases l
   | cons x f =>cases l;apply#[by rw[aB (aL i t),i];rfl,?_];have k:=congrArg J5 e;rw[B4,C1] at k;simp![nD];apply gp (v:=.int (cnt 24 x:Int)) (G1:=aH A p (.lst ((g.map λm=>(cnt 24 m:Int)).map .int))) (λR h=>#[24,x,rfl,H x (by rw[<- e];simp),by rw[w25];exact h]) ?_;simp!;apply#[by rw[B0,B0];exact C8 (m:=4000) () ∅,J _ _ #[g++[x],f,_,by rw[<- e,D4];rfl,rfl,?_,rfl]];rw[ip,B7,B7];rfl
def wz6{n:Nat}:n+1<*T.nE.1<*vf:=by
 apply dk T.nE.1 vy6 (λ_ _ _ _ _ _ N =>
   (aC (aY (dz wq9 rfl T.rF ∅ #v[(pq (N':=["move", "costs"]) (ix:=[none,some 1]) (jU rfl rfl rfl) (jl (!0)) (λ_ _ _ _=>(cL 0 (show(["move", "costs"]:List Str).Nodup by decide))) (λ_ _ _ _=>(UO (bE (iU N) (aj ai (!0) ao) aV (ah _)))) (λ_ _ _ _=>(aj ai (!1) (aQ gI (aj ai (!0) ao) ao))))])))) (λZ G R h=>?_)
 .let#[a,b,w,j,rfl,A,H,Y,Q,post]:=h;simp![A];intro p u;have C:∀{o:DO},aH G p o a=some (.lst (w.map cO)):=λ{o}=>by rw[aB (aL A u)];exact A
  have L:∀{o:DO},aH G p o b=some (.lst (j.map .int)):=λ{o}=>by rw[aB (aL H u)];exact H
  apply kr (λr t B=>tj λ(i f:List Pm) (g:List Int) (v:Option D)=>zq (i++f=w) (r=f.map cO) (B=aH G p (.lst (g.map .int))) (g.length<=i.length) (g.sum=gn j i) (t=[v,some (.ref b)])) #[[],w,[],none,rfl,rfl,rfl,by simp,rfl,rfl] ?_ ?_
  .rintro t B ⟨i,f,g,v,e,q,rfl,S,l,rfl⟩;have M:f=[]:=by simpa using q.symm
   subst M;rw[D9] at e;subst e;apply#[by rw[C];rfl,?_];apply v87 (ns:=g) (by rw[aG];rfl) ?_;rw[l];exact post _ (aA.refl.new u)
  .rintro z r t B ⟨i,f,g,v,e,q,rfl,S,l,rfl⟩ E;cases f with
   | nil=>cases q
   | cons x f =>
    cases q;apply#[by rw[C];rfl,?_];have k:=congrArg J5 e;rw[B4,C1] at k;cases x with
    | none =>simp![cO];apply E _ _ #[i++[none],f,g,_,by rw[<- e,D4];rfl,rfl,rfl,by simp;omega,?_,rfl];rw[NW,l];show _=_+0;omega| some y =>
     have X:=Q y (by rw[<- e];simp);have J:((if y.1=true then("lay" :Str) else "clear") = "show")=False:=eq_false (by cases y.1 <;> decide);have O:((y.2:Nat):Int)-1=((y.2-1:Nat):Int):=()
     have I:dE (j.map D.int) ((y.2-1:Nat):Int)=some (.int (j.getD (y.2-1) 0)):=by apply x8 ?_;rw[F7,B6 ()];simp[List.getD,B6 (show y.2-1<j.length by omega)]
     simp![cO,mD,pD,mP,J,L,O,I];apply#[by rw[B0];exact C8 (m:=4000) () ∅,E _ _ #[i++[some y],f,g++[j.getD (y.2-1) 0],_,by rw[<- e,D4];rfl,rfl,?_,by simp;omega,?_,rfl]]
     .rw[ip,B7];rfl
     .rw[NW,Qy,l];show _+(_+0)=_+(_+0);rfl
def x34{n:Nat}(wB:n<*T.kU.1<*rZ)(wj:n<*T.kL.1<*rP)(wC:n<*T.kW.1<*r8)(LU:n<*T.nP.1<*vn)(LY:n<*T.nX.1<*vx)(Md:n<*T.oj.1<*vF):n+1<*T.oi.1<*vE:=by
 apply dk T.oi.1 iC (λ_ _ _ _ _ _ k =>
   (az (aR 4 iC.nd (ek wj k #v[!0,!1]))
   (az (aR 5 iC.nd (ek wC k #v[!3,(dz fD rfl T.bf ∅ #v[!4]),!2]))
   (az (aR 6 iC.nd (ek LU k #v[!3,(dz fD rfl T.bf ∅ #v[(aj ai (!0) ao)])]))
   (az (aR 7 iC.nd (ek LY k #v[!0,!4,!3,!6]))
   (az (aK (bE (aZ k) (!5) aV (ah _)) (aC (dU (pA (!7) #v[(ek Md k #v[(x9 k (aj ai (!6) (sW FN ao)) (dz fD rfl T.bf ∅ #v[!4])),(dz fD rfl T.bf ∅ #v[(aj ai (!0) ao)])])]))) cw)
   (aC (aY (ek wB k #v[!7]))))))))) (λds G R h=>?_)
 .let#[W,g,S,ca,N,ks,w,s,b,rfl,qA,cA,ok,post]:=h;have hb:=ok.pk.hb;have xo:=ok.pk.xo;have yL:=ok.wl;have hs8:=ok.s8;let#[JL,hl4]:=ok.len;simp!;apply bQ #[_,_,S,ca,ks,rfl,qA,ok.dp,ok.wt,ok.bd,by have:=ok.kl;omega,ok.gd,λq1 as G1 n1 f1 f2 k1 Z g1=>?_];have C:=ok.pl;have Y:=ok.pk;generalize Po:ij ks (aW S)=p at *;let#[Q,Cn,L]:=L3.kg.gE C;have aE:=UJ () Q;simp!;dsimp![k1,bB,B0,Z.len];apply bQ #[N,w,p.length,s,b,rfl,g1.kp _ _ cA,C,JL,(),(),?_];simp!;dsimp![B0];let#[B,I,H]:=wj8 w;have hB8:B<=8:=D5 (wp0 () Q I) hs8;apply bQ #[N,g.length,B,w,rfl,g1.kp _ _ cA,hb,(),(),aE,λx E=>H x (C2 _ E),λq2 ss G2 n2 f3 f4 k2 xc g2=>?_];simp!;dsimp!;apply bQ #[W,g,_,p,q1,N,q2,as,ss,w,s,B,rfl,g2.kp _ _ k1,Z.kp g2.kp,(g1.trans g2).kp _ _ cA,k2,xc,aE,Q,hB8,I,λx E=>H x (C2 _ E),JL,hl4,yL,Y,λM cs G3 n3 O cl J Ez g3=>?_];have gg:=(g1.trans g2).trans g3;simp!;generalize hu:j9 _=u;have rest:∀(A:Gp) (o:List cQ),aA G A->A M=some (.lst (o.map cQ.d))->(∀c∈o,A c.ra=some (.lst (c.rs.map Row.d))/\tY g.length c)->(∃D,Af ((2+B)*g.length) o D/\((D:Nat):Int)=gn (p.map (pG W g)) w+(g.length:Int))->0<o.length->o.length<=2010->∀v,Go (u { nx:=λx G'=>R D.non G',rt:=R}) [some (.tup [.int (W:Int),.tup (g.map .str),.tup (cq S)]),some (.ref ca),some (.int (s:Int)),some (.ref N),some (.ref q1),v,some (.ref q2),some (.ref M)] A:=by
   intro A o y k4 q hD h0 h1 v;subst hu;dsimp!;apply bQ #[M,o,rfl,k4,λc hc=>#[(q c hc).1,(q c hc).2.ln],h0,(),λq5 G5 n5 k5 g5=>?_];apply post q5 (tP o) _ G5 (y.none n5) k5 (VH (Bz λ_ h=>nomatch h) λr k=>?_) (Ud (λ_ h=>nomatch h) λr k row aX=>?_) ?_ ?_ (ve9 λc hc=>(q c hc).2.s2) (λX hX Pk=>?_) (y.trans g5)
   .let#[c,hc,rfl]:=D6.mp k;exact(q c hc).2.pr
   .let#[c,hc,rfl]:=D6.mp k;exact x29 (v30 hc) ((q c hc).2.ok row aX)
   .rw[NI];have:=vy3 (B:=4000) (l:=(o.map cQ.rs).map J5) λx E=>by let#[rr,k,rfl]:=D6.mp E;let#[c,hc,rfl]:=D6.mp k;exact(q c hc).2.ln
    rw[B0,B0] at this;show 0+_<=_;omega
   .cases o with
    | nil=>cases h0
    | cons c t=>exact D5 (q c C6).2.s1 (v30 C6)
   .let#[D,k,hD]:=hD;have hfb:g.length<=(2+B)*g.length:=A49 _ ();let#[X',_,f]:=k.run (sz:=tP o) (λc hc=>v30 hc) #[hX,λi hi=>Pk i ()];have F:=f _ 0 λj r e=>by rw[L5,WZ];exact e
    rw[L5] at F;exact#[X',D,hD,F]
  have h0:0<w.length:=Nat.pos_of_ne_zero λz=>by
   rw[E8 z] at L Cn;cases b with
   | true=>exact absurd (show(0:Nat)=2^(p.length-1) from L) (by have:=Q0 (p.length-1);omega)| false=>cases Cn
  have Yl:=UL (W:=W) (bs:=g) rfl Q;rw[Cn] at Yl;cases b with
  | false =>dsimp![eL,C7,decide_false,decide_true];exact rest G3 cs gg O (λc hc=>#[(J c hc).1,(J c hc).2.2]) #[_,Ez,Yl] () () _| true =>
   dsimp![eL,C7,decide_false,decide_true];let#[al,sl,a0,ea,ka,hI]:=xc.last;have L:cE 0 w=2^(p.length-1):=L;have iI:d5 p.length (cE 0 w)=true:=by rw[L];unfold d5;exact B13
   let#[j,hj,Yd,hv]:=hI.look (m:=g.length) JL () iI;let#[Pd,EF,_]:=apart (j:=0) (m:=g.length) Yd rfl;have uA9:(j+2)*g.length<=60:=D5 (Fm (show j+2<=10 by omega) xo) ∅;have Jk:=g3.kp _ _ k2;simp![Jk,O,wV,bB];have ia:dE (ss.map D.ref) (-1)=some (.ref al):=by rw[ea,B7];exact Ve _ _
   simp![ia];have Ex:=(g2.trans g3).kp _ _ k1;simp![Ex,bB,B0,Z.len];apply#[al,_,N6 (p.length:Int),_,rfl,rfl,g3.kp _ _ ka,hv,?_];simp!;apply bQ #[(j+2)*g.length,g.length,rfl,(),λU A n4 k4 y=>?_];have Ew:=y.kp _ _ O;simp![Ew];have n34:M≠U:=aL O n4;have gl:tY g.length #[(j+2)*g.length+g.length,U,(E6 g.length).map λi=>Row.swap (g.length+i) ((j+2)*g.length+i)]:=by
    apply#[Bz λr k=>?_,λr k=>?_,?_,?_,?_]
    .let#[i,_,rfl]:=D6.mp k;rfl
    .let#[i,hi,rfl]:=D6.mp k;have:=L0.mp hi;exact#[by show g.length+i<(j+2)*g.length+g.length;omega,by show(j+2)*g.length+i<(j+2)*g.length+g.length;omega,by show(j+2)*g.length+i≠g.length+i;omega]
    .show(Dr _ _).length<=4000;rw[B0,J2];omega
    .show g.length<=(j+2)*g.length+g.length;omega
    .show(j+2)*g.length+g.length<=2000;omega
   apply#[C8 (m:=3000) (by rw[B0];omega) ∅,rest _ (cs++[#[(j+2)*g.length+g.length,U,(E6 g.length).map λi=>Row.swap (g.length+i) ((j+2)*g.length+i)]]) ((gg.trans y).own ((g1.trans g2).none n3)) (by rw[aG,B7];rfl) (λc hc=>?_) #[_,.s Ez (wl6 gl Pd EF),?_] (by rw[B4];omega) (by rw[B4,O4];omega) _]
   .rcases E9.mp hc with hc|hc
    .exact⟨by rw[aB (J c hc).2.1];exact y.kp _ _ (J c hc).1,(J c hc).2.2⟩
    .rw[F5.mp hc];exact⟨by rw[aB (D3 n34)];exact k4,gl⟩
   .rw[Z7,Yl,if_neg ∅,Int.add_zero]
def x11{n:Nat}(B:n<*T.oG.1<*vP)(t:n<*T.kW.1<*r8)(C:n<*T.nE.1<*vf):n+1<*T.kM.1<*rQ:=by
 apply dk T.kM.1 pW (λ_ _ _ _ _ _ f =>
   (az (aR 4 pW.nd (ek B f #v[!0,!1]))
   (az (dU (ek t f #v[!3,(dz fD rfl T.bf ∅ #v[!4]),!2]))
   (aC (aY (aQ cz (ek C f #v[!3,!4]) (dz fD rfl T.bf ∅ #v[(aj ai (!0) ao)]))))))) (λL G R h=>?_)
 .let#[W,o,i,A,j,k,w,s,b,rfl,u,m,ok,post]:=h;have I:=ok.pk.xo;let#[E,y]:=ok.len;simp!;apply bQ #[W,o,i,A,k,rfl,u,ok.dp,ok.wt,ok.bd,by have:=ok.kl;omega,ok.gd,λp g=>(ok.pk.ok p g).1,λx M J l g1=>?_];generalize q:ij k (aW i)=r at *;simp!;dsimp![l,bB,B0];apply bQ #[j,w,r.length,s,b,rfl,g1.kp _ _ m,q▸ok.pl,E,(),by have:=ok.wl;omega,?_];simp!;dsimp!;apply bQ #[j,x,w,r.map (pG W o),rfl,g1.kp _ _ m,l,by have:=ok.wl;omega,λp g=>?_,λH g2=>?_]
  .rw[B0];exact wh4 (q▸ok.pl) g
  simp![B0];exact post H (g1.trans g2)
def x16{n:Nat}(LS:n<*T.nO.1<*vm):n+1<*T.nP.1<*vn:=by
 apply dk T.nP.1 iw (λ_ _ _ _ _ _ hr =>
   (az (aR 2 iw.nd wn1)
   (az (aR 3 iw.nd (dS #v[!2]))
   (az (lC (jl (!0)) (cL 4 iw.nd) (az (aR 2 iw.nd (ek LS hr #v[!4,!2,!1]))
   (aC (dU (pA (!3) #v[!2])))))
   (aC (aY (!3))))))) (λds G R h=>?_)
 .let#[pa,m,B,w,rfl,O,hm,nu,hs,aE,hB,post]:=h;simp![xc3];intro k Q;have Z:=aA.refl (G:=G) |>.new (o:=.bM []) Q
  dsimp!;apply⟨∅,λf N=>?_⟩;have A:k≠f:=aL aG N;have gt:=Z.new (o:=.lst [.ref k]) N;have Jz:=Z.none N;have Cu:=gt.kp _ _ O;dsimp![Cu,bB];apply lD (λr I H=>Xi7 λ(l t:List Pm) (as:List Addr) (M:Nat) (g:List (Nat×Nat)) (p:Addr) (v:Option D)=>ME (l++t=w) (r=t.map cO) (mB M t) (M=cE 0 l) (∀x∈gw M t,cnt 24 x<=B) (aA G H) (H f=some (.lst (as.map .ref))) (∀a∈as,G a=none) (∀a∈as,a≠f) (jF H m B as (0::gw 0 l)) (H p=some (.bM (fc m g))) (pI M B g) (p≠f) (I=[some (.ref pa),some (.int (m:Int)),some (.ref p),some (.ref f),v])) ⟨[],w,[k],0,[],k,none,rfl,rfl,aE,rfl,hB,gt,aG,?_,?_,?_,by rw[aB A,aG];rfl,⟨rfl,Qt,λ_ h=>nomatch h⟩,A,rfl⟩ ?_ ?_
  .intro a ha;rw[F5.mp ha];exact Q
  .intro a ha;rw[F5.mp ha];exact A
  .exact#[0,[],[],rfl,by rw[aB A,aG];rfl,#[rfl,Qt,λ_ h=>nomatch h],rfl]
  .rintro I G2 ⟨l,t,as,M,g,p,v,e,E,o2,J,L,g2,C,f1,f2,j,S,Y,np,rfl⟩;have ht:t=[]:=by simpa using E.symm
   subst ht;rw[D9] at e;subst e;apply#[by rw[g2.kp _ _ O],?_];dsimp!;exact post f as G2 Jz f1 f2 C j g2
  .rintro z r I G2 ⟨l,t,as,M,g,p,v,e,E,o2,J,L,g2,C,f1,f2,j,S,Y,np,rfl⟩ ih;cases t with
   | nil=>cases E
   | cons x t =>
    cases E;let#[ok,o3]:=o2;have b3:cnt 24 (iY M x)<=B:=L _ C6;apply#[by rw[g2.kp _ _ O],?_];simp!;apply bQ #[p,m,M,B,g,x,rfl,hm,nu,S,Y,ok,b3,λq mz G3 X U i g3=>?_];have OQ:=g3.kp _ _ C;have uI:as.length<=4000:=by have h1:=j.len;have h2:=congrArg J5 e;rw[B4,C1] at h2;rw[C1,NT] at h1;omega
    simp!;dsimp![OQ];have u:q≠f:=D3 (aL C X);apply#[C8 (m:=4000) (by rw[B0];omega) ∅,?_];apply ih _ _ #[l++[x],t,as++[q],iY M x,mz,q,some (cO x),by rw[<- e];simp,rfl,o3,by rw[zH,<- J];rfl,λy hy=>L y (C2 _ hy),(g2.trans g3).own Jz,by rw[aG,B7];rfl,?_,?_,?_,by rw[aB u];exact U,i,u,rfl]
    .intro a ha;rcases E9.mp ha with ha|ha
     .exact f1 a ha
     .rw[F5.mp ha];exact g2.none X
    .intro a ha;rcases E9.mp ha with ha|ha
     .exact f2 a ha
     .rw[F5.mp ha];exact u
    .rw[UW,<- J,<- K2];apply jF.snoc (by rw[aB u];exact U) i (j.kp λa ha o ho=>?_);rw[aB (f2 a ha)];exact g3.kp _ _ ho
def x15{n:Nat}(Mn:n<*T.oE.1<*vO):n+1<*T.nO.1<*vm:=by
 apply dk T.nO.1 pX (λ_ _ _ _ _ _ L =>
   (az (aR 3 pX.nd (qU VA rfl T.gA ∅ #v[!1]))
   (az (aK (bE (aZ L) (aj ai (!0) ao) aV (ah _)) (aC (NR L (!3) (aj ai (!0) ao) (ek Mn L #v[!1,!2]))) (aC (aK (bE (aZ L) (aj ai (!0) ao) aV (ah _)) (aC (dU (xb3 (!3) (aj ai (!0) ao)))) cw)))
   (aC (aY (qU (w56 L) rfl T.gA ∅ #v[(pq (N':=["mark", "held"]) (ix:=[none,some 3]) (jU rfl rfl rfl) (jl (dz (v91 L) rfl T.ib ∅ #v[!3])) (λ_ _ _ _=>(cL 0 (show(["mark", "held"]:List Str).Nodup by decide))) (λ_ _ _ _=>mV) (λ_ _ _ _=>(bp #v[!0,(x9 L (!1) (!0))])))])))))) (λds G R h=>?_)
 .let#[a,m,M,B,H,pv,rfl,hm,nu,ha,i,aE,hB,post]:=h;simp!;apply#[a,_,rfl,ha,λp hp=>?_];have g1:=aA.refl (G:=G) |>.new (o:=.bM (fc m H)) hp
  have np:a≠p:=aL ha hp;have uA8:H.length<=24:=by rw[i.len];exact FO
  generalize hu:j9 _=u;have rest:∀(N:Gp) (h:List (Nat×Nat)),aA G N->N p=some (.bM (fc m h))->h.length<60->(h.map (·.2)).Nodup->(∀x∈h,x.2<B)->(∀I:List Int,I.Perm (h.map λx=>(x.1:Int))->I.Pairwise (·<=·)->I=d6 (iY M pv))->Go (u { nx:=λx G'=>R D.non G',rt:=R}) [some (cO pv),some (.ref a),some (.int (m:Int)),some (.ref p)] N:=by
   intro N h g1 A hl JK c9 hk;subst hu;dsimp!;apply#[p,h.map λx=>(x.1:Int),_,rfl,Bt m h,A,by rw[B0];omega,λY I cK g J=>?_];have pm2:=g;have pF:=hk I g J;subst pF;have n2:p≠Y:=aL A cK;simp![aG,bB];intro Q U;have n3:Y≠Q:=aL aG U;have n4:p≠Q:=aL (show aH N Y _ p=some (.bM (fc m h)) by rw[aB n2];exact A) U;have uA3:N Q=none:=by rw[aB (D3 n3)] at U;exact U
   have Pc:((fc m h).map (·.1)).Nodup:=by rw[Bt];exact Np ((g.nodup_iff).mp (yc c8))
   apply kr (λr σ G'=>tj λ(l t:List Int) (C:List (Nat×Nat)) (v:Option D)=>zq (l++t=d6 (iY M pv)) (r=t.map .int) (C.map (λx=>(x.1:Int))=l) (∀x∈C,x∈h) (G'=aH (aH N Y (.lst ((d6 (iY M pv)).map .int))) Q (.lst ((fc m C).map OE))) (σ=[v,some (.ref p)])) #[[],_,[],none,rfl,rfl,rfl,(λ_ h=>nomatch h),rfl,rfl] ?_ ?_
   .rintro σ G2 ⟨l,t,C,v,e,e2,O,Z,rfl,rfl⟩;have ht:t=[]:=by simpa using e2.symm
    subst ht;rw[D9] at e;apply#[by rw[aB n3,aG],?_];have g3:=(g1.new (o:=.lst ((d6 (iY M pv)).map .int)) cK).new (o:=.lst ((fc m C).map OE)) U;have X:pI (iY M pv) B C:=#[O.trans e,x81 (by rw[O,e];exact yc c8) Z JK,λx hx=>c9 x (Z x hx)];apply#[Q,fc m C,rfl,by rw[aG];rfl,by rw[UX,X.len];have:=FO (m:=iY M pv) (n:=24);omega,λq hq=>?_];rw[ut8 (acc:=[]) (by rw[J6,Bt,O,e];exact Np (yc c8)),J6];exact post q C _ (g3.none hq) aG X (g3.new hq)
   .rintro z r σ G2 ⟨l,t,C,v,e,e2,O,Z,rfl,rfl⟩ ih;cases t with
    | nil=>cases e2
    | cons y t =>
     cases e2;have hy:y∈h.map λx=>(x.1:Int):=g.mem_iff.mp (by rw[<- e];simp);let#[x,hx,rfl]:=D6.mp hy;apply#[by rw[aB n3,aG],?_];simp![wV];apply#[p,fc m h,N6 (x.1:Int),_,rfl,rfl,by rw[aB n4,aB n2];exact A,Og Pc (D6.mpr #[x,hx,rfl]),?_];simp![aG];apply#[∅,?_,ih _ _ #[l++[(x.1:Int)],t,C++[x],_,by rw[<- e];simp,rfl,by rw[B7,O];rfl,λy hy=>?_,?_,rfl]]
     .have h1:=congrArg J5 e;have h2:=congrArg J5 O;rw[B4,C1,NM] at h1;rw[B0] at h2;have h3:=FO (m:=iY M pv) (n:=24);rw[B0,UX];exact C8 (m:=1000) () ∅
     .rcases E9.mp hy with hy|hy
      .exact Z y hy
      .rw[F5.mp hy];exact hx
     .rw[ip,vb6,B7];rfl
  rcases pv with _|⟨b,k⟩
  .clear aE;dsimp![cO,eL,C7,decide_false,decide_true];exact rest _ H g1 aG () i.nd i.lt λI g J=>by rw[i.ks] at g;exact Ou g J (c8.imp W8)
  cases b with
  | true =>
   let#[#[A,S],E]:=aE;have E:d5 k M=false:=by simpa using E.symm
   have hnk:(k:Int)∉H.map λx=>(x.1:Int):=by rw[i.ks,x_ A S,E];decide
   dsimp![cO,mD,mP,eL,C7,decide_false,decide_true];simp![Fz];apply bQ #[a,m,H,rfl,hm,nu,(),by rw[aB np];exact ha,λf G2 hf1 hf2 g2=>?_];simp!;apply#[p,_,N6 (k:Int),rfl,rfl,g2.kp _ _ aG,?_,?_]
   .rw[UX];exact C8 (m:=1000) () ∅
   .have hup:cnt 24 (xr M k)=cnt 24 M+1:=zD A S E;have hB:cnt 24 (xr M k)<=B:=hB;apply rest _ (H++[(k,f)]) ((g1.trans g2).own hp) ?_ (by rw[B4,O4];omega) ?_ ?_ ?_
    .rw[aG,vb6];unfold mR;rw[vm8 (by rw[Bt];exact λz=>by let#[y,hy,e]:=D6.mp z;rw[MB e] at hy;exact hnk hy),if_neg ∅];rfl
    .rw[B7];apply Z9.mpr #[i.nd,by simp,λx hx y hy=>?_];have:y=f:=by simpa using hy
     subst this;rintro rfl;exact hf1 hx
    .intro x hx;rcases E9.mp hx with hx|hx
     .exact i.lt x hx
     .rw[F5.mp hx];show f<B;have:=i.len;omega
    .intro I g J;rw[B7,i.ks] at g;exact vf4 A S E g J
  | false =>
   let#[#[A,S],E]:=aE;have E:d5 k M=true:=by simpa using E.symm
   let#[j,hj,_,hv]:=i.look (m:=m) A S E;dsimp![cO,mD,mP,eL,C7,decide_false,decide_true];simp![RB];apply#[#[p,_,rfl,aG],p,_,N6 (k:Int),_,rfl,rfl,aG,hv,?_];apply rest _ (H.filter λx=>!decide ((x.1:Int)=k)) (g1.own hp) ?_ (C8 (Z8 _ _) ()) ((i.nd).sublist (List.filter_sublist.map _)) (λx hx=>i.lt x (Z5.mp hx).1) ?_
   .rw[aG];unfold FQ fc;rw[C35];congr 3;apply C01 λx _=>?_;show(!decide ((N6 (x.1:Int):Key)=N6 (k:Int)))=_;congr 2;exact propext #[λe=>MB e,λe=>by rw[e]]
   .intro I g J;have e:(H.filter λx=>!decide ((x.1:Int)=k)).map (λx=>(x.1:Int))=(d6 M).filter λz=>!decide (z=(k:Int)):=by rw[<- i.ks,C35];rfl
    rw[e,uu3 A E] at g;exact Ou g J (c8.imp W8)
def x54{n:Nat}:n+1<*T.oE.1<*vO:=by
 apply dk T.oE.1 jt (λ_ _ _ _ _ _ l =>
   (az (aR 2 jt.nd (v79 l (!0) rfl T.fA))
   (az (aR 3 jt.nd (aQ mT ao (!1)))
   (az (Gh (bE (t9 l) (!3) (!2) (by with_unfolding_all rfl)) (aC (FH 3 jt.nd (!1) x6)))
   (aC (aY (!3))))))) (λQ G R h=>?_)
 .let#[a,m,f,rfl,L,I,M,A,post]:=h;simp![RE];apply#[a,fc m f,rfl,.inl A,λp y=>?_];have g1:=aA.refl (G:=G) |>.new (o:=.lst ((fc m f).map (·.2))) y
  simp!;dsimp!;apply⟨.inl ∅,?_⟩;rw[show(2:Int)*(m:Int)=(((0+2)*m:Nat):Int) by omega];dsimp!;have H:(f.map (·.2)).length=f.length:=B0 _;apply Gy (λc k t=>∃(i:Nat),mL (i+c=f.length) (∀j,j<i->j∈f.map (·.2)) (t=aH G p (.lst ((fc m f).map (·.2)))) (k=[some (.ref a),some (.int (m:Int)),some (.ref p),some (.int (((i+2)*m:Nat):Int))])) (m:=f.length) ⟨0,(),λj h=>(),rfl,rfl⟩ ?_;rintro c k t N ⟨i,hi,r,rfl,rfl⟩ u;have B:∀q:DK,jj false (D.int (((i+2)*m:Nat):Int)) (D.ref p) (aH G p (.lst ((fc m f).map (·.2)))) q=q (.bl (decide (i∈f.map (·.2)))) (aH G p (.lst ((fc m f).map (·.2)))):=λq=>by
   have C:((((i+2)*m:Nat):Int)∈f.map λx=>(((x.2+2)*m:Nat):Int))=(i∈f.map (·.2)):=by
    apply propext #[λh=>?_,λh=>?_]
    .let#[x,g,e]:=D6.mp h;have e:(x.2+2)*m=(i+2)*m:=by exact_mod_cast e
     have:=Nat.eq_of_mul_eq_mul_right () e;exact D6.mpr #[x,g,()]
    .let#[x,g,rfl]:=D6.mp h;exact D6.mpr #[x,g,rfl]
   unfold jj;simp only[aG,bB,w75,VN,C];rfl
  simp![B];by_cases h:i∈f.map (·.2)
  .rw[if_pos (decide_eq_true h)];have O:=v20 (i:=i+1) (js:=f.map (·.2)) λj E=>by
    by_cases e:j=i
    .subst e;exact h
    .exact r j ()
   cases c with
   | zero=>omega| succ c =>
    simp!;apply u _ _ c rfl #[i+1,(),λj E=>?_,rfl,?_]
    .by_cases e:j=i
     .subst e;exact h
     .exact r j ()
    .rw[show((i+1+2)*m:Nat)=(i+2)*m+m by rw[show i+1+2=(i+2)+1 by omega,W7]];rfl
  .rw[if_neg (by rw[decide_eq_false h];decide)];simp?;exact post i _ h () g1
def x26{n:Nat}(L_:n<*T.nZ.1<*vA)(LZ:n<*T.nY.1<*vy):n+1<*T.nX.1<*vx:=by
 apply dk T.nX.1 dM (λ_ _ _ _ _ _ hr =>
   (az (aR 4 dM.nd (aQ mT (aQ cz ao (ek L_ hr #v[!2])) (dz fD rfl T.bf ∅ #v[(aj ai (!0) ao)])))
   (az (aR 5 dM.nd wn0)
   (az (aR 6 dM.nd (dS mO))
   (az (lC (VS rfl T.cU #v[!2]) (xT (n:=2) rfl (jW (cL 7 dM.nd) (jW (cL 8 dM.nd) xZ))) (az (aR 9 dM.nd (qH (bE (aZ hr) (aj ai (!8) ao) aV (ah _)) (aj ai (!3) (aQ cz (!7) ao)) (aj ai (!3) (!7))))
   (az (aR 10 dM.nd (qH (bE (aZ hr) (aj ai (!8) ao) aV (ah _)) (dz fD rfl T.bf ∅ #v[!1]) (aj ai (!8) ao)))
   (az (aR 11 dM.nd (bp #v[!8,(xb7 hr (!9) (aQ gI (!10) ao) ao),(x9 hr (!9) (!10))]))
   (az (aK (bE (vn9 hr) (!11) (!5) (by with_unfolding_all rfl)) (aC (wf9 hr (!5) (!11) (ek LZ hr #v[!8,(aj ai (!1) (aQ gI (!10) ao)),!0,(aj ai (!11) ao),(aj ai (!11) ao),!4]))) cw)
   (aC (dU (pA (!6) #v[(wn2 hr (!5) (!11))]))))))))
   (aC (aY (!6)))))))) (λds G R h=>?_)
 .let#[W,bs,x,PP,pp,pl,sl,as,ss,w,s,B,rfl,zZ,pat,cA,Jt,hss,aE,Yp,hB8,hBm,hBx,yQ,hn4,yL,ok,post]:=h;have hb:=ok.xo;have mH:=ok.hb;simp!;apply bQ #[pl,w,rfl,cA,aE,(),λM G1 YD Pp g1=>?_];obtain rfl:M=(B:Int):=by
   let#[y,hy,rfl]:=D6.mp YD;let#[z,hz,e]:=D6.mp hBm;have h1:=Pp _ (D6.mpr #[z,hz,rfl]);have h2:cnt 24 y<=B:=by
    rcases D7.mp hy with rfl|hy
    .rw[w_];exact J4 _
    .exact hBx y hy
   omega
  simp![B0];apply⟨Bp () (),?_⟩;dsimp![xc2];intro pk hpk;dsimp!;apply#[∅,λpc ik=>?_];have Pf:(2+B)*bs.length<=60:=Fm (show 2+B<=10 by omega) hb;have efr:((2:Int)+(B:Int))*(bs.length:Int)=(((2+B)*bs.length:Nat):Int):=by simp
  rw[efr];have hfb:bs.length<=(2+B)*bs.length:=A49 _ ();generalize YG:(2+B)*bs.length=fr at *;have gk:=g1.new (o:=.rC []) hpk;have gc:=gk.new (o:=.lst []) ik;have WS:pk≠pc:=aL aG ik;have XO:=gc.kp _ _ cA;have JF:=gk.none ik;have XQ:=g1.none hpk;dsimp![FJ,XO];apply lD (λr σ G'=>Ku λ(l t:List Pm) (M:Nat) (b:Bool) (s1 s2:List Addr) (cs:List cQ) (kvs:List (eY×D)) (v7 v8 v9 v10 v11:Option D)=>MD (l++t=w) (r=xA l.length (t.map cO)) (gE PP.length s M b t) (ss=s1++s2) (s1.length=l.length) (jF G bs.length B s2 (M::gw M t)) (aA G G') (G' pk=some (.rC kvs)) (kvs.length<=l.length) (∀q d,jQ kvs q=some d->∃c:cQ,d=c.d/\G' c.ra=some (.lst (c.rs.map Row.d))/\c.ra≠pc/\tY bs.length c/\PJ W bs PP fr PP.length q c) (cs.length=l.length) (G' pc=some (.lst (cs.map cQ.d))) (∀c∈cs,G' c.ra=some (.lst (c.rs.map Row.d))/\c.ra≠pc/\tY bs.length c) (Af fr cs (sX W bs PP l)) (σ=[some (.tup [.int (W:Int),.tup (bs.map .str),x]),some (.ref pp),some (.ref pl),some (.ref sl),some (.int (fr:Int)),some (.ref pk),some (.ref pc),v7,v8,v9,v10,v11])) #[[],w,0,false,[],ss,[],[],none,none,none,none,none,rfl,rfl,Yp,rfl,rfl,hss,gc,by rw[aB WS,aG],B9 _,(λ_ _ h=>nomatch h),rfl,aG,(λ_ h=>nomatch h),.z,rfl] ?_ ?_
  .rintro σ G2 ⟨l,t,M,b,s1,s2,cs,kvs,v7,v8,v9,v10,v11,e,e2,ED,es,iQ,xc,g2,k2,kl,kn,cl,kc,ca,Wj,rfl⟩;have ht:t=[]:=by
    cases t with
    | nil=>rfl| cons x t=>cases e2
   subst ht;rw[D9] at e;subst e;apply#[by rw[g2.kp _ _ cA];rfl,?_];dsimp!;exact post pc cs G2 JF kc cl ca Wj g2
  .rintro z r σ G2 ⟨l,t,M,b,s1,s2,cs,kvs,v7,v8,v9,v10,v11,e,e2,ED,es,iQ,xc,g2,k2,kl,kn,cl,kc,ca,Wj,rfl⟩ ih;cases t with
   | nil=>cases e2
   | cons p t =>
    cases e2;apply#[by rw[g2.kp _ _ cA];rfl,?_];let#[a,a',s3,sla,Wb,rfl,ka,ka',hIa,YE,sl3]:=xc.two;have uI:l.length<w.length:=by rw[<- e,B4,C1];omega
    have Cm:=g2.kp _ _ Jt;have i0:dE (ss.map D.ref) (l.length:Int)=some (.ref a):=x8 (by rw[es,B7,E7 (by rw[B0,iQ];exact B9 _),B0,iQ,Fl];rfl);have i1:dE (ss.map D.ref) ((l.length:Int)+1)=some (.ref a'):=x8 (j:=l.length+1) (by rw[es,B7,E7 (by rw[B0,iQ];omega),B0,iQ,A38];rfl);have JB:=g2.kp _ _ zZ;simp!;generalize hN:forL _ (uC _ _) _ _ _=N at ih⊢;generalize hBk:Go (j9 (dD 6) _)=Bk;generalize hu:fz (hJ (sY _) (tF 11)) _=u;have rest:∀(k Mw:Nat) (Wa:List (Nat×Nat)) (aw:Addr) (b':Bool),vT PP.length (cO p) k->1<=k->k<=PP.length->d5 k Mw=true->G2 aw=some (.bM (fc bs.length Wa))->pI Mw B Wa->gE PP.length s (iY M p) b' t->(∀q,p=some q->k=q.2)->Go (u { nx:=N,rt:=R,bk:=Bk,ct:=N}) [some (.tup [.int (W:Int),.tup (bs.map .str),x]),some (.ref pp),some (.ref pl),some (.ref sl),some (.int (fr:Int)),some (.ref pk),some (.ref pc),some (.int (l.length:Int)),some (cO p),some (.ref aw),some (.int (k:Int)),v11] G2:=by
     intro k Mw Wa aw b' hk h1 h3 iI Yv hIw ho hd;subst hu;let#[j,hj,Yd,hv]:=hIw.look (m:=bs.length) h1 () iI;let#[src,XF,hsr]:=hIw.get (m:=bs.length) hj (z:=(k:Int)-1) ();let#[Pd,EF,_]:=apart (j:=0) (m:=bs.length) Yd YG.symm;have Cp:src+bs.length<=fr:=by
      rcases hsr with rfl|⟨i,hi,_,rfl⟩
      .omega
      .exact(apart (j:=0) (m:=bs.length) hi YG.symm).1
     have Jv:src+bs.length<=(j+2)*bs.length\/(j+2)*bs.length+bs.length<=src:=by
      rcases hsr with rfl|⟨i,hi,EG,rfl⟩
      .left;omega
      .exact(apart (j:=j) (m:=bs.length) hi YG.symm).2.2 EG
     dsimp![Ua];apply⟨⟨aw,_,rfl,Yv⟩,?_⟩;simp!;apply⟨aw,_,N6 ((k:Int)-1),rfl,rfl,Yv,?_⟩;rw[XF];simp![wV];apply⟨aw,_,N6 (k:Int),_,rfl,rfl,Yv,hv,∅,?_⟩;let#[mk,hmk]:=hk.key;generalize hT:(j+2)*bs.length=aM at *;have Cr:cO p=.tup (mk.map kD):=hmk;rw[Cr];rw[Cr] at hk;have hq:BS (mk,[N6 (src:Int),N6 (aM:Int)])=.tup [.tup (mk.map kD),.int (src:Int),.int (aM:Int)]:=rfl;have Cs:PP.getD (k-1) []∈PP:=by rw[F4,B6 ()];exact M5 _
     generalize zY:Bm _=u2;have zM:∀(G3:Gp) (qx:List (eY×D)) (c:cQ),aA G G3->G3 pk=some (.rC qx)->qx.length<=l.length+1->(∀q d,jQ qx q=some d->∃c:cQ,d=c.d/\G3 c.ra=some (.lst (c.rs.map Row.d))/\c.ra≠pc/\tY bs.length c/\PJ W bs PP fr PP.length q c)->G3 pc=some (.lst (cs.map cQ.d))->(∀c∈cs,G3 c.ra=some (.lst (c.rs.map Row.d))/\c.ra≠pc/\tY bs.length c)->jQ qx (mk,[N6 (src:Int),N6 (aM:Int)])=some c.d->Go (u2 { nx:=N,rt:=R,bk:=Bk,ct:=N}) [some (.tup [.int (W:Int),.tup (bs.map .str),x]),some (.ref pp),some (.ref pl),some (.ref sl),some (.int (fr:Int)),some (.ref pk),some (.ref pc),some (.int (l.length:Int)),some (.tup (mk.map kD)),some (.ref aw),some (.int (k:Int)),some (.tup [.tup (mk.map kD),.int (src:Int),.int (aM:Int)])] G3:=by
      intro G3 qx c g3 k3 kl3 kn3 kc3 ca3 hc;let#[c',e3,JU,xn,hc3,hc4]:=kn3 _ _ hc;subst zY;dsimp![xc5,kc3];apply#[pk,qx,(mk,[N6 (src:Int),N6 (aM:Int)]),c'.d,rfl,rfl,k3,by rw[hc,e3],?_];apply#[C8 (m:=4000) (by rw[B0];omega) ∅,?_];apply ih _ _ #[l++[p],t,iY M p,b',s1++[a],a'::s3,cs++[c'],qx,_,_,_,_,_,by rw[<- e];simp,by rw[B4];rfl,ho,by rw[es];simp,by rw[B4,B4,iQ];rfl,sl3,g3.own JF,by rw[aB WS];exact k3,by rw[B4];exact kl3,?_,by rw[B4,B4,cl];rfl,by rw[aG,B7];rfl,?_,?_,rfl]
      .intro q d hd;let#[c2,y1,y2,y3,y4]:=kn3 q d hd;exact#[c2,y1,by rw[aB y3];exact y2,y3,y4]
      .intro c2 h2;rcases E9.mp h2 with h2|h2
       .rw[aB (ca3 c2 h2).2.1];exact ca3 c2 h2
       .obtain rfl:=F5.mp h2;rw[aB xn];exact#[JU,xn,hc3]
      .rw[vv2];apply .s Wj (o7.rn (sz:=c'.sz) (a:=c'.ra) (rows:=c'.rs) (p:=p) (ok.ok _ Cs).1 hc3 Cp Pd EF Jv (by rw[Cr];exact hc4.get hq hk) (λe=>by rw[e];rfl) λe=>?_);cases p with
       | none=>exact(e rfl).elim| some q=>rw[hd q rfl];rfl
     dsimp!;apply#[(mk,[N6 (src:Int),N6 (aM:Int)]),kvs,pk,rfl,rfl,k2,?_];cases hc:jQ kvs (mk,[N6 (src:Int),N6 (aM:Int)]) with
     | some d =>let#[c,rfl,_]:=kn _ _ hc;simp!;exact zM G2 kvs c g2 k2 () kn kc ca hc| none =>
      let#[ak,jT,Pj]:=pat.get (i:=k-1) ();have ia:dE (as.map D.ref) ((k:Int)-1)=some (.ref ak):=by rw[show(k:Int)-1=((k-1:Nat):Int) by omega];exact x8 (by rw[F7,jT];rfl)
      let#[rows,sz,mc]:=hk.code W bs (PP.getD (k-1) []) src aM fr;simp![xc1];simp![JB,bB,ia];apply bQ #[_,ak,W,bs,PP.getD (k-1) [],x,src,aM,fr,rows,sz,rfl,g2.kp _ _ Pj,(ok.ok _ Cs).1,ok.hW,(ok.ok _ Cs).2,Cp,(),(),mc,λq3 G3 hq3 k3 g3=>?_];have gd:=o7.gd (a:=q3) (ok.ok _ Cs).1 (ok.ok _ Cs).2 mH Cp Pd EF Jv () mc;simp!;have n3:pc≠q3:=aL kc hq3;have n4:pk≠q3:=aL k2 hq3;apply#[pk,kvs,(mk,[N6 (src:Int),N6 (aM:Int)]),rfl,rfl,g3.kp _ _ k2,C8 (m:=4000) () ∅,?_];apply zM _ _ #[sz,q3,rows] ((g2.trans g3).own XQ) aG ?_ ?_ ?_ ?_ ?_
      .unfold zN;split <;> simp <;> omega
      .intro q d hd;rcases ws7 hc hd with⟨rfl,rfl⟩|hd
       .exact⟨⟨sz,q3,rows⟩,rfl,by rw[aB (D3 n4)];exact k3,D3 n3,gd,⟨_,k,src,aM,hq,hk,mc⟩⟩
       .let#[c,y1,y2,y3,y4]:=kn q d hd;exact#[c,y1,by rw[aB (λz=>by rw[z,k2] at y2;cases y2)];exact g3.kp _ _ y2,y3,y4]
      .rw[aB (D3 WS)];exact g3.kp _ _ kc
      .intro c h;let#[y2,y3,y4]:=ca c h;exact#[by rw[aB (λz=>by rw[z,k2] at y2;cases y2)];exact g3.kp _ _ y2,y3,y4]
      .exact vo6 hc
    have uA4:PP.length<=24:=()
    rcases p with _|⟨bb,k⟩
    .let#[#[o1,o2],o3]:=ED;simp![cO];rw[if_neg ∅];simp![Cm,bB,i0];dsimp![JB,bB,B0,pat.len];exact rest PP.length M sla a true (.inr (.inr #[rfl,rfl])) yQ (B9 _) o1 (g2.kp _ _ ka) hIa o3 λ_ e=>nomatch e
    let#[#[#[o1,o2],o4,o5,o6],o3]:=ED;cases bb with
    | true =>
     have iI:d5 k M=false:=by simpa using o5.symm
     simp![cO,mD,mP,pD,Cm,bB,i1];dsimp!;rw[if_neg ∅];exact rest k (xr M k) Wb a' b (.inl rfl) o1 o2 (by unfold d5;exact Gj iI) (g2.kp _ _ ka') YE o3 λ_ e=>by cases e;rfl
    | false =>
     have iI:d5 k M=true:=by simpa using o5.symm
     simp![cO,mD,mP,pD];rw[if_neg ∅];simp![Cm,bB,i0];dsimp!;rw[if_neg ∅];exact rest k M sla a b (.inr (.inl rfl)) o1 o2 iI (g2.kp _ _ ka) hIa o3 λ_ e=>by cases e;rfl
def x27{n:Nat}(H:n<*T.oh.1<*vD)(I:n<*T.nQ.1<*vp):n+1<*T.nY.1<*vy:=by
 apply dk T.nY.1 pZ (λ_ _ _ _ _ _ i =>
   (az (aK (bE (aZ i) (aj ai (!0) ao) aV (ah _)) (aC (aY (ek I i #v[!4,(dz fD rfl T.bf ∅ #v[(aj ai (!2) ao)])]))) cw)
   (az (aR 6 pZ.nd (qH (bE (aZ i) (aj ai (!0) ao) aV (ah _)) aV aV))
   (aC (aY (ek H i #v[!6,!1,!2,!3,!4,!5])))))) (λN G R h=>?_)
 .let#[mv,pc,W,j,m,x,f,l,A,o,L,rfl,p,ok,r,B,y,u,t,C,post]:=h;have M:=ok.nb;cases C with
  | lay =>simp![uy];rw[if_neg ∅];dsimp!;dsimp!;exact bQ #[true,pc,W,j,m,x,f,l,A,rfl,p,ok,r,B,y,u,t,post]| clear =>simp![uy];rw[if_neg ∅];dsimp!;rw[if_neg ∅];dsimp!;exact bQ #[false,pc,W,j,m,x,f,l,A,rfl,p,ok,r,B,y,u,t,post]| kz =>simp![B0];apply bQ #[l,j.length,rfl,(),λq J E k g=>?_];exact post q J E k g
def x17{n:Nat}:n+1<*T.nQ.1<*vp:=by
 apply dk T.nQ.1 vz2 (λ_ _ _ _ _ _ x =>
   (aC (aY (bp #v[(aQ cz (!0) (!1)),(pq (N':=["at", "many", "slot"]) (ix:=[none,some 1,some 0]) (jU rfl rfl rfl) (xY rfl T.bL #v[!1]) (λ_ _ _ _=>(cL 0 (show(["at", "many", "slot"]:List Str).Nodup by decide))) (λ_ _ _ _=>mV) (λ_ _ _ _=>(bp #v[aV,(aQ cz (!1) (!0)),(bp #v[aV,(aQ cz (!2) (!0))])])))])))) (λA G R h=>?_)
 .let#[s,m,rfl,y,post]:=h;simp!;apply#[#[(),()],λp k=>?_];apply kr (λr g t=>mj λ(i c:Nat) (v:Option D)=>mL (i+c=m) (r=b_ (i:Int) c) (t=aH G p (.lst (((E6 i).map λj=>Row.add (m+j) (.box (s+j))).map Row.d))) (g=[v,some (.int (m:Int)),some (.int (s:Int))])) #[0,m,none,(),rfl,rfl,rfl] ?_ ?_
  .rintro g q ⟨i,c,v,e,f,rfl,rfl⟩;have o:c=0:=by
    cases c with
    | zero=>rfl| succ c=>rw[jX] at f;cases f
   subst o;obtain rfl:i=m:=()
   apply#[trivial,∅,?_];exact post p _ k aG (aA.refl.new k)
  .rintro z r g q ⟨i,c,v,e,f,rfl,rfl⟩ l;cases c with
   | zero=>cases f
   | succ c =>
    rw[jX] at f;cases f;apply#[trivial,?_];simp![aG];apply#[∅,∅,?_,l _ _ #[i+1,c,_,(),rfl,?_,rfl]]
    .rw[B0,B0,J2];exact C8 (m:=1000) () ∅
    .rw[ip,W5,B7,B7];rfl
def x35{n:Nat}:n+1<*T.oj.1<*vF:=by
 apply dk T.oj.1 vz8 (λ_ _ _ _ _ _ x =>
   (aC (aY (bp #v[(aQ cz (!0) (!1)),(pq (N':=["at", "many", "slot"]) (ix:=[none,some 1,some 0]) (jU rfl rfl rfl) (xY rfl T.bL #v[!1]) (λ_ _ _ _=>(cL 0 (show(["at", "many", "slot"]:List Str).Nodup by decide))) (λ_ _ _ _=>mV) (λ_ _ _ _=>(bp #v[aV,(aQ cz (!1) (!0)),(aQ cz (!2) (!0))])))])))) (λA G R h=>?_)
 .let#[s,m,rfl,y,post]:=h;simp!;apply#[#[(),()],λp k=>?_];apply kr (λr g t=>mj λ(i c:Nat) (v:Option D)=>mL (i+c=m) (r=b_ (i:Int) c) (t=aH G p (.lst (((E6 i).map λj=>Row.swap (m+j) (s+j)).map Row.d))) (g=[v,some (.int (m:Int)),some (.int (s:Int))])) #[0,m,none,(),rfl,rfl,rfl] ?_ ?_
  .rintro g q ⟨i,c,v,e,f,rfl,rfl⟩;have o:c=0:=by
    cases c with
    | zero=>rfl| succ c=>rw[jX] at f;cases f
   subst o;obtain rfl:i=m:=()
   apply#[trivial,∅,?_];exact post p _ k aG (aA.refl.new k)
  .rintro z r g q ⟨i,c,v,e,f,rfl,rfl⟩ l;cases c with
   | zero=>cases f
   | succ c =>
    rw[jX] at f;cases f;apply#[trivial,?_];simp![aG];apply#[∅,?_,l _ _ #[i+1,c,_,(),rfl,?_,rfl]]
    .rw[B0,B0,J2];exact C8 (m:=1000) () ∅
    .rw[ip,W5,B7,B7];rfl
def x46{n:Nat}:n+1<*T.dn.1<*sC:=by
 apply DL T.dn.1 dj (λds G R h=>?_) (λ_ _ _ _ _ _ Y =>
   (az (tG (!0) (xT (n:=3) rfl (jW (cL 2 dj.nd) (jW (cL 3 dj.nd) (jW (cL 4 dj.nd) xZ)))))
   (az (aK (bE (aZ Y) (!4) ao (ah _)) (az (tG (aQ cz (!3) ao) (zy (!0) ao zB))
   (az (aR 5 dj.nd (aQ cz (aQ mT ao (!3)) ao))
   (az (aK (bE (pL) (dz fD rfl T.bf ∅ #v[!2]) ao (ah _)) (aC (aR 5 dj.nd (aj ai (!2) (aQ uc (!3) (dz fD rfl T.bf ∅ #v[!2]))))) cw)
   (az (aR 4 dj.nd (dz xh6 rfl T.u7 ∅ #v[!5]))
   (aC (aK (pB (w_or (bE (Ro) (!3) (dz fD rfl T.bf ∅ #v[!2]) (ah _)) (DG (bE (lB) (!4) (aQ xh4 ao ao) (ah _))))) (az (aR 6 dj.nd (aQ uc (aQ cz (aQ cz (aQ mT (aQ uc (!5) ao) (aQ cz ao (!3))) (aQ mT ao (!3))) ao) ao))
   (az (aR 6 dj.nd (aQ uc (aQ mT (!6) (!6)) ao))
   (aC (aY (aQ uc (aQ uc (aQ mT (!6) (!6)) ao) (!1)))))) cw)))))) cw)
   (az (tG (dz vo1 rfl T.jE ∅ #v[!4,!1]) (xT (n:=2) rfl (jW (zy (!0) ao zB) (jW (cL 7 dj.nd) xZ))))
   (aC (aY (!7))))))) (λds G R h=>?_)
 .let#[#[st,m,rfl,_],_]:=h;rfl
 .let#[#[st,m,rfl,#[a,g,k,r,M,B,A,u,x,l],E,X_],post]:=h;have fin:∀(v i f:Int),0<=v->v<m->0<=i->0<=f->R (.int v) (aH G st (.lst [.ref a,.int i,.int f])):=λv i f j p h3 h4=>post _ _ #[st,m,v,rfl,
   #[#[a,g,i,f,aG,by rw[aB x];exact B,h3,h4,x,l],λb o hb e=>by rw[aB hb];exact e],rfl,j,p]
  have tail:∀(y i f:Int),0<=i->0<=f->R (.int (y%m)) (aH G st (.lst [.ref a,.int i,.int f])):=λy i f j p=>fin _ _ _ (W4 _ ()) (T6 _ E) j p;have cd:∀c:Int,zo c m:=λc=>#[E,X_];have Q:∀c y:Int,jb (c%2147483629) y:=λc y=>Bp () ();have q:∀c y:Int,jb (c%2147483587) y:=λc y=>Bp () ();have S:∀y:Int,jb 7 y:=λy=>Bp ∅ ∅;have t:∀y:Int,jb 7919 y:=λy=>Bp ∅ ∅;have O:kj 10 18:=#[∅,∅,∅];have L:((0:Int)<2147483629)=True:=∅;have J:((0:Int)<2147483587)=True:=∅;have I:((0:Int)<1999999973)=True:=∅;have H:((0:Int)<m)=True:=eq_true E;by_cases N:g=[]
  .subst N;simp?[M,B,aB x,ip,cd,Q,q,S,t,O,L,J,I,H];apply eZ (λC=>?_) (λC=>?_)
   .simp only[C75,Int.natCast_zero,decide_false,L7,if_false];apply eZ (λj=>?_) (λj=>?_)
    .exact tail _ _ _ () u
    .exact absurd A j
   .exact tail _ _ _ A (B55 u ())
  .have U:0<g.length:=List.length_pos_iff.mpr N;have Z:((g.map D.int).length:Int)=(g.length:Int):=by simp
   obtain⟨c,hc⟩:∃c,dE (g.map D.int) (k%(g.length:Int))=some (.int c):=#[_,wq2 (W4 _ ()) (T6 _ ())];have X:((0:Int)<(g.length:Int))=True:=eq_true ();simp?[M,B,aB x,ip,cd,Q,q,S,t,O,L,J,I,H,Z,hc,X];apply eZ (λC=>?_) (λC=>?_)
   .apply eZ (λj=>?_) (λj=>?_)
    .exact tail _ _ _ () u
    .apply eZ (λp=>?_) (λp=>?_)
     .exact tail _ _ _ () u
     .apply tail _ _ _ () (B55 ?_ ());split <;> omega
   .exact tail _ _ _ A (B55 u ())
def x49{n:Nat}:n+1<*T.kS.1<*oU:=by
 apply dk T.kS.1 w00 (λ_ _ _ _ _ _ i =>
   (az (aK (bE (aZ i) (!0) ao (ah _)) (aC (aY ao)) cw)
   (aC (aY (aj ai (dS #v[(aQ gI (aQ Bo ao (!0)) ao),(aQ Bo ao (aQ gI (!0) ao))]) (qU Vb rfl T.oM ∅ #v[!1])))))) (λq G R h=>?_)
 .let#[s,b,rfl,o,post]:=h;cases s with
  | zero =>simp!;exact post _ aA.refl| succ s =>
   have z:(((s+1:Nat):Int)=0)=False:=eq_false ();have m:kj 1 ((s+1:Nat):Int):=FP () ();have f:kj 1 (s:Int):=FP () ();have l:((s+1:Nat):Int)-1=(s:Int):=()
   simp![z];dsimp![m,f,l];apply#[∅,λp g=>?_];have k:(1*2^(s+1)-1:Int)=((2^(s+1)-1:Nat):Int):=by have:=Q0 (s+1);rw[Int.natCast_sub ()];simp
   have j:(1*2^s:Int)=((2^s:Nat):Int):=by simp
   rw[k,j];cases b
   .exact post _ (aA.refl.new g)
   .exact post _ (aA.refl.new g)
def x38{n:Nat}:n+1<*T.jC.1<*jG:=by
 apply dk T.jC.1 lN (λ_ _ _ _ _ _ O =>
   (az (aR 1 lN.nd (dS mO))
   (az (lC (jl (w45 (!0))) (cL 2 lN.nd) (aC (aK (bE (aZ O) (aj ai (!2) ao) aV (ah _)) (aC (dU (pA (!1) #v[!2]))) (aC (dU (pA (!1) #v[(bp #v[(aj ai (dS #v[aV,aV]) (qU Vb rfl T.oM ∅ #v[(wW (aZ O) (aj ai (!2) ao) aV (ah _))])),(aj ai (!2) ao)])]))))))
   (aC (aY (!1)))))) (λds G R h=>?_)
 .let#[a,w,rfl,Q,hl,post]:=h;simp!;apply#[∅,λp y=>?_];have Ja:a≠p:=aL Q y;have jT:∀{o:DO},aH G p o a=some (.lst (w.map cO)):=λ{o}=>by rw[aB Ja];exact Q
  dsimp![jT];intro H L;have I:p≠H:=λz=>by rw[<- z,aG] at L;cases L
  have g1:aA G (aH (aH G p (.lst [])) H (.lst (w.map cO).reverse)):=(aA.refl.new y).new L;apply lD (λr C i=>mj λ(l t:List Pm) (E:Option D)=>zq (t++l=w) (r=(t.map cO).reverse) (aA G i) (i H=some (.lst (w.map cO).reverse)) (i p=some (.lst ((mJ l).map cO))) (C=[some (.ref a),some (.ref p),E])) #[[],w,none,by simp,rfl,g1,aG,by rw[aB I,aG];rfl,rfl] ?_ ?_
  .rintro C i ⟨l,t,E,e,B,g,x,q,rfl⟩;have j:t=[]:=by simpa using B.symm
   subst j;rw[J6] at e;subst e;apply#[by rw[x];rfl,?_];dsimp!;exact post p i y q g
  .rintro z r C i ⟨l,t,E,e,B,g,x,q,rfl⟩ N;rcases V5 t with j|⟨t,f,j⟩
   .subst j;cases B
   .rw[V6] at j;subst j;rw[B7,A79] at B;cases B;apply⟨by rw[x];rfl,?_⟩;have A:=congrArg J5 e;rw[B4,B4] at A;have Z:=wp9 (w:=l);have S:mJ (f::l)=mJ l++[eU f]:=by unfold mJ;rw[C0,U4]
    have M:((mJ l).map cO).length<sizeLine:=by rw[B0,Z];exact C8 (m:=10000) () ∅
    cases f with
    | none =>
     simp![cO,q];apply#[M,N _ _ #[none::l,t,_,by rw[<- e,D4];rfl,rfl,?_,?_,by rw[aG,S,B7];rfl,rfl]]
     .exact#[λb u k=>by rw[aB (aL k y)];exact g.kp _ _ k]
     .rw[aB (D3 I)];exact x
    | some f =>
     have X:((if f.1=true then("lay" :Str) else "clear") = "show")=False:=eq_false (by cases f.1 <;> decide);have Ye:dE [D.str "lay",D.str "clear"] (if decide ((if f.1=true then("lay" :Str) else "clear") = "lay")=true then 1 else 0)=some (D.str (mP (!f.1,f.2)).1):=by cases h:f.1 <;> rfl
     simp![cO,mD,pD,mP,X];rw[q];apply#[trivial,∅,λY J=>?_];have U:∀{o:DO},aH i Y o p=some (.lst ((mJ l).map cO)):=λ{o}=>by rw[aB (aL q J)];exact q
     simp only[Ye,U];apply#[∅,M,N _ _ #[some f::l,t,_,by rw[<- e,D4];rfl,rfl,?_,?_,by rw[aG,S,B7];rfl,rfl]]
     .exact#[λb u k=>by rw[aB (aL k y),aB (aL (g.kp _ _ k) J)];exact g.kp _ _ k]
     .rw[aB (D3 I),aB (aL x J)];exact x
def x36{n dp:Nat}(aT:n<*T.dn.1<*sC)(sv:n<*T.kS.1<*oU)(lr:n<*T.jC.1<*jG)(pd:n<*T.gW.1<*eB dp):n+1<*T.gW.1<*eB (dp+1):=by
 apply DL T.gW.1 gv (λds G R h=>?_) (λ_ _ _ _ _ _ q =>
   (az (aK (bE (aZ q) (aQ gI (!2) (!1)) ao (ah _)) (aC (aY (dS #v[(bp #v[aV,!2])]))) cw)
   (az (aR 5 gv.nd (dS mO))
   (az (lC (w39 rfl T.bL #v[(aQ cz (!1) ao),(aQ cz (aQ cz (!1) ao) (aQ wr4 (aQ cz (aQ gI (!2) (!1)) ao) ao))]) (cL 6 gv.nd) (aC (aK (pB (w_and (bE (t7) (aQ gI (!6) (!1)) (ek sv q #v[(aQ gI (!3) (qU Vb rfl T.oM ∅ #v[!4])),dq]) (ah _)) (wY (bE (t7) (aQ gI (!2) (!6)) (ek sv q #v[(aQ gI (!3) ao),!4]) (ah _))))) (aC (dU (pA (!5) #v[!6]))) cw)))
   (az (aR 6 gv.nd (aj ai (!5) (ek aT q #v[!0,(dz fD rfl T.bf ∅ #v[!5])])))
   (az (aR 7 gv.nd (aQ cz (ek pd q #v[!0,!1,!6,!3,dq]) (ek pd q #v[!0,!6,!2,(aQ gI (!3) ao),!4])))
   (az (aK (mS (!4)) (aC (aR 7 gv.nd (aQ cz (!7) (ek lr q #v[(ek pd q #v[!0,!1,!6,(aQ gI (!3) ao),dq])])))) cw)
   (aC (aY (!7)))))))))) (λds G R h=>?_)
 .let#[st,f,l,s,b,rfl,_]:=h;rfl
 .let#[st,f,l,s,b,rfl,S,h1,h2,h3,h4,h5,post]:=h;by_cases uA5:l-f=1
  .have e1:((l:Int)-(f:Int)=1)=True:=eq_true ();simp![e1];apply#[∅,∅,λp t=>?_];have hl:l=f+1:=()
   subst hl;have hs:1<=s:=by
    cases s with
    | zero=>simp[fR] at h4| succ s=>omega
   exact post p [(true,f+1)] _ ((cI.refl S).new t) t (S.ne t) aG (w62 hs) (by simp)
  .have e1:((l:Int)-(f:Int)=1)=False:=eq_false ();let#[g,hs',JU,xn]:=vj1 (by omega:2<=l-f) h4;subst hs';simp![e1];dsimp!;apply#[∅,λp t=>?_];have S1:=S.new (o:=.lst []) t;have H:=S.ne t;have cd:MX ((l:Int)-(f:Int)+1) 2:=#[∅,∅];obtain⟨j,ehh⟩:∃j:Nat,j=(l-f+1) / 2:=#[_,rfl];have ed:((l:Int)-(f:Int)+1) / 2=(j:Int):=()
   have en:((f:Int)+1+(j:Int)-((f:Int)+1)).toNat=j:=()
   dsimp![cd,ed,en];apply#[#[(),(),(),()],?_];have hh1:1<=j:=()
   have hhl:f+j<l:=()
   have eb:((g+1:Nat):Int)-(if b=true then 1 else 0)=((if b=true then g else g+1:Nat):Int):=by cases b <;> simp
   have es:((g+1:Nat):Int)-1=(g:Int):=()
   have sb:(if b=true then g else g+1)<=100:=by split <;> omega
   apply lD (λr σ G'=>∃(i c:Nat) (k:List Nat) (v:Option D),i+c=j/\r=b_ ((f:Int)+1+(i:Int)) c/\cI st G G'/\G' p=some (.lst (k.map nD))/\k.length<=i/\(∀x∈k,f<x/\x<=f+j/\x-f<=fR (if b=true then g else g+1) true/\l-x<=fR g b)/\(i=j->f+j∈k)/\σ=[some (.ref st),some (.int (f:Int)),some (.int (l:Int)),some (.int ((g+1:Nat):Int)),some (.bl b),some (.ref p),v,none]) #[0,j,[],none,(),by simp,(cI.refl S).new t,aG,by simp,(by simp),(λz=>()),rfl] ?_ ?_
   .rintro σ G1 ⟨i,c,k,v,e,E,A1,O,hml,Y,z0,rfl⟩;apply#[trivial,?_];have ec:c=0:=by
     cases c with
     | zero=>rfl| succ c=>rw[jX] at E;cases E
    subst ec;have Yg:=z0 ();have hmp:0<k.length:=A48 Yg;dsimp![O,B0];apply fN A1.at_ () () λv1 G2 a2 p1 q1=>?_;have N:=a2.kp _ _ H O;let#[d,hd,uK]:=at_getD (xs:=k.map nD) p1 (by rw[B0];exact q1);let#[m,hm,rfl]:=D6.mp hd;let#[M,m2,m3,m4]:=Y m hm;have J:=A1.trans a2;have mc:m-f<=fR (g+1) true:=by
     cases b
     .exact m3
     .exact D5 m3 vw2
    simp![N,uK,nD];dsimp!;apply M_ (dp:=dp) J.at_ M () () mc h5 λq1 B u X f3 n3 C W1 l1=>?_;simp![es];apply M_ (dp:=dp) X.at_ (by omega:m<l) () h3 m4 () λq2 A G4 a4 f4 n4 k4 W2 l2=>?_;have Ew:=a4.kp _ _ n3 C;have A4:=J.trans (X.trans a4);have L1:(m-f)*(m-f)<=24*24:=Fm () ();have L2:(l-m)*(l-m)<=24*24:=Fm () ();simp!;apply zF Ew k4 (by rw[B0,B0];omega) λp5 tT=>?_;have Z:=A4.new (o:=.lst (B.map mD++A.map mD)) tT;have n5:=A4.at_.ne tT;have f5:G p5=none:=A4.none tT n5;rw[<- B7] at Z⊢;simp!;dsimp!;cases b with
    | false =>simp!;dsimp!;apply post p5 (B++A) _ Z f5 n5 aG (vo4 M () W1 W2) ?_;have:=v15 (a:=m-f) (L:=l-f) (x:=B.length) (y:=A.length) (z:=0) () () () l1 (by rw[show l-f-(m-f)=l-m by omega];exact l2) (J4 _);rw[B4];omega| true =>simp![es];apply M_ (dp:=dp) Z.at_ M () () m3 () λq3 w3 G6 a6 f6 n6 k6 W3 l3=>?_;simp!;apply Oi k6 () λq7 G7 f7 h7 g7=>?_;have k57:G7 p5=some (.lst ((B++A).map mD)):=g7.kp _ _ (a6.kp _ _ n5 aG);have A7:=(Z.trans a6).grow g7;simp!;apply zF k57 h7 (by rw[B0,B0,B4,DV];omega) λp8 Cv=>?_;have A8:=A7.new (o:=.lst ((B++A).map mD++(fS w3).map mD)) Cv;have n8:=A7.at_.ne Cv;rw[<- B7] at A8⊢;simp!;dsimp!;apply post p8 (B++A++fS w3) _ A8 (A7.none Cv n8) n8 aG (v96 M () W1 W2 W3) ?_;have:=v15 (a:=m-f) (L:=l-f) (x:=B.length) (y:=A.length) (z:=w3.length) () () () l1 (by rw[show l-f-(m-f)=l-m by omega];exact l2) l3;rw[B4,B4,DV];omega
   .rintro z r σ G1 ⟨i,c,k,v,e,E,A1,O,hml,Y,z0,rfl⟩ Q;cases c with
    | zero=>cases E
    | succ c =>
     rw[jX] at E;cases E;apply#[trivial,?_];obtain⟨x,hx⟩:∃x:Nat,x=f+1+i:=#[_,rfl];have ex:(f:Int)+1+(i:Int)=(x:Int):=()
     have I:(x:Int)+1=(f:Int)+1+((i+1:Nat):Int):=()
     rw[ex] at Q;simp![ex,eb];apply Ru sb λG2 g2=>?_;have N:=g2.kp _ _ O;have J:=A1.grow g2;have no:∀(u:Gp),cI st G u->u p=some (.lst (k.map nD))->¬ (x-f<=fR (if b=true then g else g+1) true/\l-x<=fR g b)->∃(U c':Nat) (k:List Nat) (v:Option D),U+c'=j/\b_ ((x:Int)+1) c=b_ ((f:Int)+1+(U:Int)) c'/\cI st G u/\u p=some (.lst (k.map nD))/\k.length<=U/\(∀x∈k,f<x/\x<=f+j/\x-f<=fR (if b=true then g else g+1) true/\l-x<=fR g b)/\(U=j->f+j∈k)/\[some (D.ref st),some (.int (f:Int)),some (.int (l:Int)),some (.int ((g+1:Nat):Int)),some (.bl b),some (.ref p),some (.int (x:Int)),none]=[some (.ref st),some (.int (f:Int)),some (.int (l:Int)),some (.int ((g+1:Nat):Int)),some (.bl b),some (.ref p),v,none]:=λu X C XY=>by
      apply#[i+1,c,k,_,(),by rw[I],X,C,(),Y,λz=>?_,rfl];apply absurd #[?_,?_] XY
      .have:x-f=f+(l-f+1) / 2-f:=()
       rw[this];exact JU
      .have:l-x=l-(f+(l-f+1) / 2):=()
       rw[this];exact xn
     simp![es];apply eZ (λhy=>?_) (λhy=>?_)
     .apply Ru () λu g3=>?_;have C:=g3.kp _ _ N;have A3:=J.grow g3;simp!;apply eZ (λJo=>?_) (λJo=>?_)
      .simp![C];apply#[by rw[B0];exact C8 (m:=1000) () ∅,Q _ _ #[i+1,c,k++[x],_,(),by rw[I],A3.own t C H,by rw[aG,B7];rfl,by simp;omega,λy hy=>?_,λz=>?_,rfl]]
       .rcases E9.mp hy with z|z
        .exact Y y z
        .have z:y=x:=by simpa using z
         subst z;exact⟨(),(),(),()⟩
       .have:f+j=x:=()
        rw[this];simp
      .exact Q _ _ (no u A3 C ())
     .exact Q _ _ (no G2 J N ())
def x44{n:Nat}:n+1<*T.ow.1<*rW:=by
 apply dk T.ow.1 lR (λ_ _ _ _ _ _ L =>
   (az (aR 3 lR.nd (dS mO))
   (az (lC (w39 rfl T.bL #v[ao,(aQ cz (!1) ao)]) (cL 4 lR.nd) (aC (aK (pB (w_or (bE (aZ L) (!4) ao (ah _)) (DG (bE (t9 L) (aQ gI (!4) ao) (!0) (by with_unfolding_all rfl))))) (aC (aK (bE (t9 L) (!4) (!0) (by with_unfolding_all rfl)) (aC (dU (pA (!3) #v[(bp #v[aV,!4])]))) (aC (aK (bE (lB) (dz fD rfl T.bf ∅ #v[!0]) (!2) (ah _)) (aC (dU (pA (!3) #v[(bp #v[aV,!4])]))) cw)))) cw)))
   (aC (aY (!3)))))) (λds G R h=>?_)
 .let#[a,m,f,s,rfl,S,X,Y,post]:=h;have Z:((f:Int)+1-1).toNat=f:=()
  have El:(-2^62<=(1:Int)/\(1:Int)<2^62/\-2^62<=(f:Int)+1/\(f:Int)+1<2^62):=#[∅,∅,(),()];simp!;apply#[∅,λE N=>?_];have Ja:a≠E:=aL S N;have A:∀{o:DO},aH G E o a=some (.lst ((d6 m).map .int)):=λ{o}=>by rw[aB Ja];exact S
  dsimp![Z];apply#[El,?_];have x:((d6 m).map D.int).length=cnt f m:=by rw[B0,NM,w47 Y X]
  apply lD (λr J O=>tj λ(i c:Nat) (j:List Mv) (v:Option D)=>zq (i+c=f) (r=b_ ((i:Int)+1) c) (O=aH G E (.lst (j.map mD))) (j.length<=i) (∀p,p∈j↔kC f s m p/\p.2<=i) (J=[some (.ref a),some (.int (f:Int)),some (.int (s:Int)),some (.ref E),v])) #[0,f,[],none,(),rfl,rfl,by simp,(λp=>#[λz=>by simp at z,λz=>by have:=z.1.1.1;omega]),rfl] ?_ ?_
  .rintro J O ⟨i,c,j,v,e,C,rfl,bT,q,rfl⟩;apply#[trivial,?_];dsimp!;have ec:c=0:=by
    cases c with
    | zero=>rfl| succ c=>rw[jX] at C;cases C
   subst ec;exact post E j _ N aG (λp=>(q p).trans #[λz=>z.1,λz=>#[z,by have:=z.1.2;omega]]) () (aA.refl.new N)
  .rintro z r J O ⟨i,c,j,v,e,C,rfl,bT,q,rfl⟩ u;cases c with
   | zero=>cases C
   | succ c =>
    rw[jX] at C;cases C;apply#[trivial,?_];have ei:(i:Int)+1=((i+1:Nat):Int):=()
    have M:((i+1:Nat):Int)-1=(i:Int):=()
    have I:(j.map mD).length<sizeLine:=by rw[B0];exact C8 (m:=1000) () ∅
    have tail:(i=0\/m.testBit (i-1)=true)->(m.testBit i=true->kC f s m (false,i+1))/\(m.testBit i=false->cnt f m<s->kC f s m (true,i+1))/\(m.testBit i=false->¬ cnt f m<s->∀b,¬ kC f s m (b,i+1)):=λh=>by
     have U:(i+1=1\/m.testBit (i+1-2)=true):=by
      rcases h with h|h
      .left;omega
      .by_cases B:i=0
       .left;omega
       .right;have:i+1-2=i-1:=()
        rw[this];exact h
     apply⟨λg=>#[#[(),by show i+1<=f;omega],U,?_,λz=>by cases z],λg y=>#[#[(),by show i+1<=f;omega],U,?_,λ_=>y],λg y b x=>?_⟩
     .show false=!m.testBit i;rw[g];rfl
     .show true=!m.testBit i;rw[g];rfl
     .have l:b=!m.testBit i:=x.2.2.1;rw[g] at l;exact y (x.2.2.2 l)
    have t:¬ i=0->¬ m.testBit (i-1)=true->∀b,¬ kC f s m (b,i+1):=λB l b x=>by
     rcases x.2.1 with z|z
     .have z:i+1=1:=z;omega
     .have z:m.testBit (i+1-2)=true:=z;have:i+1-2=i-1:=()
      rw[this] at z;exact l z
    simp![ei,M,A];by_cases B:i=0
    .rw[if_pos (decide_eq_true ())];apply VC (ns:=d6 m) (by rw[A];rfl) ?_;rw[if_neg C9];by_cases g:m.testBit i=true
     .rw[decide_eq_true ((x_ (k:=i+1) () ()).mpr g)];simp!;apply⟨∅,I,u _ _ ⟨i+1,c,j++[(false,i+1)],_,(),rfl,?_,by simp;omega,NL q ((tail (.inl B)).1 g),rfl⟩⟩;rw[ip,B7];rfl
     .have H:m.testBit i=false:=by simpa using g
      rw[decide_eq_false λz=>g ((x_ (k:=i+1) () ()).mp z)];simp![A,x];apply eZ (λy=>?_) (λy=>?_)
      .apply⟨∅,I,u _ _ ⟨i+1,c,j++[(true,i+1)],_,(),rfl,?_,by simp;omega,NL q ((tail (.inl B)).2.1 H ()),rfl⟩⟩;rw[ip,B7];rfl
      .exact u _ _ ⟨i+1,c,j,_,(),rfl,rfl,(),Ui q ((tail (.inl B)).2.2 H ()),rfl⟩
    .rw[if_neg (by rw[decide_eq_false ()];decide)];apply VC (ns:=d6 m) (by rw[A];rfl) ?_;rw[if_neg C9];by_cases l:m.testBit (i-1)=true
     .rw[decide_eq_true ((x_ (k:=i) () ()).mpr l)];simp!;apply VC (ns:=d6 m) (by rw[A];rfl) ?_;rw[if_neg C9];by_cases g:m.testBit i=true
      .rw[decide_eq_true ((x_ (k:=i+1) () ()).mpr g)];simp!;apply⟨∅,I,u _ _ ⟨i+1,c,j++[(false,i+1)],_,(),rfl,?_,by simp;omega,NL q ((tail (.inr l)).1 g),rfl⟩⟩;rw[ip,B7];rfl
      .have H:m.testBit i=false:=by simpa using g
       rw[decide_eq_false λz=>g ((x_ (k:=i+1) () ()).mp z)];simp![A,x];apply eZ (λy=>?_) (λy=>?_)
       .apply⟨∅,I,u _ _ ⟨i+1,c,j++[(true,i+1)],_,(),rfl,?_,by simp;omega,NL q ((tail (.inr l)).2.1 H ()),rfl⟩⟩;rw[ip,B7];rfl
       .exact u _ _ ⟨i+1,c,j,_,(),rfl,rfl,(),Ui q ((tail (.inr l)).2.2 H ()),rfl⟩
     .rw[decide_eq_false λz=>l ((x_ (k:=i) () ()).mp z)];simp!;exact u _ _ ⟨i+1,c,j,_,(),rfl,rfl,(),Ui q (t B l),rfl⟩
def x50{n:Nat}:n+1<*T.oB.1<*rY:=by
 apply dk T.oB.1 w01 (λ_ _ _ _ _ _ L =>
   (az (aK (bE (aZ L) (aj ai (!1) ao) aV (ah _)) (aC (aY (dz vn8 rfl T.ib ∅ #v[(aQ cz (!0) (dS #v[(aj ai (!1) ao)]))]))) cw)
   (aC (aY (pq (N':=["_law_k", "_law_move"]) (ix:=[none,some 1]) (jU rfl rfl rfl) (jl (!0)) (λ_ _ _ _=>(cL 0 (show(["_law_k", "_law_move"]:List Str).Nodup by decide))) (λ_ _ _ _=>(UO (bE (iU L) (!0) (aj ai (!1) ao) (ah _)))) (λ_ _ _ _=>(!0))))))) (λds G R h=>?_)
 .let#[a,m,p,rfl,k,#[C,u],post]:=h;have M:((d6 m).map D.int).length<=24:=by rw[B0,NM];exact FO
  cases t:p.1 with
  | true =>
   rw[t] at u;have B:d5 p.2 m=false:=by simpa using u.symm
   simp![mD,pD,mP,t];apply#[∅,λl i=>?_];apply zF (by rw[aB (aL k i)];exact k) aG (by show _+1<=100000;omega) λQ N=>?_;apply#[Q,d6 m++[(p.2:Int)],rfl,by rw[aG,B7];rfl,by rw[B4,O4];rw[B0] at M;omega,λO iP H Z Y=>?_];have e:=vf4 C.1 C.2 B Z Y;subst e;exact post O _ ((((aA.refl.new i).new N)).none H) aG (((aA.refl.new i).new N).new H)
  | false =>
   rw[t] at u;have B:d5 p.2 m=true:=by simpa using u.symm
   have S:(("clear" :Str) = "lay")=False:=eq_false ∅;simp![mD,pD,mP,t,S];dsimp![k];intro l i;have I:∀{o:DO},aH G l o a=some (.lst ((d6 m).map .int)):=λ{o}=>by rw[aB (aL k i)];exact k
   apply kr (λr A E=>mj λ(g f:List Int) (v:Option D)=>mL (g++f=d6 m) (r=f.map .int) (E=aH G l (.lst ((g.filter λx=>!decide (x=(p.2:Int))).map .int))) (A=[v,some (.tup [.str "clear",.int (p.2:Int)])])) #[[],d6 m,none,rfl,rfl,rfl,rfl] ?_ ?_
   .rintro A E ⟨g,f,v,e,y,rfl,rfl⟩;have U:f=[]:=by simpa using y.symm
    subst U;rw[D9] at e;subst e;apply#[by rw[I];rfl,?_];rw[uu3 C.1 B];exact post l _ i aG (aA.refl.new i)
   .rintro z r A E ⟨g,f,v,e,y,rfl,rfl⟩ J;cases f with
    | nil=>cases y
    | cons x f =>
     cases y;apply#[by rw[I];rfl,?_];have j:=congrArg J5 e;rw[B4,C1] at j;rw[B0] at M;have X:=Z8 (λx=>!decide (x=(p.2:Int))) g;simp!;by_cases q:x=(p.2:Int)
     .rw[if_neg (by rw[decide_eq_true q];decide)];apply J _ _ #[g++[x],f,_,by rw[<- e,D4];rfl,rfl,?_,rfl];rw[Z3];simp[q]
     .rw[if_pos (by rw[decide_eq_false q];rfl)];simp!;apply#[by rw[B0];exact C8 (m:=1000) () ∅,J _ _ #[g++[x],f,_,by rw[<- e,D4];rfl,rfl,?_,rfl]];rw[ip,Z3];simp[q]
def x47{n:Nat}(aT:n<*T.dn.1<*sC)(lr:n<*T.jC.1<*jG)(Mj:n<*T.ow.1<*rW)(wA:n<*T.oB.1<*rY):n+1<*T.oz.1<*rX:=by
 apply dk T.oz.1 cN (λ_ _ _ _ _ _ C =>
   (az (aR 4 cN.nd (dS mO))
   (az (aR 5 cN.nd (dS mO))
   (az (lC (jl (!1)) (cL 6 cN.nd) (az (aK (bE (aZ C) (ek aT C #v[!0,ao]) ao (ah _)) (az (aR 7 cN.nd (dS mO))
   (az (lC (xY rfl T.bL #v[(aQ cz ao (ek aT C #v[!0,ao]))]) (cL 8 cN.nd) (az (aR 9 cN.nd (ek Mj C #v[!5,!2,!3]))
   (az (dU (pA (!7) #v[(aj ai (!9) (ek aT C #v[!0,(dz fD rfl T.bf ∅ #v[!9])]))]))
   (aC (aR 5 cN.nd (ek wA C #v[!5,(aj ai (!7) (sW FN ao))]))))))
   (az (lC (jl (ek lr C #v[!7])) (cL 10 cN.nd) (aC (aR 5 cN.nd (ek wA C #v[!5,!10]))))
   (aC (aR 4 cN.nd (aQ cz (aQ cz (!4) (!7)) (ek lr C #v[!7]))))))) cw)
   (az (dU (pA (!4) #v[!6]))
   (aC (aR 5 cN.nd (ek wA C #v[!5,!6]))))))
   (aC (aY (!4))))))) (λds G R h=>?_)
 .let#[st,a,w,x,s,rfl,S,iI,ha,hw,yQ,mG,hs,hl,post]:=h;simp!;apply#[∅,λp hp=>?_];dsimp!;apply#[∅,λp1 bT=>?_];have A0:=((cI.refl S).new (o:=.lst []) hp).new (o:=.lst []) bT;have ns:=S.ne hp;have n1s:=(S.new (o:=.lst []) hp).ne bT;have n01:p≠p1:=λz=>by rw[<- z,aG] at bT;cases bT
  have ha0:=A0.kp _ _ iI ha;dsimp![ha0];apply lD (λr u j=>Kv λ(l t F:List Mv) (q B:Addr) (v5 v6 v7 v8 v9:Option D)=>MF (l++t=w) (r=t.map mD) (cI st G j) (G q=none) (q≠st) (q≠B) (j q=some (.lst (F.map mD))) (j B=some (.lst ((d6 (fin 0 l)).map .int))) (B≠st) (fP x s 0 F) (fin 0 F=fin 0 l) (F.length<=7*l.length) (u=[some (.ref st),some (.ref a),some (.int (x:Int)),some (.int (s:Int)),some (.ref q),some (.ref B),v5,v6,v7,v8,v9])) #[[],w,[],p,p1,none,none,none,none,none,rfl,rfl,A0,hp,ns,n01,by rw[aB n01];exact aG,aG,n1s,trivial,rfl,by simp,rfl] ?_ ?_
  .rintro u G1 ⟨l,t,F,q,B,v5,v6,v7,v8,v9,e,A,A1,f1,nq,WN,k1,k2,OL,hF,CH,hlF,rfl⟩;have ht:t=[]:=by simpa using A.symm
   subst ht;rw[D9] at e;subst e;apply#[by rw[A1.kp _ _ iI ha];rfl,?_];dsimp!;exact post q F G1 A1 f1 nq k1 hF CH ()
  .rintro z r u G1 ⟨l,t,F,q,B,v5,v6,v7,v8,v9,e,A,A1,f1,nq,WN,k1,k2,OL,hF,CH,hlF,rfl⟩ ih;cases t with
   | nil=>cases A
   | cons J t =>
    cases A;apply#[by rw[A1.kp _ _ iI ha];rfl,?_];simp!;generalize hN:Go (fz (Bm _) _ _)=N;have tR:fP x s 0 (l++J::t):=by rw[e];exact hw
    let#[yL,o1,_]:=b9.mp tR;have WK:yz (fin 0 l) (some J):=#[#[o1.1.1,by have:=o1.1.2;omega],o1.2.2.1];have hlen:=congrArg J5 e;rw[B4,C1] at hlen;have rest:∀(Q:List Mv) (M g:Addr) (H:Gp) (w7 X U jP:Option D),cI st G H->G M=none->M≠st->M≠g->H M=some (.lst (Q.map mD))->H g=some (.lst ((d6 (fin 0 l)).map .int))->fP x s 0 Q->fin 0 Q=fin 0 l->Q.length<=7*l.length+6->N [some (.ref st),some (.ref a),some (.int (x:Int)),some (.int (s:Int)),some (.ref M),some (.ref g),some (mD J),w7,X,U,jP] H:=by intro Q M g H w7 X U jP A2 f2 Y n21 k3 k4 hF' JP uA7;rw[<- hN];dsimp![k3];apply#[by rw[B0];exact C8 (m:=2000) () ∅,?_];have A3:cI st G (aH H M (.lst (Q.map mD++[mD J]))):=A2.own f2 k3 Y;dsimp!;apply VD (m:=fin 0 l) (p:=J) (by rw[aB (D3 n21)];exact k4) WK λq3 G4 f4 h4 g4=>?_;simp!;apply ih _ _ #[l++[J],t,Q++[J],M,q3,_,_,_,_,_,by rw[<- e,D4];rfl,rfl,A3.grow g4,f2,Y,aL aG f4,by rw[B7];exact g4.kp _ _ aG,by rw[pz];exact h4,A3.at_.ne f4,b9.mpr #[hF',by rw[JP];exact#[o1,trivial]],by rw[pz,pz,JP],by rw[B4,B4];show Q.length+1<=7*(l.length+1);omega,rfl]
    have Yt:cnt x (fin 0 l)<=s:=vh1 (by rw[w_];exact J4 _) yL;apply fN A1.at_ ∅ ∅ λv1 H a2 b1 b2=>?_;have A2:=A1.trans a2;have tQ:=a2.kp _ _ nq k1;have OR:=a2.kp _ _ OL k2;simp!;apply eZ (λhv=>?_) (λhv=>?_)
    .apply#[∅,λk Z=>?_];have A3:=A2.new (o:=.lst []) Z;have Y:=A2.at_.ne Z;have f2:G k=none:=A2.none Z Y;dsimp!;apply fN A3.at_ ∅ ∅ λv2 G3 a3 c1 c2=>?_;obtain⟨tn,htn⟩:∃tn:Nat,1+v2=(tn:Int):=#[(1+v2).toNat,()];have A4:=A3.trans a3;simp![htn];apply#[wv7 (),?_];have kq:∀{o:DO},aH H k o q=some (.lst (F.map mD)):=λ{o}=>by rw[aB (aL tQ Z)];exact tQ
     have kq1:∀{o:DO},aH H k o B=some (.lst ((d6 (fin 0 l)).map .int)):=λ{o}=>by rw[aB (aL OR Z)];exact OR
     have nqp:q≠k:=aL tQ Z;have WO:B≠k:=aL OR Z;apply lD (λr u j=>Zb λ(i c:Nat) (f:List Mv) (g:Addr) (X U:Option D)=>MG (i+c=tn) (r=b_ (i:Int) c) (cI st G j) (j q=some (.lst (F.map mD))) (j k=some (.lst (f.map mD))) (j g=some (.lst ((d6 (fin (fin 0 l) f)).map .int))) (g≠st) (g≠k) (g≠q) (fP x s (fin 0 l) f) (f.length=i) (u=[some (.ref st),some (.ref a),some (.int (x:Int)),some (.int (s:Int)),some (.ref q),some (.ref g),some (mD J),some (.ref k),X,U,v9])) #[0,tn,[],B,_,_,(),rfl,A4,a3.kp _ _ nq kq,a3.kp _ _ Y aG,a3.kp _ _ OL kq1,OL,WO,D3 WN,trivial,rfl,rfl] ?_ ?_
     .rintro u G5 ⟨i,c,f,g,X,U,e1,A,A5,kF,kA,kT,nt,ntp,ntq,J_,hAl,rfl⟩;apply#[trivial,?_];have ec:c=0:=by
       cases c with
       | zero=>rfl| succ c=>rw[jX] at A;cases A
      subst ec;let#[B1,B2]:=FZ Yt J_;dsimp!;apply Oi kA () λq5 G6 f6 h6 E=>?_;have kF6:=E.kp _ _ kF;have kA6:=E.kp _ _ kA;have kT6:=E.kp _ _ kT;have A6:=A5.grow E;simp![h6];apply lD (λr u j=>tj λ(x1 I:List Mv) (g:Addr) (jP:Option D)=>MC (x1++I=fS f) (r=I.map mD) (cI st G j) (j q5=some (.lst ((fS f).map mD))) (j q=some (.lst (F.map mD))) (j k=some (.lst (f.map mD))) (j g=some (.lst ((d6 (fin (fin (fin 0 l) f) x1)).map .int))) (q≠g) (u=[some (.ref st),some (.ref a),some (.int (x:Int)),some (.int (s:Int)),some (.ref q),some (.ref g),some (mD J),some (.ref k),X,U,jP])) #[[],fS f,g,_,rfl,rfl,A6,h6,kF6,kA6,kT6,D3 ntq,rfl] ?_ ?_
      .rintro u G7 ⟨x1,I,BL,jP,Kg,Px,A7,k5,Eu,L,B',nqt,rfl⟩;have ht:I=[]:=by simpa using Px.symm
       subst ht;rw[D9] at Kg;subst Kg;rw[B2] at B';apply#[by rw[k5];rfl,?_];dsimp!;apply zF Eu L (by rw[B0,B0];omega) λp8 Cv=>?_;have A8:=A7.new (o:=.lst (F.map mD++f.map mD)) Cv;have kA8:aH G7 p8 (.lst (F.map mD++f.map mD)) k=some (.lst (f.map mD)):=by rw[aB (aL L Cv)];exact L
       have kT8:aH G7 p8 (.lst (F.map mD++f.map mD)) BL=some (.lst ((d6 (fin 0 l)).map .int)):=by rw[aB (aL B' Cv)];exact B'
       simp!;apply Oi kA8 () λq9 G9 f9 h9 g9=>?_;simp!;apply zF (g9.kp _ _ aG) h9 (by rw[B4,B0,B0,B0,DV];omega) λp10 uE=>?_;have A9:=A8.grow g9;have ux:=A9.at_.ne uE;have Xk:=g9.kp _ _ kT8;simp!;apply rest (F++f++fS f) p10 BL _ _ _ _ _ (A9.new uE) (A9.none uE ux) ux (λz=>aL Xk uE z.symm) (by rw[aG,B7,B7]) (by rw[aB (aL Xk uE)];exact Xk) ?_ ?_ ?_
       .rw[b9,b9,pz,CH];exact#[#[hF,J_],B1]
       .rw[pz,pz,CH,B2]
       .rw[B4,B4,DV];omega
      .rintro z r u G7 ⟨x1,I,BL,jP,Kg,Px,A7,k5,Eu,L,B',nqt,rfl⟩ Xq;cases I with
       | nil=>cases Px
       | cons y I =>
        cases Px;apply#[by rw[k5];rfl,?_];have B1':fP x s (fin (fin 0 l) f) (x1++y::I):=by rw[Kg];exact B1
        let#[_,oy,_]:=b9.mp B1';simp!;apply VD (p:=y) B' #[#[oy.1.1,by have:=oy.1.2;omega],oy.2.2.1] λq8 G8 f8 h8 O=>?_;simp!;exact Xq _ _ #[x1++[y],I,q8,_,by rw[<- Kg,D4];rfl,rfl,A7.grow O,O.kp _ _ k5,O.kp _ _ Eu,O.kp _ _ L,by rw[pz];exact h8,aL Eu f8,rfl]
     .rintro z r u G5 ⟨i,c,f,g,X,U,e1,A,A5,kF,kA,kT,nt,ntp,ntq,J_,hAl,rfl⟩ Xq;cases c with
      | zero=>cases A
      | succ c =>
       rw[jX] at A;cases A;apply#[trivial,?_];have ei:(i:Int)+1=((i+1:Nat):Int):=()
       have hFA:fP x s 0 (F++f):=b9.mpr #[hF,by rw[CH];exact J_];have efa:fin 0 (F++f)=fin (fin 0 l) f:=by rw[pz,CH]
       have c9:=x88 hFA;rw[efa] at c9;let#[pm0,JD]:=vb4 yQ hs hFA;rw[efa] at JD;simp!;apply wp3 kT mG c9 λq2 ps G6 f6 h6 hps cA E=>?_;have zZ:0<ps.length:=A48 ((hps pm0).mpr JD);have A6:=A5.grow E;have n6:=A5.at_.ne f6;simp!;dsimp![h6,B0,E.kp _ _ kA];apply fN A6.at_ () () λv3 G7 a7 d1 d2=>?_;have h67:=a7.kp _ _ n6 h6;have L:=a7.kp _ _ Y (E.kp _ _ kA);have Eu:=a7.kp _ _ nq (E.kp _ _ kF);have B':=a7.kp _ _ nt (E.kp _ _ kT);have A7:=A6.trans a7;let#[d,hd,uK]:=at_getD (xs:=ps.map mD) d1 (by rw[B0];exact d2);let#[pm,Cs,rfl]:=D6.mp hd;have OI:=(hps pm).mp Cs;simp![h67,uK,L];apply#[by rw[B0];exact C8 (m:=1000) () ∅,?_];have A8:cI st G (aH G7 k (.lst (f.map mD++[mD pm]))):=A7.own f2 L Y;dsimp![Ve];apply VD (m:=fin (fin 0 l) f) (p:=pm) (by rw[aB ntp];exact B') #[#[OI.1.1,by have:=OI.1.2;omega],OI.2.2.1] λq8 G8 f8 h8 O=>?_;have kF8:aH G7 k (.lst (f.map mD++[mD pm])) q=some (.lst (F.map mD)):=by rw[aB nqp];exact Eu
       simp!;apply Xq _ _ #[i+1,c,f++[pm],q8,_,_,(),by rw[ei],A8.grow O,O.kp _ _ kF8,by rw[B7];exact O.kp _ _ aG,by rw[pz];exact h8,A8.at_.ne f8,λz=>aL aG f8 z.symm,λz=>aL kF8 f8 z.symm,b9.mpr #[J_,OI,trivial],by rw[B4,hAl];rfl,rfl]
    .exact rest F q B H _ _ _ _ A2 f1 nq WN tQ OR hF CH ()
def x42{n:Nat}(lr:n<*T.jC.1<*jG)(pd:n<*T.gW.1<*xd8)(x:n<*T.oz.1<*rX):n+1<*T.ot.1<*vJ:=by
 apply dk T.ot.1 lQ (λ_ _ _ _ _ _ j =>
   (az (aR 4 lQ.nd (ek pd j #v[!0,ao,!1,!2,!3]))
   (az (aK (mS (!3)) (aC (aY (ek x j #v[!0,!4,!1,!2]))) cw)
   (az (aR 5 lQ.nd (ek lr j #v[(ek x j #v[!0,!4,!1,!2])]))
   (aC (aY (aQ cz (aQ cz (ek x j #v[!0,!4,!1,!2]) (dS #v[(bp #v[aV])])) (!5)))))))) (λds G R h=>?_)
 .let#[st,g,s,b,rfl,S,M,m,L,h4,h5,post]:=h;have t:g<=24:=()
  have sq:g * g<=121:=Fm m m;simp!;apply M_ (f:=0) (dp:=26) S () () t () h4 λq1 w G1 q f1 r H W Z=>?_;let#[O,B1]:=W.start (n:=g) (S:=s) (B9 _) (B9 _);have Z:w.length<=121:=D5 Z sq;simp!;dsimp!;cases b with
  | true =>simp!;apply Rv q.at_ r H O M t L () λU u G2 p f2 B E I hf hl=>?_;apply post U (u.map some) G2 (q.trans p) (q.none f2 B) B (by rw[Gq];exact E) ?_ (by rw[B0];omega);unfold kg;rw[if_pos rfl];exact#[u,rfl,I,hf.trans (W.left (n:=g) (S:=s) () (B9 _) (B9 _))]| false =>
   simp!;dsimp!;apply Rv q.at_ r H O M t L () λU v G2 p f2 B E hv J CB=>?_;simp!;apply Oi E () λA G3 f3 xw g3=>?_;have A3:=(q.trans p).grow g3;have OS:=g3.kp _ _ (p.kp _ _ r H);have n3:A≠st:=p.at_.ne f3;simp!;dsimp!;apply Rv A3.at_ r OS O M t L () λq4 u G4 a4 f4 n4 k4 I l hlu=>?_;have Ew:=a4.kp _ _ n3 xw;have A4:=A3.trans a4;simp!;apply#[∅,∅,λX y=>?_];have A5:=A4.new (o:=.lst [.tup [.str "show"]]) y;apply zF (xs:=u.map mD) (ys:=[.tup [.str "show"]]) (by rw[aB (aL k4 y)];exact k4) aG (by rw[B0];show u.length+1<=_;omega) λp6 k=>?_;have Q:=A5.new (o:=.lst (u.map mD++[.tup [.str "show"]])) k;have C:aH (aH G4 X (.lst [.tup [.str "show"]])) p6 (.lst (u.map mD++[.tup [.str "show"]])) A=some (.lst ((fS v).map mD)):=by
    have i:aH G4 X (.lst [.tup [.str "show"]]) A=some (.lst ((fS v).map mD)):=by rw[aB (aL Ew y)];exact Ew
    rw[aB (aL i k)];exact i
   simp!;apply zF aG C (by rw[B4,B0,B0,DV];show u.length+1+_<=_;omega) λp7 N=>?_;have Y:=Q.at_.ne N;apply post p7 (u.map some++[none]++(fS v).map some) _ (Q.new N) (Q.none N Y) Y ?_ ?_ (by simp[DV];omega)
   .rw[aG,B7,B7,Gq,Gq];rfl
   .unfold kg;rw[if_neg C9];exact#[u,v,rfl,I,hv,l.trans J.symm,by rw[l];exact B1]
def x39{n:Nat}(j:n<*T.dn.1<*sC)(x:n<*T.kS.1<*oU):n+1<*T.oo.1<*vH:=by
 apply dk T.oo.1 lO (λ_ _ _ _ _ _ f =>
   (az (aR 3 lO.nd (aQ cz ao (ek j f #v[!0,ao])))
   (az (aK (bE (aZ f) (ek j f #v[!0,ao]) ao (ah _)) (aC (aR 3 lO.nd (aQ cz ao (ek j f #v[!0,ao])))) cw)
   (aC (aY (bp #v[(aQ cz ao (ek j f #v[!0,(dz wr1 rfl T.rG ∅ #v[!2,(ek x f #v[!3,!1])])])),!3])))))) (λds G R h=>?_)
 .let#[st,b,most,rfl,S,X_,nu,post]:=h;simp!;apply fN S ∅ ∅ λo G1 t Z X=>?_;obtain⟨l,C⟩:∃l:Nat,1+o=(l:Int):=#[(1+o).toNat,()];simp![C];dsimp!;apply fN t.at_ ∅ ∅ λQ O r Y U=>?_;have u:=t.trans r;simp!;generalize E:Go (j9 _ _)=N;have rest:∀(s:Nat) (i:Gp),cI st G i->1<=s->s<=8->N [some (.ref st),some (.bl b),some (.int (most:Int)),some (.int (s:Int))] i:=by
   intro s i A3 p H;rw[<- E];dsimp!;apply Ru () λG4 q=>?_;have hc:=wp2 (b:=b) p;have em:(if(fR s b:Int)<(most:Int) then(fR s b:Int) else(most:Int))=((min most (fR s b):Nat):Int):=by split <;> omega
   simp![em];apply fN (A3.at_.grow q) () () λg M J B A=>?_;obtain⟨m,y⟩:∃m:Nat,1+g=(m:Int):=#[(1+g).toNat,()];simp![y];apply#[∅,post m s M ((A3.grow q).trans J) () () p H ()]
  apply eZ (λh=>?_) (λh=>?_)
  .simp!;apply fN r.at_ ∅ ∅ λg i L B A=>?_;obtain⟨k,I⟩:∃k:Nat,5+g=(k:Int):=#[(5+g).toNat,()];simp![I];exact rest k i (u.trans L) () ()
  .exact rest l O u () ()
def x43{n:Nat}(aT:n<*T.dn.1<*sC):n+1<*T.ou.1<*vK:=by
 apply dk T.ou.1 cM (λ_ _ _ _ _ _ N =>
   (az (aR 2 cM.nd aV)
   (az (aR 3 cM.nd (aQ cz ao (ek aT N #v[!0,ao])))
   (az (aR 4 cM.nd (ek aT N #v[!0,!3]))
   (az (aR 5 cM.nd (ek aT N #v[!0,ao]))
   (az (Ny 6 cM.nd (N':=["_law_j", "_law_letters", "_law_first", "_law_state"]) (ix:=[none,some 2,some 5,some 0]) (jU rfl rfl rfl) (xY rfl T.bL #v[!3]) (λ_ _ _ _=>(cL 0 (show(["_law_j", "_law_letters", "_law_first", "_law_state"]:List Str).Nodup by decide))) (λ_ _ _ _=>mV) (λ_ _ _ _=>(aj ai (!1) (aQ uc (aQ cz (!2) (aQ mT (aQ mT ao (!0)) (ek aT N #v[!3,ao]))) ao))))
   (az (aR 7 cM.nd (dS mO))
   (az (lC (xY rfl T.bL #v[!1]) (cL 8 cM.nd) (az (aR 9 cM.nd (aj ai (!2) (aQ uc (aQ cz (!5) (aQ mT ao (!8))) ao)))
   (az (aR 10 cM.nd (xb5 aV #v[(aQ cz (aQ cz (za xK (!6) Up (DT (!4))) (dS #v[!9])) (za xK (!6) (DT (aQ cz (!4) ao)) Up))]))
   (az (aK (bE (t9 N) (!10) (bp #v[aV,aV,aV,aV,aV,aV]) (by with_unfolding_all rfl)) (aC (aR 10 cM.nd (aQ cz (!10) aV))) (aC (aK (bE (aZ N) (aQ uc (aQ cz (!3) (!8)) ao) ao (ah _)) (aC (aR 10 cM.nd (aQ cz (!10) aV))) cw)))
   (aC (dU (pA (!7) #v[!10])))))))
   (aC (aY (!7))))))))))) (λds G R h=>?_)
 .let#[st,m,rfl,S,m1,m4,post]:=h;have xq:(J0 "abcdefghijklmnopqrstuvwxyz").length<=sizeLine:=∅;simp!;dsimp!;apply fN S ∅ ∅ λx G1 a1 b1 b2=>?_;obtain⟨B,hsz⟩:∃B:Nat,1+x=(B:Int):=#[(1+x).toNat,()];simp![hsz];dsimp!;apply fN a1.at_ () () λf G2 a2 s1 s2=>?_;let#[f,rfl]:=px s1;have A2:=a1.trans a2;simp!;dsimp!;apply fN A2.at_ ∅ ∅ λE G3 a3 f1 f2=>?_;have A3:=A2.trans a3;simp!;dsimp!;apply#[#[(),()],λp hp=>?_];have WQ:=A3.at_.ne hp;have fp:G p=none:=A3.none hp WQ;generalize hN1:Go (fz _ _ _)=N1;apply kr (λr I O=>tj λ(j c:Nat) (g:List Str) (v:Option D)=>Ds (j+c=B) (r=b_ (j:Int) c) (cI st G O) (O p=some (.lst (g.map .str))) (g.length=j) (∀w∈g,w.length=1) (I=[v,some (.str (J0 "abcdefghijklmnopqrstuvwxyz")),some (.int E),some (.ref st)])) #[0,B,[],none,(),rfl,A3.new hp,aG,rfl,(λ_ h=>nomatch h),rfl] ?_ ?_
  .rintro I G4 ⟨j,c,g,v,e,A,Q,k4,hl,hw,rfl⟩;have Yt:c=0:=by
    cases c with
    | zero=>rfl| succ n=>rw[jX] at A;cases A
   have hl:g.length=B:=()
   apply#[trivial,?_];rw[<- hN1];dsimp!;apply#[∅,λq hq=>?_];have nq:=Q.at_.ne hq;have fq:G q=none:=Q.none hq nq;have WR:p≠q:=aL k4 hq;have A5:=Q.new (o:=.lst []) hq;have k5:aH G4 q (.lst []) p=some (.lst (g.map .str)):=by rw[aB WR];exact k4
   dsimp!;apply#[#[(),()],?_];generalize hN2:Go (j9 _ _)=N2;apply lD (λr I O=>Zb λ(i c:Nat) (C:List Str) (v8 v9 J:Option D)=>MC (i+c=m) (r=b_ (i:Int) c) (cI st G O) (O p=some (.lst (g.map .str))) (O q=some (.lst (C.map .str))) (C.length=i) (∀b∈C,b.length<=20) (∀(t:Nat) (b:Str),C[t]?=some b->b.cps[f]?=some (97+((E+5*(t:Int))%26).toNat)) (I=[some (.ref st),some (.int (m:Int)),some (.str (J0 "abcdefghijklmnopqrstuvwxyz")),some (.int (B:Int)),some (.int (f:Int)),some (.int E),some (.ref p),some (.ref q),v8,v9,J])) #[0,m,[],none,none,none,(),rfl,A5,k5,aG,rfl,(λ_ h=>nomatch h),(λt b h=>by simp at h),rfl] ?_ ?_
   .rintro I G8 ⟨i,c,C,v8,v9,J,e,A,A8,k8,Xg,nC,hb,uK,rfl⟩;have Yt:c=0:=by
     cases c with
     | zero=>rfl| succ n=>rw[jX] at A;cases A
    apply#[trivial,?_];rw[<- hN2];dsimp!;exact post q C G8 fq nq Xg () hb (vr7 () uK) A8
   .rintro z r I G8 ⟨i,c,C,v8,v9,J,e,A,A8,k8,Xg,nC,hb,uK,rfl⟩ M;cases c with
    | zero=>cases A
    | succ c =>
     rw[jX] at A;cases A;apply#[trivial,?_];simp!;have qz:=w49 (x:=(E+5*(i:Int))%26) (W4 _ ∅) (T6 _ ∅);generalize Yq:97+((E+5*(i:Int))%26).toNat=H at qz;apply#[Bp ∅ ∅,∅,xq,?_];rw[qz];simp!;dsimp![k8,bB];intro p1 bT;apply#[∅,λp2 cK=>?_];have c1:cutD (g.map D.str) none (some (f:Int))=(g.take f).map D.str:=by rw[L3.uW,C77]
     have c2:cutD (g.map D.str) (some ((f:Int)+1)) none=(g.drop (f+1)).map D.str:=by rw[show((f:Int)+1)=((f+1:Nat):Int) by omega,vl3,C76]
     rw[c1] at cK⊢;have g1:=(aA.refl (G:=G8) |>.new (o:=.lst ((g.take f).map D.str)) bT).new (o:=.lst [.str #[[H].toArray]]) cK;have Ck:f<g.length:=()
     apply add_l (by rw[aB (aL aG cK),aG]) aG (by rw[B0,Q6];exact D5 (m:=1000) (by show _+1<=_;omega) ∅) λp3 jh=>?_;have g2:=g1.new (o:=.lst ((g.take f).map D.str++[.str #[[H].toArray]])) jh;have k9:=g2.kp _ _ k8;simp![k9,bB];intro p4 OW;rw[c2];have g3:=g2.new (o:=.lst ((g.drop (f+1)).map D.str)) OW;apply add_l (by rw[aB (aL aG OW),aG]) aG (by rw[B4,B0,B0,Q6,Y4];exact D5 (m:=1000) (by show _+1+_<=_;omega) ∅) λp5 tT=>?_;obtain⟨k,yK⟩:∃k,k=g.take f++[⟨[H].toArray⟩]++g.drop (f+1):=#[_,rfl];have hmp:(g.take f).map D.str++[.str #[[H].toArray]]++(g.drop (f+1)).map D.str=k.map D.str:=by rw[yK,B7,B7];rfl
     rw[hmp];have g4:=g3.new (o:=.lst (k.map D.str)) tT;have CC:k.length=B:=by rw[yK,B4,B4,Q6,Y4,O4];omega
     have tR:∀w∈k,w.length=1:=by
      intro w Cg;rw[yK] at Cg;rcases E9.mp Cg with h|h
      .rcases E9.mp h with h|h
       .exact hw w (List.mem_of_mem_take h)
       .rw[F5.mp h];rfl
      .exact hw w (List.mem_of_mem_drop h)
     have Cj:(k.map Fb).sum=B:=by
      have:∀l:List Str,(∀w∈l,w.length=1)->(l.map Fb).sum=l.length:=by
       intro l;induction l with
       | nil=>intro _;rfl| cons w l M=>intro h;rw[C0,K9,h w (C6 ..),M λv hv=>h v (C2 _ hv),C1];omega
      rw[this k tR,CC]
     have Y:(jn U0 k).length=B:=by rw[x95,Cj]
     have JO:QK ((k.toArray).foldl (·+·.length+U0.length) 0)=false:=by
      have:∀(l:List Str) (n:Nat),(∀w∈l,w.length=1)->l.foldl (·+·.length+U0.length) n=n+l.length:=by
       intro l;induction l with
       | nil=>intro n _;rfl| cons w l M=>intro n h;rw[Z6,M _ λv hv=>h v (C2 _ hv),h w (C6 ..),C1];show n+1+0+l.length=_;omega
      rw[List.foldl_toArray,this k 0 tR,CC];unfold QK;exact decide_eq_false (Nat.not_lt.mpr (P8 (C8 (m:=1000) () ∅)))
     apply#[U0,p5,k,rfl,rfl,by rw[aG];rfl,JO,by rw[Y];exact P8 (C8 (m:=1000) () ∅),?_];generalize hGx:aH _ p5 (.lst (k.map D.str))=G9 at *;have A9:=A8.grow g4;have k9:=g4.kp _ _ k8;have U:=g4.kp _ _ Xg;obtain⟨u,JJ⟩:∃u,u=jn U0 k:=#[_,rfl];have Yw:∀a b:Str,(a++b).length=a.length+b.length:=λa b=>by show(a.cps++b.cps).size=_;rw[B05];rfl
     have OY:u.length<=10:=by rw[JJ,Y];omega
     have Z:u.cps[f]?=some H:=by rw[JJ];apply xk4 tR ?_;rw[yK,D4,E7 (by rw[Q6];omega),Q6,show f-min f g.length=0 by omega];rfl
     rw[<- JJ];dsimp!;generalize hN4:Go (Bm (EM "list" Ga (dD 7) _) _)=N4;have r4:∀u:Str,u.length<=20->u.cps[f]?=some H->N4 [some (.ref st),some (.int (m:Int)),some (.str (J0 "abcdefghijklmnopqrstuvwxyz")),some (.int (B:Int)),some (.int (f:Int)),some (.int E),some (.ref p),some (.ref q),some (.int (i:Int)),some (.str #[[H].toArray]),some (.str u)] G9:=by
      intro u JJ hcp;rw[<- hN4];dsimp![U];apply#[by rw[B0];exact C8 (m:=4000) () ∅,M _ _ #[i+1,c,C++[u],_,_,_,(),by congr 1,A9.own fq U nq,by rw[aB WR];exact k9,by rw[aG,B7];rfl,by simp[nC],?_,?_,rfl]];rotate_left
      .intro t b L;rcases Dw t C.length with z|z
       .rw[F9 z] at L;exact uK t b L
       .rw[E7 z] at L;have z2:t=C.length:=by have:=(L8.mp L).1;simp at this;omega
        subst z2;have e3:u=b:=by simpa using L
        rw[<- e3,hcp,<- Yq,nC]
      intro b L;rcases E9.mp L with h|h
      .exact hb b h
      .rw[F5.mp h];exact JJ
     have longer:N4 [some (.ref st),some (.int (m:Int)),some (.str (J0 "abcdefghijklmnopqrstuvwxyz")),some (.int (B:Int)),some (.int (f:Int)),some (.int E),some (.ref p),some (.ref q),some (.int (i:Int)),some (.str ⟨[H].toArray⟩),some (.str (u++J0 "x"))] G9:=r4 _ (by rw[Yw];have:(J0 "x").length=1:=rfl;omega) (xc9 Z);have X:u.length+(J0 "x").length<=sizeLine:=P8 (C8 (m:=1000) (by have:(J0 "x").length=1:=rfl;omega) ∅);apply⟨∅,?_⟩;apply eZ (λ_=>?_) (λ_=>?_)
     .exact⟨X,longer⟩
     .simp!;apply⟨∅,?_⟩;apply eZ (λ_=>?_) (λ_=>r4 u () Z);simp!;exact⟨X,longer⟩
  .rintro z r I G4 ⟨j,c,g,v,e,A,Q,k4,hl,hw,rfl⟩ M;cases c with
   | zero=>cases A
   | succ c =>
    rw[jX] at A;cases A;apply#[trivial,?_];simp!;apply#[Bp ∅ ∅,?_];apply fN Q.at_ ∅ ∅ λy G5 a5 y1 y2=>?_;have k5:=a5.kp _ _ WQ k4;have qz:=w49 (x:=(E+7*(j:Int)*y)%26) (W4 _ ∅) (T6 _ ∅);simp!;apply#[xc6 y1 (),∅,xq,?_];rw[qz];simp![k5];apply#[by rw[B0];exact C8 (m:=4000) () ∅,M _ _ #[j+1,c,g++[#[[_].toArray]],_,(),by congr 1,(Q.trans a5).own fp k5 WQ,by rw[aG,B7];rfl,by simp[hl],?_,rfl]];intro w Cg;rcases E9.mp Cg with h|h
    .exact hw w h
    .rw[F5.mp h];rfl
def x51{n:Nat}(l:n<*T.dn.1<*sC):n+1<*T.oC.1<*vN:=by
 apply dk T.oC.1 qa (λ_ _ _ _ _ _ g =>
   (az (aK (bE (pL) (ek l g #v[!0,ao]) ao (ah _)) (aC (aY (aj ai (!1) (ek l g #v[!0,(dz fD rfl T.bf ∅ #v[!1])])))) cw)
   (az (aR 3 qa.nd (ek l g #v[!0,ao]))
   (az (aK (bE (aZ g) (!3) ao (ah _)) (aC (aY (aQ gI (aQ Bo ao (!2)) ao))) cw)
   (aC (aY (ek l g #v[!0,(aj ai (dS #v[ao,(aQ Bo ao (!2))]) (aQ gI (!3) ao))]))))))) (λds G R h=>?_)
 .let#[st,W,H,rfl,S,uM,N,h1,h2,post]:=h;have x:=pw W;have E:kj 1 (W:Int):=#[(),(),∅];have L:=OG N;have O:=Q0 W;have k:∀(i:Nat) (q:Gp),i<2^W->cI st G q->R (.int (i:Int)) q:=λi q hi a=>post (.num i) q hi a;have X:2<=2^W:=by obtain⟨V,rfl⟩:∃V,W=V+1:=#[W-1,()];rw[Q8];have:=Q0 V;omega
  obtain⟨P,u⟩:∃P,P=2^W:=#[_,rfl];rw[<- u] at x L O k X;simp!;apply fN S ∅ ∅ λZ G1 j b1 b2=>?_;simp!;apply eZ (λJ=>?_) (λJ=>?_)
  .simp![B0];apply fN j.at_ () () λf I m c1 c2=>?_;let#[f,rfl]:=px c1;obtain⟨b,C⟩:∃b,H[f]?=some b:=#[_,B6 ()];have M:dE (H.map D.str) (f:Int)=some (.str b):=x8 (by rw[F7,C];rfl);simp![M];exact post (.box b) I (K3 C) (j.trans m)
  .dsimp!;apply fN j.at_ ∅ ∅ λf I m c1 c2=>?_;simp!;dsimp![x];apply eZ (λB=>?_) (λB=>?_)
   .apply#[E,?_];rw[show((P:Nat):Int)-1=((P-1:Nat):Int) by omega];exact k _ _ () (j.trans m)
   .dsimp![x];apply#[E,∅,λp U=>?_];have r:=(j.trans m).new (o:=.lst [D.int 2,D.int (P:Int)]) U;obtain rfl|rfl:f=1\/f=2:=by
     have:¬ f=0:=by simpa using B
     omega
    .simp!;apply fN r.at_ ∅ ∅ λt Y A y Q=>?_;let#[t,rfl]:=px y;exact k _ _ () (r.trans A)
    .simp!;apply fN r.at_ () () λt Y A y Q=>?_;let#[t,rfl]:=px y;exact k _ _ () (r.trans A)
def w30{n dp:Nat}(aT:n<*T.dn.1<*sC)(sx:n<*T.oC.1<*vN)(su:n<*T.gX.1<*fK dp):n+1<*T.kR.1<*ji dp:=by
 apply dk T.kR.1 iE (λ_ _ _ _ _ _ l =>
   (az (aR 4 iE.nd (ek aT l #v[!0,ao]))
   (az (aK (pB (w_and (bE (aZ l) (!4) ao (ah _)) (wY (bE (pL) (!3) ao (ah _))))) (az (Ny 5 iE.nd (N':=["_law_way_here", "_law_state", "_law_names_here", "_law_wide", "_law_deep"]) (ix:=[none,some 0,some 1,some 2,some 3]) (jU rfl rfl rfl) (xY rfl T.bL #v[ao]) (λ_ _ _ _=>(cL 0 (show(["_law_way_here", "_law_state", "_law_names_here", "_law_wide", "_law_deep"]:List Str).Nodup by decide))) (λ_ _ _ _=>mV) (λ_ _ _ _=>(ek su l #v[!1,!2,!3,(aQ gI (!4) ao),ao])))
   (aC (aY (bp #v[aV,(ek sx l #v[!0,!1,!2]),(aj ai (!5) ao),(aj ai (!5) ao)])))) cw)
   (az (aK (pB (w_and (bE (aZ l) (!4) ao (ah _)) (wY (bE (pL) (!3) ao (ah _))))) (aC (aY (bp #v[aV,(ek aT l #v[!0,ao]),(ek su l #v[!0,!1,!2,(aQ gI (!3) ao),ao])]))) cw)
   (az (aR 6 iE.nd (aj ai (!1) (ek aT l #v[!0,(dz fD rfl T.bf ∅ #v[!1])])))
   (az (aK (bE (aZ l) (!4) ao (ah _)) (aC (aY (bp #v[aV,!6,(ek sx l #v[!0,!1,!2])]))) cw)
   (az (aR 7 iE.nd (aj ai aV (ek aT l #v[!0,ao])))
   (aC (aY (bp #v[aV,!6,!7,(ek sx l #v[!0,!1,!2]),(ek sx l #v[!0,!1,!2])])))))))))) (λds G R h=>?_)
 .let#[st,W,f,u,rfl,S,H,I,L,J,hd,hd3,post]:=h;have h60:1<=6^f:=D05 (show 0<6 by decide);simp!;apply fN S ∅ ∅ λx1 G1 E b1 b2=>?_;simp!;dsimp!;generalize hN:Go (fz (uV _ _ _) _ _)=N;have fin:N [some (.ref st),some (.tup (u.map .str)),some (.int (W:Int)),some (.int (f:Int)),some (.int x1),none,none,none] G1:=by
   subst hN;dsimp!;generalize hM:Go (fz (hJ _ _) _ _)=M;have fin2:M [some (.ref st),some (.tup (u.map .str)),some (.int (W:Int)),some (.int (f:Int)),some (.int x1),none,none,none] G1:=by
    subst hM;dsimp![B0];apply fN E.at_ () () λx2 G2 a2 c1 c2=>?_;let#[x2,rfl]:=px c1;obtain⟨b,hb⟩:∃b,u[x2]?=some b:=#[_,B6 ()];have eb:dE (u.map D.str) (x2:Int)=some (.str b):=x8 (by rw[F7,hb];rfl);have Yu:=K3 hb;simp![eb];dsimp!;have t:=E.trans a2;apply eZ (λq=>?_) (λq=>?_)
    .simp!;apply bQ #[st,W,u,rfl,t.at_,H,I,L,J,λa Q Z A=>?_];simp!;exact#[∅,post (.is b a) Q #[Yu,Z] trivial (J4 _) h60 (t.trans A)]
    .dsimp!;apply fN t.at_ ∅ ∅ λx3 G4 a4 d1 d2=>?_;let#[x,rfl]:=px d1;obtain⟨o,eo,ho⟩:∃o:Nat,dE (J0 "+-&|^<=").cps.toList (x:Int)=some o/\(⟨[o].toArray⟩:Str)∈L3.signs:=by
      have:x=0\/x=1\/x=2\/x=3\/x=4\/x=5\/x=6:=()
      rcases this with e|e|e|e|e|e|e <;> subst e
      .exact⟨43,∅,∅⟩
      .exact⟨45,∅,∅⟩
      .exact⟨38,∅,∅⟩
      .exact⟨124,∅,∅⟩
      .exact⟨94,∅,∅⟩
      .exact⟨60,∅,∅⟩
      .exact⟨61,∅,∅⟩
     have hx:∀(G:Gp) (q:DK),Bf (.str (J0 "+-&|^<=")) (.int (x:Int)) G q=(((J0 "+-&|^<=").length<=sizeLine)/\q (.str ⟨[o].toArray⟩) G):=λG q=>by show(_/\(match dE (J0 "+-&|^<=").cps.toList (x:Int) with|some c=>q (.str #[[c].toArray]) G|none=>False))=_;rw[eo]
     simp![hx];apply#[∅,?_];dsimp!;have A4:=t.trans a4;apply bQ #[st,W,u,rfl,A4.at_,H,I,L,J,λa G5 Z a5=>?_];simp!;apply bQ #[st,W,u,rfl,(A4.trans a5).at_,H,I,L,J,λc G6 hc a6=>?_];simp!;exact#[∅,post (.op b _ a c) G6 #[Yu,ho,Z,hc] trivial (J4 _) h60 ((A4.trans a5).trans a6)]
   apply eZ (λq1=>?_) (λq1=>fin2);simp!;apply eZ (λq2=>?_) (λq2=>fin2);simp!;obtain⟨j,rfl⟩:∃j:Nat,f=j+1:=#[f-1,()];apply fN E.at_ ∅ ∅ λx2 G2 a2 c1 c2=>?_;let#[k,rfl]:=px c1;have t:=E.trans a2;simp!;rw[show(((j+1:Nat):Int)-1)=(j:Int) by omega];apply bQ #[st,W,j,2,u,rfl,t.at_,H,I,L,J,(),(),∅,λg Q Y X y3 U _ A=>?_];simp!;have y5:dw g<=10000000:=D5 U (D5 (B70 2 (T9 ∅ (show j<=3 by omega))) ∅);apply#[∅,post (.kx k g) Q #[(),Y] #[y5,X,()] ?_ ?_ (t.trans A)]
   .show 1+bj g<=j+1+1;omega
   .show k*dw g<=6^(j+1);rw[Q8,Qi (6^j)];exact D5 (Fm (show k<=3 by omega) U) (by rw[<- Nat.mul_assoc];exact B9 _)
  apply eZ (λq1=>?_) (λq1=>fin);simp!;apply eZ (λq2=>?_) (λq2=>fin);simp!;obtain⟨j,rfl⟩:∃j:Nat,f=j+1:=#[f-1,()];apply#[#[∅,∅],λp hp=>?_];have np:=E.at_.ne hp;have xl:=E.none hp np;have A1:=E.new (o:=.lst []) hp;apply kr (λr σ G'=>tj λ(i c:Nat) (B:List (List av)) (v:Option D)=>Ds (i+c=2) (r=b_ (i:Int) c) (cI st G G') (G' p=some (.lst (B.map λg=>.tup (cq g)))) (B.length=i) (∀g∈B,d8 W u g/\jV g/\bj g<=j+1/\dw g<=2*6^j) (σ=[v,some (.ref st),some (.tup (u.map .str)),some (.int (W:Int)),some (.int ((j+1:Nat):Int))])) #[0,2,[],none,rfl,rfl,A1,aG,rfl,(λ_ h=>nomatch h),rfl] ?_ ?_
  .rintro σ G2 ⟨i,c,B,v,e,O,t,k2,l2,o2,rfl⟩;apply#[trivial,?_];have hc:c=0:=by
    cases c with
    | zero=>rfl| succ c=>rw[jX] at O;cases O
   subst hc;obtain⟨g,C,rfl⟩:∃g C,B=[g,C]:=by
    match B,l2 with
    | [],h=>simp at h;omega| [_],h=>simp at h;omega| [g,C],_=>exact#[g,C,rfl]| _::_::_::_,h=>simp at h;omega
   let#[Y,X,y3,U]:=o2 g C6;let#[n1,n2,n3,n4]:=o2 C (C2 _ C6);dsimp!;apply bQ #[st,W,u,rfl,t.at_,H,I,L,J,λa Q Z A=>?_];have k3:=A.kp _ _ np k2;simp![k3,bB];apply#[∅,post (.fG a g C) Q #[Z,Y,n1] #[X,n2] ?_ ?_ (t.trans A)]
   .show 1+max (bj g) (bj C)<=j+1+1;omega
   .show 1+dw g+dw C<=6^(j+1);rw[Q8];have:=D05 (n:=j) (show 0<6 by decide);omega
  .rintro z r σ G2 ⟨i,c,B,v,e,O,t,k2,l2,o2,rfl⟩ ih;cases c with
   | zero=>cases O
   | succ c =>
    rw[jX] at O;cases O;apply#[trivial,?_];simp!;rw[show(((j+1:Nat):Int)-1)=(j:Int) by omega];apply bQ #[st,W,j,2,u,rfl,t.at_,H,I,L,J,(),(),∅,λg Q Y X y3 U _ A=>?_];have k3:=A.kp _ _ np k2;simp![k3];apply#[C8 (m:=1000) (by rw[B0];omega) ∅,ih _ _ #[i+1,c,B++[g],_,(),by congr 1,(t.trans A).own xl k3 np,by rw[aG,B7];rfl,by rw[B4,l2];rfl,λy hy=>?_,rfl]];rcases E9.mp hy with hy|hy
    .exact o2 y hy
    .rw[F5.mp hy];exact⟨Y,X,y3,U⟩
def x40{n dp:Nat}(aT:n<*T.dn.1<*sC)(J:n<*T.kR.1<*ji dp):n+1<*T.gX.1<*fK (dp+1):=by
 apply dk T.gX.1 vz9 (λ_ _ _ _ _ _ B =>
   (aC (aY (qU Oo rfl T.fH ∅ #v[(pq (N':=["_law_k", "_law_state", "_law_names_here", "_law_wide", "_law_deep"]) (ix:=[none,some 0,some 1,some 2,some 3]) (jU rfl rfl rfl) (xY rfl T.bL #v[(ek aT B #v[!0,(aQ cz (!4) ao)])]) (λ_ _ _ _=>(cL 0 (show(["_law_k", "_law_state", "_law_names_here", "_law_wide", "_law_deep"]:List Str).Nodup by decide))) (λ_ _ _ _=>mV) (λ_ _ _ _=>(ek J B #v[!1,!2,!3,!4])))])))) (λds G R h=>?_)
 .let#[st,W,f,most,x,rfl,S,L,X,Z,Y,hd,u,Q,post]:=h;simp!;apply fN S () () λx1 G1 y b1 b2=>?_;let#[m,rfl]:=px b1;simp!;apply#[#[(),()],λp t=>?_];have o:=y.at_.ne t;have I:=y.none t o;apply kr (λr l H=>tj λ(i c:Nat) (g:List av) (v:Option D)=>MH (i+c=m) (r=b_ (i:Int) c) (cI st G H) (H p=some (.lst (cq g))) (d8 W x g) (jV g) (bj g<=f+1) (dw g<=i*6^f) (g.length=i) (l=[v,some (.ref st),some (.tup (x.map .str)),some (.int (W:Int)),some (.int (f:Int))])) #[0,m,[],none,(),rfl,y.new t,aG,trivial,trivial,J4 _,J4 _,rfl,rfl] ?_ ?_
  .rintro l E ⟨i,c,g,v,e,k,A3,q,o1,o2,o3,o4,o5,rfl⟩;apply#[trivial,?_];simp![q,bB];exact post g E o1 o2 o3 (D5 o4 (M4 _ ())) () A3
  .rintro z r l E ⟨i,c,g,v,e,k,A3,q,o1,o2,o3,o4,o5,rfl⟩ O;cases c with
   | zero=>cases k
   | succ c =>
    rw[jX] at k;cases k;apply#[trivial,?_];simp!;apply bQ #[st,W,f,x,rfl,A3.at_,L,X,Z,Y,(),u,λj G3 N M p3 p4 C=>?_];have A:=C.kp _ _ o q;simp![A];have er:cq g++[gM j]=cq (g++[j]):=by rw[yg,yg,B7];rfl
    rw[er];have U:(cq g).length=g.length:=ye _;apply#[C8 (m:=1000) () ∅,O _ _ #[i+1,c,g++[j],_,(),by congr 1,(A3.trans C).own I A o,aG,d7.mpr #[o1,N,trivial],rD.mpr #[o2,M,trivial],?_,?_,by rw[B4,o5];rfl,rfl]]
    .rw[Ea];show max (bj g) (max (j8 j) 0)<=f+1;omega
    .rw[U_,W7];show dw g+(qP j+0)<=_;omega
def x41{n:Nat}(t:n<*T.dn.1<*sC)(Mi:n<*T.ou.1<*vK)(N:n<*T.kR.1<*xl7)(Q:n<*T.gX.1<*xd9):n+1<*T.oq.1<*vI:=by
 apply dk T.oq.1 lP (λ_ _ _ _ _ _ f =>
   (az (aR 1 lP.nd (aj ai (dS #v[(aQ cz ao (ek t f #v[!0,ao])),(aQ cz ao (ek t f #v[!0,ao]))]) (aQ wr4 (ek t f #v[!0,ao]) ao)))
   (az (aR 2 lP.nd (qU Oo rfl T.fH ∅ #v[(ek Mi f #v[!0,(aQ cz ao (ek t f #v[!0,ao]))])]))
   (aC (aY (bp #v[!1,!2,(aQ wr5 (bp #v[(ek N f #v[!0,!2,!1,ao])]) (ek Q f #v[!0,!2,!1,ao,ao]))])))))) (λds G R h=>?_)
 .let#[st,rfl,S,post]:=h;simp!;apply fN S ∅ ∅ λi G1 E b1 b2=>?_;simp!;apply fN E.at_ ∅ ∅ λg G2 a2 b3 b4=>?_;simp!;apply#[∅,λp B=>?_];have M:=E.trans a2;have Z:=M.at_.ne B;have A3:=M.new (o:=.lst [D.int (1+i),D.int (1+g)]) B;apply fN A3.at_ ∅ ∅ λu G3 C b5 b6=>?_;have k3:=C.kp _ _ Z aG;have L:=A3.trans C;let#[i,rfl]:=px b1;let#[g,rfl]:=px b3;simp!;apply#[by unfold MX;omega,?_];obtain⟨W,O,A,y⟩:∃k:Nat,dE [D.int (1+(i:Int)),D.int (1+(g:Int))] (u / 3)=some (.int (k:Int))/\1<=k/\k<=16:=by
   have:u / 3=0\/u / 3=1:=()
   rcases this with e|e <;> rw[e]
   .exact⟨1+i,by show some (D.int (1+(i:Int)))=_;rw[Z7];rfl,(),()⟩
   .exact⟨1+g,by show some (D.int (1+(g:Int)))=_;rw[Z7];rfl,(),()⟩
  simp![k3,bB,O];dsimp!;apply fN L.at_ ∅ ∅ λl G5 a5 c1 c2=>?_;let#[l,rfl]:=px c1;simp!;rw[show((1:Int)+(l:Int))=((l+1:Nat):Int) by omega];have J:=L.trans a5;apply bQ #[st,l+1,rfl,J.at_,(),(),λq x G6 nq Y kq nC _ JK a6=>?_];have I:=J.trans a6;simp![kq,bB];dsimp!;apply bQ #[st,W,1,x,rfl,I.at_,A,y,(),(),∅,∅,λr G7 X U r3 r4 a7=>?_];have H:=I.trans a7;simp!;apply#[∅,?_];apply bQ #[st,W,2,2,x,rfl,H.at_,A,y,(),(),∅,∅,∅,λj G8 o1 o2 o3 o4 o5 a8=>?_];have hl:(cq j).length=j.length:=ye _;show _/\_;apply#[D5 (m:=100) (by rw[hl];show 1+_<=_;omega) ∅,∅,?_];apply post W x (r::j) G8 A y () () JK #[X,o1] #[U,o2] ?_ ?_ (H.trans a8)
  .show max (j8 r) (bj j)<=4;omega
  .show qP r+dw j<=78;omega
def x48{n:Nat}(aT:n<*T.dn.1<*sC):n+1<*T.oA.1<*vM:=by
 apply dk T.oA.1 jq (λ_ _ _ _ _ _ Y =>
   (az (aR 3 jq.nd (aQ mT (dS #v[ao]) (!2)))
   (az (lC (xY rfl T.bL #v[(aQ gI (!1) (!2))]) (cL 4 jq.nd) (az (aR 5 jq.nd (ek aT Y #v[!0,!2]))
   (aC (tG (aQ cz (aj ai (!3) (!5)) ao) (zy (!3) (!5) zB)))))
   (aC (aY (!3)))))) (λds G R h=>?_)
 .let#[st,m,n,rfl,S,h1,h2,h3,post]:=h;simp!;apply#[∅,λp0 O=>?_];simp![aG];apply#[#[(),(),by rw[Nat.one_mul];exact D5 (m:=1000) () ∅],λp H=>?_];rw[Q9];have I:=((cI.refl S).new (o:=.lst [.int 1]) O);have q:p≠st:=I.at_.ne H;have J:=I.none H q;have A1:=I.new (o:=.lst (D2 n (.int 1))) H;dsimp!;rw[show((m:Int)-(n:Int))=((m-n:Nat):Int) by omega];apply#[#[(),()],?_];apply lD (λr u N=>ES λ(i c:Nat) (f:List Nat) (A y:Option D)=>Ai8 (i+c=m-n) (r=b_ (i:Int) c) (cI st G N) (N p=some (.lst ((nI f).map .int))) (f.length=n) (∀k∈f,1<=k) (f.sum=n+i) (u=[some (.ref st),some (.int (m:Int)),some (.int (n:Int)),some (.ref p),A,y])) #[0,m-n,D2 n 1,none,none,(),rfl,A1,?_,S8,λk l=>by rw[B17 l];exact B9 _,by simp,rfl] ?_ ?_
  .rw[aG];unfold nI;simp
  .rintro u M ⟨i,c,f,A,y,e,g,t,C,j,o1,o2,rfl⟩;apply#[trivial,?_];have Z:c=0:=by
    cases c with
    | zero=>rfl| succ c=>rw[jX] at g;cases g
   subst Z;dsimp!;exact post p f M #[λz=>by rw[z] at j;simp at j;omega,o1,()] j q J C t
  .rintro z r u M ⟨i,c,f,A,y,e,g,t,C,j,o1,o2,rfl⟩ U;cases c with
   | zero=>cases g
   | succ c =>
    rw[jX] at g;cases g;apply#[trivial,?_];simp!;apply fN t.at_ () () λx1 G3 L b1 b2=>?_;let#[x,rfl]:=px b1;have B:=L.kp _ _ q C;have E:x<f.length:=()
    simp!;dsimp![B,bB];have X:dE ((nI f).map D.int) (x:Int)=some (.int ((f[x]:Nat):Int)):=x8 (by unfold nI;rw[F7,F7,B6 E];rfl);have Q:i6 ((nI f).map D.int).length (x:Int)=some x:=w38 (by unfold nI;rw[B0,B0];exact E);simp![X,B,Q];apply U _ _ #[i+1,c,f.set x (f[x]+1),_,_,(),by congr 1,(t.trans L).own J B q,?_,by rw[J9];exact j,λk l=>?_,?_,rfl]
    .rw[aG];unfold nI;rw[Qh,Qh];rfl
    .rcases A20 l with l|rfl
     .exact o1 k l
     .omega
    .rw[sum_set E];omega
def x45{n:Nat}(wq:n<*T.kP.1<*rT)(wm:n<*T.kM.1<*rQ)(m:n<*T.dn.1<*sC)(Mh:n<*T.ot.1<*vJ)(Mf:n<*T.oo.1<*vH)(Mg:n<*T.oq.1<*vI)(Mm:n<*T.oA.1<*vM):n+1<*T.ox.1<*vL:=by
 apply dk T.ox.1 di (λ_ _ _ _ _ _ f =>
   (az (aR 2 di.nd (ek Mg f #v[!0]))
   (az (aR 3 di.nd (wW (aZ f) (ek m f #v[!0,ao]) ao (ah _)))
   (az (aR 4 di.nd (dz fD rfl T.bf ∅ #v[(ek wq f #v[!2])]))
   (az (tG (ek Mf f #v[!0,!3,ao]) (xT (n:=2) rfl (jW (cL 5 di.nd) (jW (cL 6 di.nd) xZ))))
   (az (aR 7 di.nd (ek Mh f #v[!0,!5,!6,!3]))
   (az (aK (w69 (t7) (t7) (!5) (!4) ao) (az (aR 8 di.nd (ek Mm f #v[!0,!4,!5]))
   (aC (aK (bE (t7) (ek wm f #v[!2,!8,!6,!7]) (!1) (ah _)) (aC (aY (bp #v[!2,!8,!6,!7]))) cw))) cw)
   (az (aR 9 di.nd (aj ai (aj ai (!2) ao) (sW FN ao)))
   (az (aR 10 di.nd (bp #v[aV,!9,(aj ai aV (ek m f #v[!0,ao])),!9,(aj ai (dS #v[!9,ao]) (ek m f #v[!0,ao]))]))
   (aC (aY (bp #v[(bp #v[(aQ cz ao (ek m f #v[!0,ao])),(bp #v[!9]),(bp #v[!10])]),(dS #v[ao]),!6,(dS #v[(bp #v[aV,ao]),(bp #v[aV]),(bp #v[aV,ao])])])))))))))))) (λds G R h=>?_)
 .let#[st,most,rfl,S,post]:=h;simp!;apply bQ #[st,rfl,S,λW i j G1 w1 w2 C m2 JK ho Ph me H a1=>?_];simp!;dsimp!;apply fN a1.at_ ∅ ∅ λl G2 a2 b1 b2=>?_;have A2:=a1.trans a2;simp!;dsimp!;apply bQ #[_,_,j,rfl,(),(),Ph,λq3 G3 n3 k3 g3=>?_];have A3:=A2.grow g3;simp![k3,bB];rw[ye];dsimp!;apply bQ #[st,decide (l=0),4,rfl,A3.at_,∅,∅,λn s G4 a4 n1 n4 Z A hc=>?_];have A4:=A3.trans a4;simp!;dsimp!;apply bQ #[st,n,s,decide (l=0),rfl,A4.at_,n1,(),Z,A,hc,λB w G5 a5 npl pC BZ WG hl=>?_];have x:=A4.trans a5;simp!;dsimp![T'];generalize hN:Go (fz (hJ (CT Bf _ _) _) _ _)=N;have fall:∀Y r,cI st G r->N [some (.ref st),some (.int (most:Int)),some (.tup [.int (W:Int),.tup (i.map .str),.tup (cq j)]),some (.bl (decide (l=0))),some (.int ((aW j).length:Int)),some (.int (n:Int)),some (.int (s:Int)),some (.ref B),Y,none,none] r:=by
   intro Y r t;subst hN;obtain⟨bl,yW,Yu⟩:∃bl,dE (i.map D.str) (-1)=some (.str bl)/\bl∈i:=by
    obtain⟨L,br,rfl⟩:∃L br,i=br++[L]:=by
     rcases V5 i with e|⟨u,p,e⟩
     .rw[e] at C;cases C
     .exact⟨p,u,by rw[e,V6]⟩
    exact⟨L,by rw[B7];exact Ve _ _,by simp⟩
   dsimp![yW];dsimp!;apply fN t.at_ ∅ ∅ λx3 G7 a7 d1 d2=>?_;have k:=t.trans a7;let#[g,rfl]:=px d1;obtain⟨o,eo,j7⟩:∃o:Nat,dE (J0 "+-&|^<=").cps.toList (g:Int)=some o/\(⟨[o].toArray⟩:Str)∈L3.signs:=by
    have:g=0\/g=1\/g=2\/g=3\/g=4\/g=5\/g=6:=()
    rcases this with e|e|e|e|e|e|e <;> subst e
    .exact⟨43,∅,∅⟩
    .exact⟨45,∅,∅⟩
    .exact⟨38,∅,∅⟩
    .exact⟨124,∅,∅⟩
    .exact⟨94,∅,∅⟩
    .exact⟨60,∅,∅⟩
    .exact⟨61,∅,∅⟩
   have hx:∀(G:Gp) (q:DK),Bf (.str (J0 "+-&|^<=")) (.int (g:Int)) G q=(((J0 "+-&|^<=").length<=sizeLine)/\q (.str ⟨[o].toArray⟩) G):=λG q=>by show(_/\(match dE (J0 "+-&|^<=").cps.toList (g:Int) with|some c=>q (.str #[[c].toArray]) G|none=>False))=_;rw[eo]
   simp![hx];apply#[∅,∅,λp hp=>?_];have np:=k.at_.ne hp;have A8:=k.new (o:=.lst [.str bl,.int 1]) hp;apply fN A8.at_ ∅ ∅ λy G9 a9 e1 e2=>?_;have k9:=a9.kp _ _ np aG;have A9:=A8.trans a9;obtain⟨a,jT,Pj⟩:∃a:mK,dE [D.str bl,D.int 1] y=some (aD a)/\∀V,1<=V->j0 V [bl] a:=by
    have:y=0\/y=1:=()
    rcases this with e|e <;> subst e
    .exact⟨.box bl,rfl,λV _=>C6⟩
    .apply⟨.num 1,rfl,λV hV=>?_⟩;show 1<2^V;exact Nat.one_lt_two_pow ()
   simp![k9,bB,jT];apply⟨∅,?_⟩;dsimp!;apply fN A9.at_ ∅ ∅ λX EW M f1 f2=>?_;have Q:=A9.trans M;let#[X,rfl]:=px f1;simp!;apply#[∅,∅,∅,∅,λp1 bT=>?_];have Ba:=Q.new (o:=.lst [.int 1]) bT;have qq:=Q.at_.ne bT;simp!;apply#[∅,∅,∅,∅,λp2 J=>?_];have O:=Ba.new (o:=.lst [.tup [.str "lay",.int 1],.tup [.str "show"],.tup [.str "clear",.int 1]]) J;have WT:=Ba.at_.ne J;have WX:p1≠p2:=aL aG J;apply#[∅,?_];have:=post (1+X) [bl] [.op bl #[[o].toArray] (.box bl) a] p1 p2 [1] [some (true,1),none,some (false,1)] s false _ qq WT (by rw[aB WX,aG];rfl) (by rw[aG];rfl) (Jc (n:=1) () () (B9 1) (show 1<=6 by decide) (O1.mpr #[by simp,Qt]) #[#[C6,j7,C6,Pj _ ()],trivial] #[trivial,trivial] (by show max 0 0<=4;decide) (by show 1+0<=78;decide) rfl ∅ #[by simp,by simp,rfl] (xi9 Z) A ∅) O;rw[Z7] at this;exact this
  apply eZ (λc1=>?_) (λc1=>fall _ _ x);simp!;apply eZ (λc2=>?_) (λc2=>fall _ _ x);simp!;apply bQ #[st,(aW j).length,n,rfl,x.at_,n1,(),(),λca E r hg hk WW fca U a6=>?_];have t:=x.trans a6;have Jg:=a6.kp _ _ pC BZ;have md:zj W i j E w s (decide (l=0)):=Jc w1 w2 C () JK ho Ph me H hk n4 hg WG A hl;simp!;dsimp!;apply bQ #[W,i,j,ca,B,E,w,s,_,rfl,U,Jg,md,λG7 I=>?_];have k:=t.grow I;simp!;apply eZ (λc3=>?_) (λc3=>fall _ _ k);simp!;exact#[∅,post W i j ca B E w s _ G7 WW pC (I.kp _ _ U) (I.kp _ _ Jg) md k]
def x37{n:Nat}(pe:n<*T.gY<*ll)(jL:n+1<*T.dH<*jH)(lu:n+1<*T.dZ<*jI)(wJ:n+1<*T.f'<*r_)(wK:n+1<*T.gb<*sf):n+1+1<*T.om.1<*vG:=by
 apply dk T.om.1 iD (λ_ _ _ _ _ _ H =>
   (az (aR 4 iD.nd (YO T.gN T.aq.m pe H #v[!0,!2,!1]))
   (az (aR 5 iD.nd (dS mO))
   (az (Gh (pB (w_and (bE (lB) (dz fD rfl T.bf ∅ #v[!5]) (!3) (ah _)) (wY (bE (lB) (fQ T.aq.cl T.dH T.nh jL H (!4)) (dz fD rfl T.bf ∅ #v[(aj ai (!0) ao)]) (ah _))))) (az (dU (pA (!5) #v[(bp #v[(fQ T.aq.cl T.dH T.nh jL H (!4)),(fQ T.aq.cl T.dZ T.rj lu H (!4))])]))
   (aC (aK (bE (v02) (fQ T.aq.cl T.f' T.zR wJ H (!4)) dq (ah _)) (aC (aY dq)) cw))))
   (az (lC (jl (w45 (!5))) (xT (n:=2) rfl (jW (cL 6 iD.nd) (jW (cL 7 iD.nd) xZ))) (aC (aK (pB (w_or (bE (v02) (fQ T.aq.cl T.gb T.zS wK H (!4)) dq (ah _)) (DG (bE (iU H) (bp #v[(fQ T.aq.cl T.dH T.nh jL H (!4)),(fQ T.aq.cl T.dZ T.rj lu H (!4))]) (bp #v[!6,!7]) (ah _))))) (aC (aY dq)) cw)))
   (aC (aY dq))))))) (λds G R h=>?_)
 .let#[c0,rc,bx,k,bs,bz,s,most,sz,d,rfl,EA,tV,Dd,hp,hF,hmo,post]:=h;simp!;intro p l_;apply TY (s:=s) l_ EA tV λE B G1 nra Ep A1 g1=>?_;dsimp!;dsimp!;apply#[∅,λl Z=>?_];have n5:=aL A1.he Z;have n5a:=aL A1.ro Z;have n5p:=aL A1.ob Z;have g5:=g1.new (o:=.lst []) Z;have XJ:=g1.none Z;apply Gy (λm Q C=>tj λ(j d':Nat) (f:List Int) (i:List (Nat×List Int×Addr))=>MC (m=d') (fU k k.length bz j f d') (Dh k s bs i j f) (bc bN C p E B k f j) (C l=some (.lst (i.map kf))) (∀x∈i,C x.2.2=some (.lst (x.2.1.map .int))/\x.2.2≠p/\x.2.2≠B/\x.2.2≠l) (i.length<=most) (aA G C) (Q=[some (.tup [c0,.ref rc]),some (.int (s:Int)),some (.ref bx),some (.int (most:Int)),some (.ref p),some (.ref l),none,none])) (m:=d)
   #[s,d,bs,[],rfl,hF,.z,A1.grow (aA.refl.new Z),aG,(λ_ h=>nomatch h),J4 _,g5,rfl] ?_
  rintro m Q C N ⟨j,d',f,i,em,hF,hT,A,X,O,hl,g,rfl⟩ ih;have cc:=hT.Dd hp Dd;generalize hu:fz (sZ _ _ _) _=u;have stop:Go (u { nx:=λx C=>R D.non C,rt:=R}) [some (.tup [c0,.ref rc]),some (.int (s:Int)),some (.ref bx),some (.int (most:Int)),some (.ref p),some (.ref l),none,none] C:=by
   subst hu;apply gQ ?_;simp![Na,X,bB];intro p2 cK;have WT:=aL A.ob cK;have nh2:=aL A.he cK;apply lD (λr Q Y=>ES λ(s2:Nat) (PC:List Int) (t2:List (Nat×List Int×Addr)) (v6 v7:Option D)=>Ds (r=(t2.map kf).reverse) (Dh k s bs t2 s2 PC) (bc bN Y p E B k PC s2) (Y p2=some (.lst (i.map kf).reverse)) (∀x∈t2,Y x.2.2=some (.lst (x.2.1.map .int))/\x.2.2≠p/\x.2.2≠B) (aA G Y) (Q=[some (.tup [c0,.ref rc]),some (.int (s:Int)),some (.ref bx),some (.int (most:Int)),some (.ref p),some (.ref l),v6,v7])) #[j,f,i,none,none,rfl,hT,A.grow (aA.refl.new cK),aG,(λx hx=>#[by rw[aB (aL (O x hx).1 cK)];exact(O x hx).1,(O x hx).2.1,(O x hx).2.2.1]),g.new cK,rfl] ?_ ?_
   .rintro Q Y ⟨s2,PC,t2,v6,v7,e,YB,A2,k2,Xi,g2,rfl⟩;apply#[by rw[k2],?_];dsimp!;exact post _ g2
   .rintro z r Q Y ⟨s2,PC,t2,v6,v7,e,YB,A2,k2,Xi,g2,rfl⟩ ih;apply#[by rw[k2],?_];have c2:=YB.Dd hp Dd;cases YB with
    | z=>cases e
    | @s t0 U J q0 h m =>
     rw[B7,A79] at e;have e:z::r=kf (U,J,q0)::(t0.map kf).reverse:=e;cases e;let#[c1,m1,e1]:=xV hp (h.Dd hp Dd) m;let#[ka0,ka1,ka3]:=Xi (U,J,q0) (by simp);simp![kf,A2.ob,dA];apply bQ #[p,E,B,k,_,_,sz,rfl,A2,c2,λG3 k0 k1=>?_];let#[A3,I]:=k1 m1;rw[show dy k _ _=(U,J) from e1] at A3;have m1:cx k _ _=true:=m1;rw[m1];have g3:aA G G3:=#[λb o e=>by rw[I b (aL e l_) (aL e Ep)];exact g2.kp b o e];simp![A3.ob,dA];apply bQ #[p,E,B,k,J,U,rfl,A3,?_];simp![A3.ob,dA];apply bQ #[p,E,B,k,J,U,rfl,A3,λq hq=>?_];have kq:G3 q0=some (.lst (J.map .int)):=by rw[I q0 ka1 ka3];exact ka0
     simp!;apply#[∅,∅,?_];apply vw1 (ks:=J) (by rw[aG];rfl) (by rw[aB (aL kq hq),kq];rfl) ?_;rw[if_neg ∅];have OQ:G3 p2=some (.lst (i.map kf).reverse):=by rw[I p2 (D3 WT) (D3 nh2)];exact k2
     apply ih _ _ #[U,J,t0,_,_,rfl,h,A3.grow (aA.refl.new hq),by rw[aB (aL OQ hq)];exact OQ,λx hx=>?_,g3.new hq,rfl];let#[S,M,L]:=Xi x (QP _ hx);have S:G3 x.2.2=_:=(I _ M L).trans S;exact#[by rw[aB (aL S hq)];exact S,M,L]
  simp![X,bB,B0];apply eZ (λhk=>?_) (λ_=>stop);simp![A.ob,dA];apply bQ #[p,E,B,k,f,j,rfl,A,?_];have krc:=g.kp _ _ EA;simp![krc,bB,B0];apply eZ (λEE=>?_) (λ_=>stop);simp![X,A.ob,dA];apply bQ #[p,E,B,k,f,j,rfl,A,?_];simp![A.ob,dA];apply bQ #[p,E,B,k,f,j,rfl,A,λy EB=>?_];have ON:=aL X EB;simp![aB ON,X];apply#[∅,C8 (m:=1000) (by rw[B0];omega) ∅,?_];have g6:=g.new (o:=.lst (f.map .int)) EB;have A6:=(A.grow (aA.refl.new (o:=.lst (f.map .int)) EB));have k6:aH C y (.lst (f.map .int)) y=some (.lst (f.map .int)):=aG;have k56:aH C y (.lst (f.map .int)) l=some (.lst (i.map kf)):=by rw[aB ON];exact X
  have ka6:∀x∈i,aH C y (.lst (f.map .int)) x.2.2=some (.lst (x.2.1.map .int)):=λx hx=>by rw[aB (aL (O x hx).1 EB)];exact(O x hx).1
  have n6p:=aL A.ob EB;have n6h:=aL A.he EB;generalize aH C y (.lst (f.map .int))=G6 at *;have g7:=g6.own (o:=.lst (i.map kf++[kf (j,f,y)])) XJ;have A7:bc bN (aH G6 l (.lst (i.map kf++[kf (j,f,y)]))) p E B k f j:=#[by rw[aB n5p];exact A6.ob,by rw[aB n5a];exact A6.ro,by rw[aB n5];exact A6.he,A6.ne];have k7:aH G6 l (.lst (i.map kf++[kf (j,f,y)])) l=some (.lst ((i++[(j,f,y)]).map kf)):=by rw[aG,B7];rfl
  have ka7:∀x∈i++[(j,f,y)],aH G6 l (.lst (i.map kf++[kf (j,f,y)])) x.2.2=some (.lst (x.2.1.map .int))/\x.2.2≠p/\x.2.2≠B/\x.2.2≠l:=λx hx=>by
   rcases E9.mp hx with hx|hx
   .let#[_,M,L,y4]:=O x hx;exact#[by rw[aB y4];exact ka6 x hx,M,L,y4]
   .rw[F5.mp hx];exact#[by rw[aB (D3 ON)];exact k6,D3 n6p,D3 n6h,D3 ON]
  apply gQ ?_;show uV _ _ _ _ _ (aH G6 l (.lst (i.map kf++[kf (j,f,y)])));generalize aH G6 l (.lst (i.map kf++[kf (j,f,y)]))=G7 at *;simp![A7.ob,dA];apply bQ #[p,E,B,k,f,j,sz,rfl,A7,cc,λG3 k0 k1=>?_];cases hF with
  | done=>omega| @step _ _ d0 _ m t =>let#[A3,I]:=k1 m;rw[m];simp!;apply ih _ _ d0 () #[_,_,_,_,rfl,t,.s hT m,A3,by rw[I l (D3 n5p) (D3 n5)];exact k7,λx hx=>?_,by rw[B4,O4];omega,#[λb o e=>by rw[I b (aL e l_) (aL e Ep)];exact g7.kp b o e],rfl];let#[S,M,L,y4]:=ka7 x hx;exact#[(I _ M L).trans S,M,L,y4]
def wz5{n:Nat}(wc:n<*T.kJ.1<*rN)(Mc:n<*T.oi.1<*vE)(wm:n<*T.kM.1<*rQ)(wo:n<*T.nS.1<*rS)(AQ:n<*T.nU.1<*vq)(aT:n<*T.dn.1<*sC)(Ml:n<*T.ox.1<*vL)(Me:n<*T.om.1<*vG):n+1<*T.gS.1<*xd3:=by
 apply DL T.gS.1 cC (λds G R h=>?_) (λ_ _ _ _ _ _ q =>
   (az (aR 1 cC.nd (dS #v[!0,ao,ao]))
   (az (tG (ek Ml q #v[!1,ao]) (xT (n:=4) rfl (jW (cL 2 cC.nd) (jW (cL 3 cC.nd) (jW (cL 4 cC.nd) (jW (cL 5 cC.nd) xZ))))))
   (az (tG (za xK (!2) Up (DT ao)) (xT (n:=2) rfl (jW (cL 6 cC.nd) (jW (cL 7 cC.nd) xZ))))
   (az (aR 8 cC.nd (ek Mc q #v[!2,!3,!4,!5]))
   (az (aR 9 cC.nd (ek wm q #v[!2,!3,!4,!5]))
   (az (aR 10 cC.nd (aQ cz (pq (N':=["_law_name", "_law_state", "_law_wide"]) (ix:=[none,some 1,some 6]) (jU rfl rfl rfl) (jl (!7)) (λ_ _ _ _=>(cL 0 (show(["_law_name", "_law_state", "_law_wide"]:List Str).Nodup by decide))) (λ_ _ _ _=>mV) (λ_ _ _ _=>(ek aT q #v[!1,(aQ Bo ao (!2))]))) (aQ mT (dS #v[ao]) (aQ gI (aj ai (!8) ao) (dz fD rfl T.bf ∅ #v[!7])))))
   (az (aR 11 cC.nd (ek wo q #v[!8,!10,(aQ cz (!9) ao)]))
   (az (aK (pB (w_or (bE (iU q) (aj ai (!11) ao) aV (ah _)) (w_or (bE (iU q) (aj ai (!11) ao) (dz fD rfl T.bf ∅ #v[(aj ai (!8) ao)]) (ah _)) (DG (bE (iU q) (aj ai (!11) ao) (!9) (ah _)))))) (aC (aY dq)) cw)
   (az (aK (bE (iU q) (ek AQ q #v[!8,(aj ai (!11) ao),(aj ai (!11) ao),(aQ cz (!9) ao)]) (bp #v[aV,ao,!10,!9]) (ah _)) (aC (aY dq)) cw)
   (az (aR 12 cC.nd (ek wo q #v[!8,!10,(ek aT q #v[!1,(aQ cz (!9) ao)])]))
   (az (aK (bE (iU q) (ek AQ q #v[!8,(aj ai (!12) ao),(aj ai (!12) ao),!9]) (bp #v[aV,ao,!10,(aj ai (!12) ao)]) (ah _)) (aC (aY dq)) cw)
   (az (aK (bE (iU q) (ek wo q #v[(ek wc q #v[!8]),(aj ai (!11) ao),!9]) (bp #v[aV,(dz fD rfl T.bf ∅ #v[(aj ai (!8) ao)]),!10,!9]) (ah _)) (aC (aY dq)) cw)
   (aC (aY (ek Me q #v[!8,(aj ai (!12) ao),(aj ai (!12) ao),ao])))))))))))))))) (λds G R h=>?_)
 .let#[a,ns,rfl,_]:=h;rfl
 .let#[a,ns,rfl,ha,pF,post]:=h;simp!;apply#[∅,λst iI=>?_];have JY:a≠st:=aL ha iI;have S0:cF (aH G st (.lst [.ref a,.int 0,.int 0])) st:=#[a,ns,0,0,aG,by rw[aB JY];exact ha,(),(),JY,pF];generalize aH G st (.lst [.ref a,.int 0,.int 0])=G0 at *;apply gQ ?_;simp!;apply bQ #[st,1200,rfl,S0,λW S rs ca pl O w s b G1 WW npl Y BZ N a1=>?_];simp!;apply gQ ?_;apply rdh rfl ?_;dsimp only[List.set];apply gQ ?_;simp!;have S1:=a1.at_;clear a1 S0;apply bQ #[W,S,rs,ca,pl,O,w,s,b,rfl,Y,BZ,N,λL k f G2 nc g y aE hln z1 z2 XD g2=>?_];have S2:=S1.grow g2;have nqc:L≠st:=S1.ne nc;have Y:=g2.kp _ _ Y;have BZ:=g2.kp _ _ BZ;clear g2 S1 nc;simp!;apply gQ ?_;simp!;apply bQ #[W,S,rs,ca,pl,O,w,s,b,rfl,Y,BZ,N,λG3 g3=>?_];have S3:=S2.grow g3;have g:=g3.kp _ _ g;clear g3 S2;let#[Pa,X_]:=N.few;have xo:=N.pk.xo;have JZ:W<=16:=by let#[p,y]:=List.exists_mem_of_length_pos (l:=ij O (aW rs)) N.len.1;exact(N.pk.ok p y).1.hW
  generalize gn ((ij O (aW rs)).map (pG W S)) w+(S.length:Int)=mo at *;clear N Y BZ WW npl;simp!;generalize hu:fz (hJ (iT rS _ _) (tF 11)) _=u;apply gQ ?_;simp!;intro p9 OV;have n9:=S3.ne OV;have A9:=(cI.refl S3).new (o:=.lst []) OV;apply kr (λr σ G'=>tj λ(l t:List Str) (E:List Nat) (v:Option D)=>Ds (l++t=S) (r=t.map .str) (E.length=l.length) (∀v∈E,v<2^W) (cI st G3 G') (G' p9=some (.lst (E.map nD))) (σ=[v,some (.ref st),some (.int (W:Int))])) #[[],S,[],none,rfl,rfl,rfl,(λ_ h=>nomatch h),A9,aG,rfl] ?_ ?_
  .rintro σ G4 ⟨l,t,E,v,e,J,XB,XA,X,I,rfl⟩;apply#[trivial,?_];have ht:t=[]:=by simpa using J.symm
   subst ht;rw[D9] at e;subst e;have g:=X.kp _ _ nqc g;have S4:=X.at_;clear X A9 S3 OV;simp!;apply#[∅,λOG Q=>?_];simp![aB (aL I Q),I,bB,B0];rw[show((k:Int)-(l.length:Int)).toNat=k-l.length by omega,Q9];apply#[#[(),(),D5 (m:=2000) () ∅],λWJ uD=>?_];have OO:p9≠WJ:=λz=>by rw[<- z,aB (aL I Q),I] at uD;cases uD
   apply add_l (by rw[aB OO,aB (aL I Q)];exact I) aG (by rw[B0,S8];omega) λU Cw=>?_;have Pq:aA G4 (aH (aH (aH G4 OG (.lst [.int 0])) WJ (.lst (D2 (k-l.length) (.int 0)))) U (.lst (E.map nD++D2 (k-l.length) (.int 0)))):=((aA.refl.new Q).new uD).new Cw;have j:aH (aH (aH G4 OG (.lst [.int 0])) WJ (.lst (D2 (k-l.length) (.int 0)))) U (.lst (E.map nD++D2 (k-l.length) (.int 0))) U=some (.lst ((E.map (λ(v:Nat)=>(v:Int))++D2 (k-l.length) 0).map .int)):=by rw[aG,B7,P9,B88];rfl
   let#[Pk,Xw]:=BF (sz:=k) JZ XB XA z1;generalize E.map (λ(v:Nat)=>(v:Int))++D2 (k-l.length) 0=A at *;have n18:=((S4.new (o:=.lst [.int 0]) Q).new (o:=.lst (D2 (k-l.length) (.int 0))) uD).ne Cw;generalize aH _ U _=G18 at *;have g:=Pq.kp _ _ g;have S18:=S4.grow Pq;clear Pq S4 I Q uD Cw OO;let#[X1,d,hd,hF]:=XD A Pk Xw;subst hd;have M:gF k f A 0:=#[Pk,aE,J4 _];have e1:=hF.thr rfl d (B9 _);have e5:=hF.thr rfl (d+5) ();have Dc:=FU (fw:=true) y (n:=d) M;rw[e1] at Dc;have bk0:∀m,rn false f m 0 A=(0,0,A):=λm=>by
    cases m with
    | zero=>rfl| succ m=>exact ud rfl
   subst hu;apply gQ ?_;simp!;rw[show(d:Int)+5=((d+5:Nat):Int) from rfl];apply bQ #[_,L,U,f,A,d+5,k,rfl,g,j,M,y,λOD tZ BV B sT=>?_];have WY:=S18.ne BV;rw[e5] at B⊢;have S11:=S18.grow sT;have g:=sT.kp _ _ g;have j:=sT.kp _ _ j;unfold outD;rw[show tE true f X1 f.length = "end" from if_pos rfl];simp!;apply gQ ?_;simp![g,bB,B0];apply gQ ?_;simp!;rw[show(d:Int)+5=((d+5:Nat):Int) from rfl];apply bQ #[_,L,OD,f,X1,f.length,d+5,k,rfl,g,B,Dc,y,λq12 AU WX tQ uR=>?_];have JX:=NQ y (n:=d) (d+5) M (by rw[e1];exact Q7 _ _);rw[e1,bk0] at JX;have JX:rn false f (d+5) f.length X1=(d,0,A):=JX;rw[JX] at tQ⊢;have S12:=S11.grow uR;have g:=uR.kp _ _ g;have j:=uR.kp _ _ j;have B:=uR.kp _ _ B;unfold outD;simp!;apply#[∅,?_];rw[show tE false f A 0 = "begin" from rfl];apply UK (ks:=A) (by rw[tQ];rfl) (by rw[j];rfl) ?_;rw[if_neg ∅];clear JX S11 BV WX tQ sT uR;apply gQ ?_;simp!;apply fN S12 () () λC PK ER b1 b2=>?_;let#[C,rfl]:=px b1;let#[s2,X2,J,hF2]:=hF.pre (n:=C) ();have C_:=FU (fw:=true) y (n:=C) M;rw[J] at C_;have g:=ER.kp _ _ nqc g;have j:=ER.kp _ _ n18 j;have B:=ER.kp _ _ WY B;clear ER S12;simp!;apply bQ #[_,L,U,f,A,C,k,rfl,g,j,M,y,λq14 G14 n14 H Pt=>?_];rw[J] at H⊢;unfold outD;generalize tE true f (C,s2,X2).2.2 (C,s2,X2).2.1=wd;have g:=Pt.kp _ _ g;have j:=Pt.kp _ _ j;have B:=Pt.kp _ _ B;clear Pt n14;simp!;apply gQ ?_;simp!;apply bQ #[_,L,q14,f,X2,s2,d,k,rfl,g,H,C_,y,λq15 G15 n15 Xn Kd=>?_];have Z:=NQ y (n:=C) d M (by rw[J];show C<=d;omega);rw[J,bk0] at Z;have Z:rn false f d s2 X2=(C,0,A):=Z;rw[Z] at Xn⊢;have g:=Kd.kp _ _ g;have j:=Kd.kp _ _ j;have B:=Kd.kp _ _ B;have H:=Kd.kp _ _ H;unfold outD;simp!;apply#[∅,?_];rw[show tE false f A 0 = "begin" from rfl];apply UK (ks:=A) (by rw[Xn];rfl) (by rw[j];rfl) ?_;rw[if_neg ∅];clear Kd n15 Z Xn;apply gQ ?_;simp!;apply bQ #[_,L,f,rfl,g,y,hln,λq16 G16 n16 Jl Kc=>?_];have g:=Kc.kp _ _ g;have j:=Kc.kp _ _ j;have B:=Kc.kp _ _ B;have H:=Kc.kp _ _ H;simp!;have u1:=vc4 y M e1;apply bQ #[_,q16,OD,iO f,X1,d,k,rfl,Jl,B,#[Dc.bo,Uu aE,J4 _],VL y,λq17 G17 OO Xm Pr=>?_];rw[u1] at Xm⊢;have g:=Pr.kp _ _ g;have j:=Pr.kp _ _ j;have H:=Pr.kp _ _ H;unfold outD;rw[show tE true (iO f) A (iO f).length = "end" from if_pos rfl,yb];simp![g,bB,B0];apply#[∅,?_];apply UK (ks:=A) (by rw[Xm];rfl) (by rw[j];rfl) ?_;rw[if_neg ∅];clear Pr OO Xm Kc n16 Jl u1;apply gQ ?_;simp!;apply bQ #[_,L,q14,f,X2,X1,s2,40,k,d-C,rfl,g,H,C_,y,hF2,∅,λG18 Pq=>?_];exact post G18
  .rintro z r σ G4 ⟨l,t,E,v,e,J,XB,XA,X,I,rfl⟩ ih;cases t with
   | nil=>cases J
   | cons x t =>
    cases J;apply#[trivial,?_];simp!;apply#[FP () (),?_];have hlen:=congrArg J5 e;rw[B4,C1] at hlen;have XM:(1:Int)*2^W=((2^W:Nat):Int):=by rw[MA,C33];rfl
    have l_:=Q0 W;have bT:2^W<=65536:=T9 (n:=2) ∅ JZ;rw[XM];apply fN X.at_ () () λi G16 a16 i1 i2=>?_;let#[i,rfl]:=px i1;have Jl:=a16.kp _ _ n9 I;simp![Jl];apply#[C8 (m:=100) (by rw[B0];omega) ∅,ih _ _ #[l++[x],t,E++[i],_,by rw[<- e];simp,rfl,by rw[B4,B4,XB];rfl,λv hv=>?_,(X.trans a16).own OV Jl n9,by rw[aG,B7];rfl,rfl]];rcases E9.mp hv with hv|hv
    .exact XA v hv
    .rw[F5.mp hv];omega
end
end Law
namespace Law
open PySem PySem.Spec PyProof.Rows L2 L3
def IZ:W.Frag->Bool
 | []=>true| p::r=>(match p.2.data with|.seq _ _=>(match p.2.cls with|.type s=>!(s == "list")|_=>true)|_=>true)&&IZ r
theorem w32:∀{K:W.Frag} {a:Addr} {o:Obj} {its:Array Value} {n:Nat},IZ K=true->K.lookup a=some o->o.cls=.type "list" -> o.data=.seq its n->False
 | [],a,o,its,n,_,e,_,_=>by cases e
 | p::r,a,o,its,n,h,e,g,f=>by
  unfold IZ at h;rw[O9] at h;rw[I0] at e;split at e
  .cases e;have q:=h.1;rw[f] at q;simp only[g] at q;exact absurd q ∅
  .exact w32 h.2 e g f
def EO{P:List Value->Prop}(h:P []):∀us:List Value,us.length=0->P us:=λus e=>by rw[E8 e];exact h
def j'{n:Nat}{P:List Value->Prop}(h:∀(a:Value) (us:List Value),us.length=n->P (a::us)):∀us:List Value,us.length=n+1->P us:=λus e=>by
 cases us with
 | nil=>cases e
 | cons a us=>exact h a us (P1 e)
def ar1{P:List Value->Prop}(h:∀f,P [f]):∀us:List Value,us.length=1->P us:=j' λf=>EO (h f)
def ar2{P:List Value->Prop}(h:∀g f,P [g,f]):∀us:List Value,us.length=2->P us:=j' λg=>j' λf=>EO (h g f)
def ar3{P:List Value->Prop}(h:∀i g f,P [i,g,f]):∀us:List Value,us.length=3->P us:=j' λi=>j' λg=>j' λf=>EO (h i g f)
def ar4{P:List Value->Prop}(h:∀j i g f,P [j,i,g,f]):∀us:List Value,us.length=4->P us:=j' λj=>j' λi=>j' λg=>j' λf=>EO (h j i g f)
def ar5{P:List Value->Prop}(h:∀k j i g f,P [k,j,i,g,f]):∀us:List Value,us.length=5->P us:=j' λk=>j' λj=>j' λi=>j' λg=>j' λf=>EO (h k j i g f)
def ar6{P:List Value->Prop}(h:∀l k j i g f,P [l,k,j,i,g,f]):∀us:List Value,us.length=6->P us:=j' λl=>j' λk=>j' λj=>j' λi=>j' λg=>j' λf=>EO (h l k j i g f)
def vi9{K:W.Frag}{x g:Str}{st:Stmt}{ps:List Str}{f:Addr}{m:Value}{od an:Option Addr}{j:Array (Option Value)}{kV doc i h ct:Value}(l:K.lookup f=some #[m,od,.func (W.fnOf x g (tJ st) (qT st) (bq st) .none kV doc i an h ct),j]) (c:W.codeIn K h g=true) (k:W.keepIn K (.ref f)=true) (n:∀us:List Value,us.length=ps.length->PV (W.fnOf x g (tJ st) (qT st) (bq st) .none kV doc i an h ct) #[us,[]]=pure (ps.zip us)):FnAt K x g st ps:=#[f,_,#[m,od,.none,kV,doc,i,an,h,ct,j,rfl,l,c],k,.all n]
def DF(K:W.Frag)(x:Str)(st:Stmt):Prop:=∃(p:Addr) (h:Value) (od an:Option Addr) (f:Array (Option Value)) (kV i g cd j:Value),W.nsIn K J8 x=some (some (.ref p))/\K.lookup p=some #[h,od,.func (W.fnOf x x (tJ st) (qT st) (bq st) .none kV i g an cd j),f]/\W.codeIn K cd x=true/\W.keepIn K (.ref p)=true
def DM(K:W.Frag)(C:Addr)(x q:Str)(st:Stmt):Prop:=∃(p:Addr) (h:Value) (od an:Option Addr) (f:Array (Option Value)) (kV i g cd j:Value),W.findIn K (.ref C) x=some (some (.ref p))/\W.isFn K (.ref p)=true/\K.lookup p=some #[h,od,.func (W.fnOf x q (tJ st) (qT st) (bq st) .none kV i g an cd j),f]/\W.codeIn K cd q=true/\W.keepIn K (.ref p)=true
section
variable{K:W.Frag}{h:Heap}{mg:Str->Option Value}{C:Addr}{x q:Str}{st:Stmt}{ps:List Str}
def YS{p:Addr}{i:Value}{od an:Option Addr}{f:Array (Option Value)}{kV j g cd ct:Value}(a:W.nsIn K J8 x=some (some (.ref p)))(l:K.lookup p=some #[i,od,.func (W.fnOf x x (tJ st) (qT st) (bq st) .none kV j g an cd ct),f])(c:W.codeIn K cd x=true)(k:W.keepIn K (.ref p)=true):DF K x st:=#[p,i,od,an,f,kV,j,g,cd,ct,a,l,c,k]
def YR{p:Addr}{j:Value}{od an:Option Addr}{f:Array (Option Value)}{kV m g cd ct:Value}(a:W.findIn K (.ref C) x=some (some (.ref p)))(i:W.isFn K (.ref p)=true)(l:K.lookup p=some #[j,od,.func (W.fnOf x q (tJ st) (qT st) (bq st) .none kV m g an cd ct),f])(c:W.codeIn K cd q=true)(k:W.keepIn K (.ref p)=true):DM K C x q st:=#[p,j,od,an,f,kV,m,g,cd,ct,a,i,l,c,k]
def ln4{f:Type}:∀{us:List f},us.length=4->∃a b c d,us=[a,b,c,d]
 | [a,b,c,d],_=>#[a,b,c,d,rfl]
def ln3{f:Type}:∀{us:List f},us.length=3->∃a b c,us=[a,b,c]
 | [a,b,c],_=>#[a,b,c,rfl]
def aN{N:List Str}(_:af N ps (bq st))(X:K.In h)(G:h.Ns J8 mg)(d:DF K x st)(j:∀kV i g an cd ct,∀us:List Value,us.length=ps.length->PV (W.fnOf x x (tJ st) (qT st) (bq st) .none kV i g an cd ct) #[us,[]]=pure (ps.zip us):=by intro _ _ _ _ _ _;first|exact ar1 λ_=>rfl|exact ar2 λ_ _=>rfl|exact ar3 λ_ _ _=>rfl|exact ar4 λ_ _ _ _=>rfl|exact ar5 λ_ _ _ _ _=>rfl|exact ar6 λ_ _ _ _ _ _=>rfl):
  ∃f:Fg K mg x st ps,∀(s:Shared) (us:List Value),us.length=ps.length->Dq s f.fd #[us,[]] (ps.zip us):=by
 let#[p,n,od,an,m,kV,i,g,cd,ct,a,l,c,k]:=d;exact#[#[vi9 l c k (j kV i g an cd ct),W.mg_of X G a],λs us e=>.of_eq (j kV i g an cd ct us e)]
def iM{N:List Str}(_:af N ps (bq st))(d:DM K C x q st)(m:∀kV j g an cd ct,∀us:List Value,us.length=ps.length->PV (W.fnOf x q (tJ st) (qT st) (bq st) .none kV j g an cd ct) #[us,[]]=pure (ps.zip us):=by intro _ _ _ _ _ _;first|exact ar1 λ_=>rfl|exact ar2 λ_ _=>rfl|exact ar3 λ_ _ _=>rfl|exact ar4 λ_ _ _ _=>rfl|exact ar5 λ_ _ _ _ _=>rfl|exact ar6 λ_ _ _ _ _ _=>rfl):
  ∃f:FnAt K x q st ps,W.findIn K (.ref C) x=some (some (.ref f.a))/\W.isFn K (.ref f.a)=true:=by
 let#[p,o,od,an,n,kV,j,g,cd,ct,a,i,l,c,k]:=d;exact#[vi9 l c k (m kV j g an cd ct),a,i]
end
def vy4:gi:=λg G R=>∃(a:Addr) (f:List Int),g=[.ref a]/\G a=some (.sV (f.map .int))/\f.length<=63/\∀h,R (.bl true) h
theorem v18{K:W.Frag}{H:Hp}:∀ns:List Int,ag K H (ns.map D.int) (ns.map V.int)
 | []=>.nil| _::ns=>.cons ae.de (v18 ns)
def x89{K:W.Frag}{H:Hp}{a:Addr}{ns:List Int}(l:IZ K=true)(i:ns.length<=63)(k:Only H)(j:eR K H a (ns.map V.int)):cJ K vy4 [.ref a] H (λv _=>v=.bl true) λ_ _ _=>False:=by
 have f:∃o,H a=some (.dG o (.lst (ns.map V.int))):=by
  rcases j with(h|h)|⟨o,its,n,q,p,_,m,_⟩
  .rcases k a with z|⟨o,xs,z⟩
   .rw[h] at z;cases z
   .rw[h] at z;cases z
  .exact h
  .exact(w32 l q p m).elim
 let#[o,f]:=f;apply#[[.ref a],aH (λ_=>none) a (.sV (ns.map .int)),λd _=>d=.bl true,.cons ?_ .nil,λb u e=>?_,#[a,ns,rfl,aG,i,λ_=>rfl],λd x v t r _ _ e=>?_]
 .rw[ae]
 .by_cases g:b=a
  .subst g;rw[aG] at e;cases e;exact#[o,_,f,v18 ns]
  .rw[aB g] at e;cases e
 .subst e;rw[ae] at r;exact r
end Law
namespace Law
open PySem PySem.Spec PyProof.Rows L2 L3 Rw
def BA{K:W.Frag}{h:Heap}{mg:Str->Option Value}(X:K.In h)(G:h.Ns J8 mg) {g:Addr} {IW Kt:Option Addr} {GS:Array (Option Value)} {IX Jj Kj IL Ad Kn:Value} {Z:Addr} {gK:Obj} {lF:Nat} {gJ:Tok} {M:Tok} {fb:Tok} (zf:W.nsIn K J8 "Loom" = some (some (.ref bG))) (ze:W.nsIn K J8 "Ride" = some (some (.ref bN))) (Iq:DF K "joined" Sk) (HK:DF K "moved" SV) (Hr:DF K "turned" Ts) (Hq:DF K "turned_row" Tt) (WC:DM K bG "__init__" "Loom.__init__" RL) (WD:DM K bG "fresh_box" "Loom.fresh_box" RK) (WB:DM K bG "put" "Loom.put" RM) (WA:DM K bG "put_by_choice" "Loom.put_by_choice" RN) (Wz:DM K bG "put_unless" "Loom.put_unless" RO) (Hm:DF K "weave" Tx) (Hk:DF K "weave_rows" TB) (Hl:DF K "weave_choose" Tz) (HH:DF K "place_of" SY) (Hj:DF K "weave_sign" TC) (Hu:DF K "total" Tp) (Iw:DF K "difference" Sh) (Iu:DF K "gap" RJ) (IC:DF K "bits_of_both" R') (ID:DF K "bits_of_any" R_) (IB:DF K "bits_of_one" Sb) (Hv:DF K "sum_without_both" Tn) (Hz:DF K "smaller" Tf) (IG:DF K "alike" RY) (Ht:DF K "truth" Tq) (HR:DF K "marking" SN) (HQ:DF K "marking_steps" SO) (HI:DF K "pieces" SX) (Ho:DF K "unrolled" Tv) (Hn:DF K "unrolled_row" Tw) (Hw:DF K "stretches" Tj) (Iy:DF K "costs" Sg) (Iz:DF K "checked" Sf) (HP:DF K "may_do" SQ) (HE:DF K "set_of" Ta) (Hy:DF K "stands" Tg) (HS:DF K "many_in" SM) (IE:DF K "behind" RZ) (HD:DF K "sets_along" Tb) (HN:DF K "most_marks" SR) (Hg:DF K "work" TH) (HU:DF K "made" SK) (Hx:DF K "steps" Ti) (HB:DF K "slots_along" Td) (HA:DF K "slots_behind" Te) (Iv:DF K "free_slot" Si) (HL:DF K "move_codes" SU) (HM:DF K "move_code" SS) (HC:DF K "shown_code" Tc) (HV:DF K "left_code" SJ) (Za:W.findIn K (.ref bN) "__init__" = some (some (.ref g))) (Xu:W.isFn K (.ref g)=true) (Xe:K.lookup g=some #[IX,IW,.func (W.fnOf "__init__" "Ride.__init__" (tJ DC) (qT DC) (bq DC) (.ref Z) Jj Kj IL Kt Ad Kn),GS]) (YX:W.codeIn K Ad "Ride.__init__" = true) (Xj:W.keepIn K (.ref g)=true) (O:K.lookup Z=some gK) (U:gK.data=.seq [.int 0 gJ].toArray lF) (II:DM K bN "place" "Ride.place" RX) (Wu:DM K bN "boxes" "Ride.boxes" RT) (Wt:DM K bN "forth" "Ride.forth" RU) (Ww:DM K bN "back" "Ride.back" RS) (Wx:DM K bN "at_end" "Ride.at_end" RQ) (Wy:DM K bN "at_begin" "Ride.at_begin" RP) (IJ:DM K bN "may_forth" "Ride.may_forth" RW) (IK:DM K bN "may_back" "Ride.may_back" RV) (Ir:DF K "holds" Sj) (IA:DF K "change" Se) (HJ:DF K "operand_value" SW) (Hs:DF K "turn_bit" Tr) (HF:DF K "run_forth" S') (HG:DF K "run_back" S_) (Hh:DF K "word_of" TF) (Ii:DF K "_law_draw" Sv) (Il:DF K "_law_cap" So) (HY:DF K "_law_turned" SG) (HW:DF K "_law_way" SI) (Ig:DF K "_law_moves" Sx) (Im:DF K "_law_behind" Sm) (Ij:DF K "_law_detoured" Ss) (Ic:DF K "_law_plan" Sz) (HZ:DF K "_law_size" SF) (Ie:DF K "_law_names" Sy) (Io:DF K "_law_atom" Sl) (Ia:DF K "_law_row" SD) (H_:DF K "_law_rows" SE) (Ib:DF K "_law_program" SA) (Ik:DF K "_law_cuts" Sr) (Ih:DF K "_law_making" Sw) (HX:DF K "_law_undone" SH) (Ip:DF K "law" TJ) (yv:W.plainGet K bG U0=true) (yT:W.hasDictIn K bG=true) (yt:W.plainOver K bG=true) (yo:W.findIn K (.ref bG) "__setattr__" = some (some (.builtin "object.__setattr__"))) (lX:W.makesIn K bG=true) (yG:W.keepIn K (.ref bG)=true) (m_:W.findIn K (.ref bG) "wide" = some none) (lW:W.findIn K (.ref bG) "fresh" = some none) (ng:W.findIn K (.ref bG) "rows" = some none) (lV:W.findIn K (.ref bG) "steps" = some none) (yu:W.plainGet K bN U0=true) (yS:W.hasDictIn K bN=true) (yq:W.plainOver K bN=true) (yn:W.findIn K (.ref bN) "__setattr__" = some (some (.builtin "object.__setattr__"))) (gN:W.makesIn K bN=true) (yF:W.keepIn K (.ref bN)=true) (m8:W.findIn K (.ref bN) "rows" = some none) (m9:W.findIn K (.ref bN) "held" = some none) (m7:W.findIn K (.ref bN) "spot" = some none) (sA:W.nsIn K J8 "NUMBERS" = some (some (.int 4294967296 M))) (jk:W.nsIn K J8 "BELOW_NOUGHT" = some (some (.int 31 fb))) (u7:W.nsIn K J8 "abs" = some none) (gA:W.nsIn K J8 "dict" = some none) (jE:W.nsIn K J8 "divmod" = some none) (cU:W.nsIn K J8 "enumerate" = some none) (oM:W.nsIn K J8 "int" = some none) (eA:W.nsIn K J8 "isinstance" = some none) (bf:W.nsIn K J8 "len" = some none)
  (fA:W.nsIn K J8 "list" = some none)
  (rH:W.nsIn K J8 "max" = some none)
  (rG:W.nsIn K J8 "min" = some none)
  (bL:W.nsIn K J8 "range" = some none)
  (gy:W.nsIn K J8 "reversed" = some none)
  (ib:W.nsIn K J8 "sorted" = some none)
  (u6:W.nsIn K J8 "str" = some none)
  (rF:W.nsIn K J8 "sum" = some none)
  (fH:W.nsIn K J8 "tuple" = some none)
  (uZ:W.nsIn K J8 "zip" = some none):
  ∃T:Txt K mg,∀(s:Shared) (v:Value),Dq s T.gS.fd #[[v],[]] [("_law_script",v)]:=by
 let#[kU,_]:=aN jr X G Iq;let#[nW,_]:=aN vz6 X G HK;let#[kJ,_]:=aN pU X G Hr;let#[nJ,_]:=aN vz0 X G Hq;let#[k_,J,q]:=iM w15 WC;let#[bF,L,r]:=iM w16 WD;let#[bO,I,p]:=iM w14 WB;let#[N,H,o]:=iM w13 WA;let#[Y,E,n]:=iM qj Wz;let#[kI,_]:=aN lG X G Hm;let#[gU,_]:=aN jm X G Hk;let#[nG,_]:=aN gs X G Hl;let#[kO,_]:=aN pY X G HH;let#[nF,_]:=aN vy8 X G Hj;let#[nM,_]:=aN lJ X G Hu;let#[oF,_]:=aN lS X G Iw;let#[jD,_]:=aN qk X G Iu;let#[kY,_]:=aN qd X G IC;let#[oI,_]:=aN w05 X G ID;let#[oH,_]:=aN w04 X G IB;let#[kK,_]:=aN lK X G Hv;let#[nN,_]:=aN lL X G Hz;let#[oJ,_]:=aN ju X G IG;let#[nL,_]:=aN lI X G Ht;let#[oh,_]:=aN iB X G HR;let#[og,_]:=aN lM X G HQ;let#[kP,_]:=aN vz4 X G HI;let#[gV,_]:=aN lH X G Ho;let#[nH,_]:=aN vy9 X G Hn;let#[kL,_]:=aN gu X G Hw;let#[oG,_]:=aN w03 X G Iy;let#[kW,_]:=aN dO X G Iz;let#[n_,_]:=aN p_ X G HP;let#[jB,_]:=aN vz3 X G HE;let#[kN,_]:=aN vz1 X G Hy;let#[kQ,_]:=aN jo X G HS;let#[kZ,_]:=aN w06 X G IE;let#[nR,_]:=aN iy X G HD;let#[nZ,_]:=aN vz7 X G HN;let#[nE,_]:=aN vy6 X G Hg;let#[oi,_]:=aN iC X G HU;let#[kM,_]:=aN pW X G Hx;let#[nP,_]:=aN iw X G HB;let#[nO,_]:=aN pX X G HA;let#[oE,_]:=aN jt X G Iv;let#[nX,_]:=aN dM X G HL;let#[nY,_]:=aN pZ X G HM;let#[nQ,_]:=aN vz2 X G HC;let#[oj,_]:=aN vz8 X G HV;let gY:FnAt K "__init__" "Ride.__init__" DC ["self", "code", "boxes", "place"]:=#[g,_,#[_,_,_,_,_,_,_,_,_,_,rfl,Xe,YX],Xj,λs f u t=>by let#[_,_,_,_,rfl]:=ln4 (us:=f) (by simpa using t);exact W.binds_K u rfl O U rfl rfl];let#[dH,YZ,Xr]:=iM w07 II;let#[dZ,y,j]:=iM w08 Wu;let#[f',x,i]:=iM qg Wt;let#[S,A,k]:=iM qh Ww;let#[R,B,l]:=iM w09 Wx;let#[Q,C,m]:=iM w12 Wy;let#[fZ,Y_,Xs]:=iM qe IJ;let#[f_,Y',Xt]:=iM qf IK;let#[iR,_]:=aN w02 X G Ir;let#[kX,_]:=aN qb X G IA;let#[nV,_]:=aN vz5 X G HJ;let#[nK,_]:=aN pV X G Hs;let#[nS,_]:=aN iz X G HF;let#[nU,_]:=aN iA X G HG;let#[kH,_]:=aN vy7 X G Hh;let#[dn,_]:=aN dj X G Ii;let#[kS,_]:=aN w00 X G Il;let#[jC,_]:=aN lN X G HY;let#[gW,_]:=aN gv X G HW;let#[ow,_]:=aN lR X G Ig;let#[oB,_]:=aN w01 X G Im;let#[oz,_]:=aN cN X G Ij;let#[ot,_]:=aN lQ X G Ic;let#[oo,_]:=aN lO X G HZ;let#[ou,_]:=aN cM X G Ie;let#[oC,_]:=aN qa X G Io;let#[kR,_]:=aN iE X G Ia;let#[gX,_]:=aN vz9 X G H_;let#[oq,_]:=aN lP X G Ib;let#[oA,_]:=aN jq X G Ik;let#[ox,_]:=aN di X G Ih;let#[om,_]:=aN iD X G HX;let#[gS,Ks]:=aN cC X G Ip;exact#[#[#[#[kU,nW,kJ,nJ,k_,bF,bO,N,Y,kI,gU,nG,kO,nF,nM,oF,jD,kY,oI,oH,kK,nN,oJ,nL,oh,og,kP,gV,nH,kL,oG,kW,n_,jB,kN,kQ,kZ,nR,nZ],nE,oi,kM,nP,nO,oE,nX,nY,nQ,oj,gY,dH,dZ,f',S,R,Q,fZ,f_,iR,kX,nV,nK,nS,nU,kH,dn,kS,jC,gW,ow,oB,oz,ot,oo,ou,oC,kR,gX,oq],oA,ox,om,gS,#[#[yv,yT,yt,yo],W.mg_of X G zf,m_,lW,ng,lV],#[#[yu,yS,yq,yn],W.mg_of X G ze,m8,m9,m7],#[lX,J,q,yG],#[L,r,bF.kp],#[I,p,bO.kp],#[H,o,N.kp],#[E,n,Y.kp],#[gN,Za,Xu,yF],#[gJ,λs f u t=>by let#[_,_,_,rfl]:=ln3 (us:=f) (show f.length=3 by simpa using t);exact W.binds_K u rfl O U rfl rfl],#[YZ,Xr,dH.kp],#[y,j,dZ.kp],#[x,i,f'.kp],#[A,k,S.kp],#[B,l,R.kp],#[C,m,Q.kp],#[Y_,Xs,fZ.kp],#[Y',Xt,f_.kp],#[M,W.mg_of X G sA],#[fb,W.mg_of X G jk],W.mg_none_of X G u7,W.mg_none_of X G gA,W.mg_none_of X G jE,W.mg_none_of X G cU,W.mg_none_of X G oM,W.mg_none_of X G eA,W.mg_none_of X G bf,W.mg_none_of X G fA,W.mg_none_of X G rH,W.mg_none_of X G rG,W.mg_none_of X G bL,W.mg_none_of X G gy,W.mg_none_of X G ib,W.mg_none_of X G u6,W.mg_none_of X G rF,W.mg_none_of X G fH,W.mg_none_of X G uZ],λs v=>Ks s [v] rfl]
def xd2{P:Program}{w:World}{K:W.Frag}{mg:Str->Option Value}{base:Heap}(T:Txt K mg):30<*T.gS.1<*xd3:=by
 have KO:=@x04 P w K mg base T 0;have I:=@x05 P w K mg base T 1 (km KO);have Lb:=@x25 P w K mg base T 0;have AA:=@x52 P w K mg base T 1 (km Lb);have Ky:∀f,0+2*f<*T.gV.1<*fJ f:=by
  intro f;induction f with
  | zero=>exact xe5 T| succ f j=>exact bD.mono (x03 T (n:=0+2*f+1) (dp:=f) (x02 T (n:=0+2*f) (dp:=f) j)) ()
 have KL:16<*T.gV.1<*xd5:=Ky 8;have A:=@x23 P w K mg base T 16 (km KL);have G:=@x10 P w K mg base T 17 (km A);have r:=@x19 P w K mg base T 0;have C:=@x12 P w K mg base T 1 (km r);have y:=@x33 P w K mg base T 0;have Lg:=@x30 P w K mg base T 2 (km C) (km y);have U:=@x62 P w K mg base T 1 (km r);have Z:=@x57 P w K mg base T 3 (km Lg) (km r) (km C) (km U);have Lz:=@x54 P w K mg base T 0;have KU:=@x15 P w K mg base T 1 (km Lz);have KW:=@x16 P w K mg base T 2 (km KU);have KZ:=@x18 P w K mg base T 2 (km U);have Lf:=@x28 P w K mg base T 3 (km y) (km KZ);have LI:=@x76 P w K mg base T 0;have h:=@x77 P w K mg base T 0;have i:=@x75 P w K mg base T 0;have B:=@x22 P w K mg base T 1 (km h) (km i);have KR:=@x08 P w K mg base T 1 (km h) (km i);have l:=@x78 P w K mg base T 1 (km h) (km i);have LA:=@x55 P w K mg base T 2 (km h) (km i) (km l);have X:=@x60 P w K mg base T 1 (km h) (km i);have H:=@x09 P w K mg base T 2 (km h) (km i) (km X);have LD:=@x61 P w K mg base T 3 (km H);have LC:=@x59 P w K mg base T 3 (km H);have KS:=@x14 P w K mg base T 2 (km h) (km i) (km l);have LF:=@x63 P w K mg base T 2 (km h) (km i) (km l);have KI:=@wz8 P w K mg base T 4 (km KR) (km LA) (km X) (km LD) (km LC) (km KS) (km LF);have LG:=@x73 P w K mg base T 0;have LH:=@x74 P w K mg base T 1 (km LG);have KQ:=@x07 P w K mg base T 1 (km h) (km i);have Kx:∀f,5+2*f<*T.gU.1<*fI f:=by
  intro f;induction f with
  | zero=>exact xe4 T| succ f j=>exact bD.mono (wz9 T (n:=5+2*f+1) (dp:=f) (x00 T (n:=5+2*f) (dp:=f) (bD.mono h ()) (bD.mono LH ()) j (bD.mono B ()) (bD.mono KQ ())) (bD.mono B ()) (bD.mono KI ())) ()
 have KJ:21<*T.gU.1<*xd4:=Kx 8;have J:=@x01 P w K mg base T 20 (km LI) (km KJ);have Li:=@x32 P w K mg base T 22 (km AA) (km I) (km J);have KY:=@x17 P w K mg base T 0;have Ld:=@x27 P w K mg base T 23 (km Li) (km KY);have Lc:=@x26 P w K mg base T 24 (km Lf) (km Ld);have Lk:=@x35 P w K mg base T 0;have Lj:=@x34 P w K mg base T 25 (km AA) (km G) (km Z) (km KW) (km Lc) (km Lk);have Lh:=@x31 P w K mg base T 22 (km J);have LB:=@x56 P w K mg base T 23 (km Lh) (km G);have KH:=@wz6 P w K mg base T 0;have E:=@x11 P w K mg base T 24 (km LB) (km Z) (km KH);have o:=@x67 P w K mg base T 0;have p:=@x64 P w K mg base T 0;have m:=@x69 P w K mg base T 0;have N:=@x71 P w K mg base T 0;have k:=@x53 P w K mg base T 0;have S:=@x65 P w K mg base T 1 (km N) (km k);have La:=@x24 P w K mg base T 0;have KP:=@x06 P w K mg base T 0;have Y:=@x58 P w K mg base T 1 (km La) (km KP);have Q:=@x68 P w K mg base T 2 (km S) (km k) (km Y);have L:=@wz7 P w K mg base T 0;have K_:=@x20 P w K mg base T 2 (km o) (km p) (km m) (km Q) (km N) (km S) (km L);have M:=@x72 P w K mg base T 0;have R:=@x66 P w K mg base T 1 (km M) (km k);have O:=@x70 P w K mg base T 2 (km R) (km k) (km Y);have K':=@x21 P w K mg base T 2 (km o) (km p) (km m) (km O) (km M) (km R) (km L);have g:=@x46 P w K mg base T 0;have q:=@x38 P w K mg base T 0;have u:=@x49 P w K mg base T 0;have Kz:∀f,1+f<*T.gW.1<*eB f:=by
  intro f;induction f with
  | zero=>exact xe6 T| succ f j=>exact x36 T (n:=1+f) (dp:=f) (bD.mono g ()) (bD.mono u ()) (bD.mono q ()) j
 have Ll:27<*T.gW.1<*xd8:=Kz 26;have Ls:=@x44 P w K mg base T 0;have Ly:=@x50 P w K mg base T 0;have Lw:=@x47 P w K mg base T 1 (km g) (km q) (km Ls) (km Ly);have Lq:=@x42 P w K mg base T 27 (km q) (km Ll) (km Lw);have Ln:=@x39 P w K mg base T 1 (km g) (km u);have Lr:=@x43 P w K mg base T 1 (km g);have t:=@x51 P w K mg base T 1 (km g);have KA:∀f,2+2*f<*T.gX.1<*fK f:=by
  intro f;induction f with
  | zero=>exact xe7 T| succ f j=>exact bD.mono (x40 T (n:=2+2*f+1) (dp:=f) (bD.mono g ()) (w30 T (n:=2+2*f) (dp:=f) (bD.mono g ()) (bD.mono t ()) j)) ()
 have x:18<*T.gX.1<*xd9:=KA 8;have Lo:=@w30 P w K mg base T 18 8 (km g) (km t) (km x);have Lp:=@x41 P w K mg base T 19 (km g) (km Lr) (km Lo) (km x);have Lx:=@x48 P w K mg base T 1 (km g);have Lu:=@x45 P w K mg base T 28 (km A) (km E) (km g) (km Lq) (km Ln) (km Lp) (km Lx);have Lm:=@x37 P w K mg base T 2 (km o) (km p) (km m) (km Q) (km O);have KG:=@wz5 P w K mg base T 29 (km I) (km Lj) (km E) (km K_) (km K') (km g) (km Lu) (km Lm);exact KG
def walk{l:W.OpenLaw}{q:Program}{i:List Str}{I:(Str->Option Value)->Heap->Prop}{o:World->Heap->Prop}{d:DefRec}{K:Params->W.Frag}(r:l.most=some 63)(J:d.params.defaults=[]) (y:∀(w:World) (h:Heap),o w h->(K w.params).In h) (E:∀w:World,IZ (K w.params)=true) (F:∀(w:World) (mg:Str->Option Value) (m:Addr) (h:Heap),(K w.params).In h->h.Ns J8 mg->mg d.name=some (.ref m)->∃T:Txt (K w.params) mg,∀(s:Shared) (v:Value),Dq s T.gS.fd #[[v],[]] [("_law_script",v)]) (p:d.name = "law" := by rfl):
  W.WalkO q i I o l.row.toRowW d [] (λf vs=>ZC f vs):=by
 apply L2.xP (n:=63) (k:=30) (x:= "_law_script") (CX:=λ_=>pK) (sp:=λw=>cJ (K w.params) vy4) r ∅ J #[rfl,∅,∅] y (λw mg m h G C j=>?_) (λw H a M t B A=>x89 (E w) t B A) λ_ _ _ _ _ z=>z;let#[T,u]:=F w mg m h G C j;rw[p] at j;have e:=j.symm.trans T.gS.g;cases e;exact#[T.gS.fd,u,λbase _ _=>xd2 T]
end Law
end
namespace PySem.W.Fast
def tw6756885688549155202:=0
def tw17713315254426298010:=0
def tw4899507529227662124:=0
def tw7703288531435748908:=0
def tw8602294867990642410:=0
def tw3787724945056943717:=0
def tw11251453801298588014:=0
def tw13029845442648911041:=0
def tw6327818463839290707:=0
def tw4497542166613675616:=0
def tw15565251795934739908:=0
def tw16502008059344180532:=0
def tw2907686587253734501:=0
def tw2434511550566115485:=0
def tw7950965046554120502:=0
def tw6010511810741076681:=0
def tw6132110866273631201:=0
def tw10948392275181133490:=0
def tw16996285708340555343:=0
def tw16285582414287310303:=0
def tw16301650927706112951:=0
def tw13884674390194596519:=0
def tw10667132855983803078:=0
def tw3168539744503816247:=0
def tw3114633498564428794:=0
def tw6824927740185545719:=0
def tw6765209280995036540:=0
def tw5128868309405875567:=0
def tw3239960994933269450:=0
def tw4590014850690259538:=0
def tw5029303187482192820:=0
def tw18011526245712313658:=0
def tw1988747598988662756:=0
def tw4163824356962520860:=0
def tw14916443707797601410:=0
def tw12037057125023179962:=0
def tw1910986211405160269:=0
def tw16405805514441900198:=0
def tw12910947671730407625:=0
def tw6094218497865884087:=0
def tw9297688996207159842:=0
def tw9172416988114968070:=0
def tw16671045743974483801:=0
def tw9622255815937202816:=0
def tw11098561951915588369:=0
def tw1540308700488194559:=0
def tw14929119696017352346:=0
def tw8648767676446262013:=0
def tw15678067939595451472:=0
def tw15673679533173927642:=0
def tw1903704815944018458:=0
def tw16202132159139185133:=0
def tw2013721137397168374:=0
def tw9827376888992875210:=0
def tw8437042929002902132:=0
def tw6671276077352060587:=0
def tw8856815311547099790:=0
def tw4273933446078827106:=0
def tw8006517740524639515:=0
def tw3495301182587621796:=0
def tw1378441259863263683:=0
def tw13399156423902281100:=0
def tw2247055024309482256:=0
def tw10980513823615641489:=0
def tw11023598140978416615:=0
def tw9137225855831664077:=0
def tw5555495938158738408:=0
def tw9780430925727464830:=0
def tw5319044863370663115:=0
def tw11297023545392440888:=0
def tw8736962816792696344:=0
def tw4327223875856040475:=0
def tw16762138735646096296:=0
def tw4594858036652185100:=0
def tw11859318733929265003:=0
def tw7803579470298640347:=0
def tw10410024802791123551:=0
def tw10473957720652800482:=0
def tw7562177876543587651:=0
def tw16490037490443370792:=0
def tw13725779061034061554:=0
def tw1902796404045316715:=0
def tw6848492240176940477:=0
def tw6694330898222201075:=0
def tw1677672214708363826:=0
def tw16286577534487317567:=0
def tw3916875236435799965:=0
def tw3110592332421800644:=0
def tw15182709840590409580:=0
def tw4034755429637912579:=0
def tw9044369766929965183:=0
def tw13018760515064014523:=0
def tw7421105777932100767:=0
def tw16371600780894948242:=0
def tw3027529516155845645:=0
def tw1072357037066410448:=0
def tw14613629696004174068:=0
def tw6690927968792089738:=0
def tw15976326644003983160:=0
def tw14172286825322944384:=0
def tw11546449020597158114:=0
def tw6218330591971171865:=0
def tw16605550974273951982:=0
def tw1920348598741343617:=0
def tw10832565517638794603:=0
def tw15730065944381948237:=0
def tw8810972786845291002:=0
def tw4230523358773072134:=0
def tw8617297631489467011:=0
def tw13011807929625686575:=0
def tw1355865311126936539:=0
def tw4918826176054371996:=0
def tw216370891114689963:=0
def tw15933061812162416076:=0
def tw509846495574100992:=0
def tw17637368843238145648:=0
def tw11217667985748344399:=0
def tw5889547106473363826:=0
def tw7102233439309573947:=0
def tw16240324589595057576:=0
def tw17758769760157485481:=0
def tw15672978316810344587:=0
def tw16016091481569792900:=0
def tw13293649992275345584:=0
def tw9270429294590204018:=0
def tw13130531014858257242:=0
def tw8791711356374252040:=0
def tw7254402486347230717:=0
def tw17654267354938540770:=0
def tw17731600460594288655:=0
def tw15579739333827252190:=0
def tw8170274196324230702:=0
def tw9179354080117286438:=0
def tw16106480147458822435:=0
def tw13071509577458249321:=0
def tw10991119899944189482:=0
def tw3315669359112174282:=0
def tw7052324619388108778:=0
def tw4377590080482333114:=0
def tw7958368811492413545:=0
def tw7406308786392204164:=0
def tw16368547431344433779:=0
def tw4482154931353914258:=0
def tw7079673311497734529:=0
def tw3378367314306073799:=0
def tw11396123593047372723:=0
def tw15528874165903045209:=0
def tw12411104099959037540:=0
def tw15417361993480651446:=0
def tw15423470317876822794:=0
def tw2395319086134828959:=0
def tw10120143084344250891:=0
def tw16814806977607234739:=0
def tw12114363482125128695:=0
def tw15207445673936586723:=0
def tw6153924162180743272:=0
def tw3112392507555082738:=0
def tw18016936096906703139:=0
def tw10291083783103768320:=0
def tw6341751666827687117:=0
def tw60411165231914634:=0
def tw16191786909387971017:=0
def tw17647136455587880601:=0
def tw17941199758163084578:=0
def tw2213044533848525348:=0
def tw13458769566053423217:=0
def tw2882948736493270468:=0
def tw17114869559238910490:=0
def tw134683109280767456:=0
def tw1061640547326059500:=0
def tw16088366874424420724:=0
def tw7630397356077145663:=0
def tw13003908762501495460:=0
def tw12440887480078740523:=0
def tw15784764773428300673:=0
def tw4163387709363375802:=0
def tw2219057816676425603:=0
def tw4656823130595985211:=0
def tw16408820173417406815:=0
def tw17285060152362494612:=0
def tw7766797389686137917:=0
def tw13582980514760639220:=0
def tw8829030504152707246:=0
def tw8804643185983305746:=0
def tw15409599933971602744:=0
def tw13894943401031355569:=0
def tw9038515077271583610:=0
def tw1422308017880468911:=0
def tw12343378470377009215:=0
def tw3295770215890846578:=0
def tw6519167735785834950:=0
def tw8459283213140899559:=0
def tw6136879191217407339:=0
def tw13744920627563695706:=0
def tw6076614956517494956:=0
def tw6019681930836930851:=0
def tw2430507309056272673:=0
def tw5137001467495975635:=0
def tw7673734861325589112:=0
def tw9697154559351002755:=0
def tw18065833243789117553:=0
def tw15954828649073639483:=0
def tw3960062782795596041:=0
def tw14048099393941938318:=0
def tw13555135679828030014:=0
def tw612158247183522339:=0
def tw14078246567214518994:=0
def tw948023946563660950:=0
def tw11406507902557050600:=0
def tw1733331723365864153:=0
def tw14092798992635704392:=0
def tw11963519819056793998:=0
def tw2575572948079428996:=0
def tw13668604350922733695:=0
def tw9649449953518232941:=0
def tw16611689256379442198:=0
def tw13348845099819218269:=0
def tw11500398166851676518:=0
def tw7456387873891274384:=0
def tw11613899953320230305:=0
def tw5045431435893519299:=0
def tw1898328574887657354:=0
def tw8930965109379146026:=0
def tw15802210580712223280:=0
def tw969957313567228108:=0
def tw4439672006770823510:=0
def tw14985195413729055106:=0
def tw1391354866536242520:=0
def tw4392703177481991384:=0
def tw15681556706710369084:=0
def tw10564792573473397613:=0
def tw15111013506863090907:=0
def tw16972479192451031733:=0
def tw4563635123007520951:=0
def tw15629666626806739009:=0
def tw13226655112536255150:=0
def tw2648104686390285508:=0
def tw12342242205654177191:=0
def tw10209431175383829067:=0
def tw10223015488681861473:=0
def tw13679873026784832504:=0
def tw6209694864865957065:=0
def tw12250741926429505556:=0
def tw5878599994090792601:=0
def tw18126245525897875636:=0
def tw9596801568601136669:=0
def tw16547796601246299647:=0
def tw13376776403839319888:=0
def tw14188081397672771495:=0
def tw12289363656295795994:=0
def tw3963232746733590525:=0
def tw6476366327638388405:=0
def tw7996474448620244444:=0
def tw2082874932024742923:=0
def tw13707757698248156737:=0
def tw2484496008448687607:=0
def tw11912902669463792740:=0
def tw8647454756488575569:=0
def tw15972478963586129773:=0
def tw12652031600768537401:=0
def tw7852928957981428398:=0
def tw6843358963947563848:=0
def tw5642027898186716876:=0
def tw13289913954775756181:=0
def tw332679660488750215:=0
def tw6720385877687409434:=0
def tw7364312736467608081:=0
def tw2076255453478137209:=0
def tw16877748285792953886:=0
def tw16711859686813583313:=0
def tw16192514419146599613:=0
def tw5286485238358568716:=0
def tw15952769045370733203:=0
def tw6513290556081861728:=0
def tw752576314019229578:=0
def tw12027235048951642518:=0
def tw7437941744149191933:=0
def tw6060633352302196747:=0
def tw505019954121786298:=0
def tw4763032766433350375:=0
def tw2314650642149446707:=0
def tw18216479455571772827:=0
def tw8338274754135687193:=0
def tw4381521197378542023:=0
def tw4401148577295906330:=0
def tw15386042305395411877:=0
def tw2248239622635623688:=0
def tw5511248490851165173:=0
def tw12422380347699276974:=0
def tw8976108887818747104:=0
def tw9512766551529946595:=0
def tw9150309960322201878:=0
def tw16624218796018113315:=0
def tw17265665627177482610:=0
def tw2970431876470417561:=0
def tw2355356992481456568:=0
def tw2296695806416962247:=0
def tw11759514783302576177:=0
def tw8923257593768454280:=0
end PySem.W.Fast
open PySem PySem.W PyProof.Rows
local macro_rules | `(tactic| left) => `(tactic| (refine' Law.YS ?a ?b ?c ?d; (case a => k_is); (case b => k_is); (case c => k_is); (case d => k_is)))
local macro_rules | `(tactic| right) => `(tactic| (refine' Law.YR ?a ?b ?c ?d ?e; (case a => k_is); (case b => k_is); (case c => k_is); (case d => k_is); (case e => k_is)))
set_option maxHeartbeats 0 in
theorem PySem.Challenge.cw_nolitter_k71_whole_back_through_all_holds : PySem.Challenge.rw_nolitter_k71_whole_back_through_all.Holds := by
 w_on; o_law; k_head; (case hw => w_witness2)
 k_fill
 refine Law.walk (l := PySem.Challenge.rw_nolitter_k71_whole_back_through_all) rfl rfl (fun w h Y => PySem.W.kIn_of Y) ?L ?F
 case L => exact fun w => rfl
 case F =>
  intro w mg fa h KX G O_
  refine' Law.BA KX G ..
  all_goals try (refine @id (_ : Prop) ?_; first | left | right | k_is | exact rfl)
