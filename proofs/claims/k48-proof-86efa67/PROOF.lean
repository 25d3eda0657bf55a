import PyProof.Rows.All
import Wide.All
import OpenK.AllK
import Wide.FinOn
import Lean
import PyProof.EqAt
import PyProof.EqKinds
import PyProof.TupleCall
import PyProof.NeKinds
import PyProof.Rows.SeqMore
import PyProof.FactsAll.tuple_2
import KE.KDictOf
import PyProof.ExcInit
import PyProof.ExcClass3
import PyProof.NsDelKeeps
import PyProof.RulesAs
import PyProof.Rows.CountFlat
import PyProof.AutoListH
import KE.KIntText
import PyProof.Rows.CatFin
import PyProof.Rows.Range3
import PyProof.Rows.CallKwBuiltin
import PyProof.NoPylong
import PyProof.EnumMake
import PyProof.Draws
import PyProof.DictWalks
import PyProof.DictUpdate
import PySem.Challenge.RW_nolitter_k48_costs_are_steps
set_option Elab.async false
set_option linter.all false
set_option maxRecDepth 100000
set_option maxHeartbeats 4000000
local macro_rules | `(tactic| decide) => `(tactic| decide +kernel)
open Array renaming length_toList->K8,forIn_toList->X6,getElem?_toList->Y3,getElem?_eq_getElem->A76,size_append->VR,toList_append->B56,append_assoc->B65,toList->Vp
open Bool renaming false_ne_true->D2,false_eq_true->L1,and_eq_true->N8,eq_iff_iff->T9,not_true->U5,false_or->Z8,not_false->V_,or_false->MM,true_or->MD,or_true->Mz,and_true->Vv
open False renaming elim->Q3
open ForInStep renaming yield->U0
open Int renaming toNat_natCast->Q4,mul_le_mul_of_nonneg_left->X5,emod_lt_of_pos->X8,fdiv_eq_ediv_of_nonneg->Y5,emod_nonneg->JJ,fmod_eq_emod_of_nonneg->A63,le_of_lt->MA,ediv_nonneg->VA,mul_one->Mu,one_mul->Ms,mul_add->Mr,natCast_nonneg->B67,mul_comm->C66,ne_of_gt->C67,mul_sub->C83,neg_mul->C84
open List renaming length_map->B0,length_append->B4,getElem?_eq_getElem->B7,map_append->B9,map_cons->C0,length_cons->C1,mem_cons_of_mem->C7,replicate->D0,range->D1,mem_cons_self->D3,eq_nil_of_length_eq_zero->D7,length_range->D9,append_assoc->E2,append_nil->E4,size_toArray->E5,mem_cons->E6,getElem?_append_right->E8,getElem?_map->F0,lookup_cons->F6,getElem?_append_left->F8,length->F9,getD_eq_getElem?_getD->J0,lookup->J4,length_set->J5,nil_append->J6,cons_append->J7,mem_singleton->J9,mem_range->K0,mem_append->K1,mem_map->K2,replicate_succ->K3,mem_of_getElem?->K4,map_congr_left->K9,map_map->L5,mem_append_right->L8,getElem?_eq_none->L9,getElem?_eq_some_iff->M4,find?_cons->M5,flatten_cons->M6,all_eq_true->M9,getElem_mem->N0,sum_cons->N1,drop_eq_getElem_cons->N5,not_mem_nil->O0,length_nil->O8,nodup_cons->O9,any_cons->P0,lookup_nil->P1,zip_cons_cons->P8,length_reverse->Q9,range_succ->R0,length_replicate->R4,getElem?_cons_succ->R9,drop_eq_nil_of_le->U2,all_cons->U6,length_singleton->U8,getElem?_zip_eq_some->V0,any_eq_false->V4,set_append_left->V5,flatten_replicate_singleton->V6,sum_append->Y0,map_nil->Z0,filterMap_cons->Z4,getElem?_range->Z5,forIn_cons->JL,length_zip->JK,find?_eq_none->Na,getElem?_replicate->Wr,getElem?_set_self->Wn,reverse_cons->M_,nodup_append->MZ,getElem?_reverse->Wi,length_take->MX,filter_cons->MW,length_drop->MV,getElem?_set_ne->Wd,mem_iff_getElem->Wc,forall_mem_cons->Wa,set_set->JF,forIn_nil->MP,filter_append->VX,getElem?_eq_none_iff->A73,mem_or_eq_of_mem_set->A75,find?_append->VQ,set_comm->ML,filter_cons_of_neg->B03,filter_cons_of_pos->B04,length_eq_zero_iff->B05,map_reverse->VJ,take_of_length_le->B17,length_pos_of_mem->B23,of_mem_zip->VG,foldl_cons->VD,length_filter_le->B37,eq_nil_or_concat->B40,concat_eq_append->B41,mem_append_left->B42,mapM_cons->Vy,mem_filterMap->B66,filterMap_map->B68,set_cons_succ->B74,map_replicate->B75,getElem?_set->B86,pairwise_map->B88,mem_reverse->B97,zipIdx_cons->B98,drop_length->B99,mem_filter->C10,zipIdx_nil->C15,zip_append->C16,filter_nil->C17,zip->Mg,foldl->Va,drop_zero->C21,nodup_nil->C24,map_drop->C58,map_set->C65,sum_nil->C69,map->D17
open List.Pairwise renaming nil->D06
open List.cons renaming injEq->V1,inj->W2
open List.range renaming loop->D16
open Nat renaming le_refl->B8,lt_of_le_of_lt->C8,lt_of_lt_of_le->C9,le_trans->D6,ne_of_lt->I0,zero_le->J8,add_assoc->K5,add_sub_cancel->K7,zero_add->L0,mul_le_mul_right->N4,le_of_lt->O2,le_of_ble_eq_true->P5,add_comm->P7,le_add_right->Q2,sub_self->U4,testBit_two_pow->W6,lt_succ_self->W7,le_succ->X4,ne_of_gt->X7,lt_irrefl->Y1,eq_of_testBit_eq->Y7,add_sub_cancel_left->Wo,succ_mul->Cy,lt_or_ge->Cw,le_of_lt_succ->MY,testBit_zero->MU,pow_le_pow_right->Wb,sub_zero->JE,add_right_comm->VY,mul_le_mul->MO,pos_of_ne_zero->VW,mul_comm->MC,min_self->MB,add_zero->My,testBit_xor->VC,min_eq_left->VB,lt_of_succ_lt->B80,lt_trans->Vm,le_of_not_lt->B93,mod_eq_of_lt->C00,testBit_and->C13,xor_div_two->C14,testBit_or->C23,le_of_eq->C64,pow_succ->C68,log2_lt->C82,mod_lt->D04
open Nat.succ renaming inj->O4
open Ne renaming symm->D8
open Option renaming map_eq_some_iff->E9,isSome_map->VS,bind_eq_some_iff->B00,bind_some->B02,isNone_none->B73,getD_none->B94,getD_some->B95
open Option.some renaming inj->E7,injEq->D07
open Or renaming inr->yL,inl->AK
open Prod renaming ext->yP
open Prod.mk renaming injEq->C44
open PyProof renaming noPylong_of_log2->A86
open PyProof.Rows renaming callWith_type1->J1,slot_tuple_getitem->W4,IntsAre->u_,AllBare->xu,subscriptTail->MJ,boot_range->Jv,Subscript_->Mm,callWith_builtin1->B92,assign_Tuple->C42,tail_any->US,envOfC->C98
open PySem renaming wpAny_bind->B5,wpAny_pure->C2,starEach->C5,Spec->E1,NameKind->F7,mainGlobals->J2,wpAny_field->L4,binaryOp->M0,wpAny_seqItems->M7,wpAny_holding->M8,wpAny_Call_Name_kw->N6,attributeBase->O1,compareOp->O6,wpAny_callSpecial?_slot->O7,wpAny_call_entry->P3,keywordEach->P4,wpAny_setField_rec->Q1,sysModules->Q5,bootBuiltins->Q6,wpAny_mono->Q7,mem_of_lookup->Q8,assignEach->R5,wpAny_truthy_bool->T6,wpAny_newObj_type->T7,wpAny_pyIter_list->T8,swapsWith->V2,wpAny_passesOwn->V3,foldedSetIterable->V7,backToKw->V8,wpAny_pyIter_tuple->X9,sliceBounds->Y9,wpAny_isInstance->Z1,behindInMarks->CA,ZipApart->ur,wpAny_specialOf->JI,codeAny->rj,getattributeRaised->M',FuncData->vf,wpAny_typeOf->Cv,isSubtype_tuple_tuple->Wg,builtinLookup_eq_fast->Wf,wpAny_forIn_list->MT,wpAny_rule->AS,getMethod->yQ,call_meets->AR,wpAny_updateSeq_pair->V',wpAny_execs_nil->MS,letOwnedTupleGo->MR,codeAny_builtin->MQ,standAt->vd,call_meetsIn->JD,inplaceOp->AQ,wpAny_tupleItemsOf->VU,tupleKind_room_in1->VT,wpAny_Call_method->VP,slot_list_getitem->VO,wpAny_standAt->MK,wpAny_onRaise->MI,wpAny_attempt->MH,plainId_quiet->MG,tupleKind->Cq,PassesOwn->ME,noFill_tuple_add->VI,wpAny_pyIter_zip->VH,codeAny_mono->Mx,valueAt->yN,getItem->yM,typeLookup->Ju,typeLookup_type->Vz,IsRangeIter->Mq,callWith->Cp,wpAny_tryCatch->Vx,BindsTo->AO,callerA->AL,rangeSize_one->Vu,seq_tuple_add->Vt,evalPart_none->Vs,nums_intItems->Vr,builtinsNs->Mn,typeIs_str->Ml,Within->Vq,unaryOp->Co,concat_meets->Vk,seqIndex_neg->Vj,eqIsQuiet->Mi,slicePick->Mh,sizeLine_eq->Vd,seqIndex_of->Vc,wpAny_letGo->Vb,call->U',isInstance->U_,wpAny_Name->UZ,bindArgs->Mf,typeIs_int->UY,numAt_eq->Me,getAttr?->Md,storeName->UX,small_one->UW,DictEntry->C61,cellsFrom->UU,setItem->Mc,IsRange->C71,storedH->Mb,compEnvC->UR,intItems->UQ,Fin->D11
open PySem.Around renaming under_plainId->Y8,under->Vo
open PySem.AutoListH renaming list___mul___list_int_3->B79
open PySem.Builtin renaming bitAnd->R7,bitNot->U7,bitXor->JH,bitOr->JG
open PySem.Builtin.Dict renaming updateFrom->W9,pairItems->Wl,selfAndRest->A88
open PySem.Builtin.List renaming listTooLong->W1
open PySem.Builtin.Range renaming rangeSize->O5,rangeFitsLong->A54,small->B55
open PySem.Builtin.Slice renaming slicePlaces->U9,sliceAdjust->Z3,sliceApplied->A64,slicePartIndex->C11,sliceFields->C41
open PySem.Builtin.SmallTypes renaming nextOf->K6,ownedTupleIsFree->L6,ownedTupleHandOut->Z7
open PySem.Builtin.Str renaming tooLong->Z6,glued->D09
open PySem.Builtin.Tuple renaming tupleExact->W0,tupleHashOf->Z2,tupleItemsOf->A60
open PySem.Calls renaming spliced_cons->Q0,spliced_nil->R8,callWith_builtin->U1,evalArgs_plain->Y6,Name_function_global->A62
open PySem.Challenge renaming pw_nolitter_k48_costs_are_steps->A79
open PySem.Code renaming isFrame->Vn,frames->C77
open PySem.Data renaming cell->Cr,fields->Mw,seq->UT
open PySem.DictEntry renaming refKey->D12
open PySem.EqMixed renaming eq_bool_str->C34,eq_str_bool->C35,ne_bool_str->C39,ne_str_bool->C40,eq_int_str->C48,eq_str_int->C50,ne_int_str->C54,ne_str_int->C56
open PySem.EqNone renaming eq_none_none->C31,eq_none_bool->C32,eq_bool_none->C33,ne_none_none->C36,ne_none_bool->C37,ne_bool_none->C38,eq_none_int->C45,eq_none_str->C46,eq_int_none->C47,eq_str_none->C49,ne_none_int->C51,ne_none_str->C52,ne_int_none->C53,ne_str_none->C55
open PySem.F renaming plainAttrs_dict->W8,args_tuple_add_2->Z9,entry_tuple_add->Wq,slot_tuple_add->Wm,slot_dict_get->Wj,slot_dict_getitem->A74,slot_dict_update->A89,slot_dict_values->A90,args_dict_get_3->A99,plainAttrs_list->B01,entry_dict_get->B12,slot_dict_pop->B38
open PySem.Heap renaming get?_push_of_some->B6,get?_push_size->D4,lt_size->D5,size_push->N7,SameBut->R6,get?_update_other->B14,get?_update_self->B39,IsTuple->Vl,IsList->Ve,ExtBut->C85
open PySem.Heap.DictOf renaming new->VF
open PySem.Heap.IsSliceOf renaming new->B69
open PySem.Heap.SameBut renaming update->B54,refl->D10
open PySem.IsL renaming update->D13
open PySem.IsRange renaming new->Mt
open PySem.NameKind renaming free->F5,cell->P6
open PySem.Obj renaming mapSeq->Jx,data_mapFields->B72
open PySem.Paired renaming length->MN,snoc->Vf
open PySem.PassesOwn renaming never->C12
open PySem.SeqAt renaming EqAt->Jw
open PySem.SeqAt.EqAt renaming of_refs->VZ,same->VE,int_str->B63,str_int->B64,none_bool->C78,bool_none->C79,bool_bool->C80,none_int->C89,none_str->C90,bool_int->C91,bool_str->C92,int_none->C93,int_bool->C94,str_none->C95,str_bool->C96,int_int->D00,str_str->D01
open PySem.SeqAt.RcAt renaming lists_lengths->C57,tuples->D08,lists->D15
open PySem.SeqAt.RcNeAt renaming lists_lengths->C22,tuples->C97,lists->D03
open PySem.Shared renaming heap->Cu
open PySem.Str renaming ofString->C4,empty->Y2,ofString_eq_toList->B19,length->Mp
open PySem.Value renaming ref->F4,none->V9,bool->Y4,int->Ct,str->Cs,builtin->Vw,float->Vg,isStrOf->C43,isInt->C74,bytes->C75,type->C99
open PySem.W renaming Frag->C63,OpenLaw->Ma
open PySem.W.WData renaming int->D14
open PySem.W.WShape renaming has->D02
open PySem.Walks renaming range->C76
open PySem.Within renaming cons->D05
open String renaming reduceEq->C6
open Sum renaming inl->L7,inr->W5
open Sum.inl renaming inj->Vh
open True renaming intro->P9
local macro_rules | `(tactic| omega) => `(tactic| lia)
local macro_rules | `(()) => `(by omega)
local macro_rules | `(∅) => `(by decide)
set_option hygiene false in
local macro_rules | `(tactic| simp? [$xs,*]) => `(tactic| (simp! [$xs,*]; repeat (simp only [Go]; simp! [$xs,*])))
set_option hygiene false in
local macro_rules | `(tactic| simp?) => `(tactic| simp? [id]) | `(tactic| simp!) => `(tactic| simp! [id]) | `(tactic| dsimp!) => `(tactic| dsimp! [id])
set_option hygiene false in
local macro_rules | `($n <* $f <* $s) => `(Ok P w mg base $n $f $s)
set_option hygiene false in
local macro_rules | `(¬$n:num) => `(bR bQ (ev $n) aA)
local macro_rules | `(#[]) => `(⟨⟩) | `(#[$xs,*]) => `(⟨$xs,*⟩)
noncomputable section
namespace L2
open PySem PySem.Spec PyProof.Rows
abbrev Key:=Sum Int Str
def Bd:Key->Value->Bool
 | .inl k,v=>C74 k v
 | .inr x,v=>C43 x v
def SA(w:World):Key->Int
 | .inl k=>hashInt k
 | .inr x=>hashStr w x
theorem uG:∀{k:Key} {v:Value},Bd k v=true->(∃i t,k=L7 i/\v=Ct i t)\/(∃x t,k=W5 x/\v=Cs x t)
 | .inl i,v,h=>by
  obtain⟨t,e⟩:=Value.isInt_shape (k:=i) (v:=v) h;exact .inl #[i,t,rfl,e]
 | .inr x,v,h=>by
  obtain⟨t,e⟩:=Value.isStrOf_shape (x:=x) (v:=v) h;exact .inr #[x,t,rfl,e]
theorem vd3(i:Int)(t:Tok):Bd (.inl i) (.int i t)=true:=by simp[Bd,C74]
theorem vd2(x:Str)(t:Tok):Bd (.inr x) (.str x t)=true:=by simp[Bd,C43]
theorem wz3(a b:Int):decide ((L7 a:Key)=L7 b)=(a==b):=by
 by_cases e:a=b
 ·subst e;simp
 ·have h:¬ (L7 a:Key)=L7 b:=λq=>e (Vh q)
  rw[decide_eq_false h];exact(beq_eq_false_iff_ne.mpr e).symm
theorem wz0(a b:Str):decide ((W5 a:Key)=W5 b)=decide (a=b):=by
 by_cases e:a=b
 ·subst e;simp
 ·have h:¬ (W5 a:Key)=W5 b:=λq=>e (W5.inj q)
  rw[decide_eq_false h,decide_eq_false e]
theorem wz2(a:Int)(b:Str):decide ((L7 a:Key)=W5 b)=false:=decide_eq_false (λq=>nomatch q)
theorem wz1(a:Str)(b:Int):decide ((W5 a:Key)=L7 b)=false:=decide_eq_false (λq=>nomatch q)
def dX(prog:Program)(w:World):PySem.KeyKind prog w Key where
 is:=Bd
 hash:=SA w
 inj:=λv a b ha hb=>by
  rcases uG ha with⟨i,t,rfl,rfl⟩|⟨x,t,rfl,rfl⟩
  ·rcases uG hb with⟨j,u,rfl,e⟩|⟨y,u,rfl,e⟩
   ·injection e with e1 _;rw[e1]
   ·exact nomatch e
  ·rcases uG hb with⟨j,u,rfl,e⟩|⟨y,u,rfl,e⟩
   ·exact nomatch e
   ·injection e with e1 _;rw[e1]
 byValue:=λk v h=>by
  rcases uG h with⟨i,t,rfl,rfl⟩|⟨x,t,rfl,rfl⟩ <;> rfl
 pyHash:=λhv h=>by
  rcases uG hv with⟨i,t,rfl,rfl⟩|⟨x,t,rfl,rfl⟩
  ·exact wpAny_pyHash_int h
  ·exact wpAny_pyHash_str h
 eqBool:=λhu hv h=>by
  rcases uG hu with⟨i,t,rfl,rfl⟩|⟨x,t,rfl,rfl⟩
  ·rcases uG hv with⟨j,u,rfl,rfl⟩|⟨y,u,rfl,rfl⟩
   ·rw[wz3] at h;exact wpAny_eqBool_int h
   ·rw[wz2] at h;exact B63 i t y u _ _ _ _ h
  ·rcases uG hv with⟨j,u,rfl,rfl⟩|⟨y,u,rfl,rfl⟩
   ·rw[wz1] at h;exact B64 x t j u _ _ _ _ h
   ·rw[wz0] at h;exact wpAny_eqBool_str h
 «strs»:=λk x t v h=>by
  rcases uG h with⟨i,u,rfl,e⟩|⟨y,u,rfl,e⟩
  ·exact nomatch e
  ·injection e with e1 _
   subst e1;cases v <;> rfl
theorem uu4(prog:Program)(w:World)(i:Int)(t:Tok):(dX prog w).is (.inl i) (.int i t)=true:=vd3 i t
theorem uu3(prog:Program)(w:World)(x:Str)(t:Tok):(dX prog w).is (.inr x) (.str x t)=true:=vd2 x t
inductive V where
 | non|bl (b:Bool)|int (i:Int)|str (x:Str)|rN (b:Array UInt8)|uV (b:UInt64)|ref (a:Addr)|ty (n:String)
 deriving DecidableEq
def RelV:V->Value->Prop
 | .non,u=>u=V9
 | .bl b,u=>u=Y4 b
 | .int i,u=>∃t,u=Ct i t
 | .str x,u=>∃t,u=Cs x t
 | .rN b,u=>∃t,u=C75 b t
 | .uV b,u=>∃t,u=Vg b t
 | .ref a,u=>u=F4 a
 | .ty n,u=>u=C99 n
abbrev Vals:List V->List Value->Prop:=Paired RelV
theorem Vals.length{xs:List V}{us:List Value}(r:Vals xs us):xs.length=us.length:=MN r
theorem Vals.get:∀{xs:List V} {us:List Value} {i:Nat} {x:V},Vals xs us->xs[i]?=some x->∃u,us[i]?=some u/\RelV x u
 | _,_,_,_,.nil,e=>by simp at e
 | _,_,0,_,.cons r _,e=>by simp at e;subst e;exact#[_,rfl,r]
 | _,_,i+1,x,.cons _ t,e=>by
  obtain⟨u,h1,h2⟩:=Vals.get (i:=i) (x:=x) t (by simpa using e);exact#[u,by simpa using h1,h2]
theorem Vals.set(r:RelV x u):∀{xs:List V} {us:List Value} (i:Nat),Vals xs us->Vals (xs.set i x) (us.set i u)
 | _,_,_,.nil=>.nil
 | _,_,0,.cons _ t=>.cons r t
 | _,_,i+1,.cons q t=>.cons q (Vals.set r i t)
theorem Vals.append:∀{xs ys:List V} {us ws:List Value},Vals xs us->Vals ys ws->Vals (xs++ys) (us++ws)
 | _,_,_,_,.nil,s=>s
 | _,_,_,_,.cons r t,s=>.cons r (Vals.append t s)
theorem Vals.take:∀{xs:List V} {us:List Value} (n:Nat),Vals xs us->Vals (xs.take n) (us.take n)
 | _,_,0,_=>.nil
 | _,_,_+1,.nil=>.nil
 | _,_,n+1,.cons r t=>.cons r (Vals.take n t)
theorem Vals.drop:∀{xs:List V} {us:List Value} (n:Nat),Vals xs us->Vals (xs.drop n) (us.drop n)
 | _,_,0,r=>r
 | _,_,_+1,.nil=>.nil
 | _,_,n+1,.cons _ t=>Vals.drop n t
theorem Vals.none_of:∀{xs:List V} {us:List Value} {i:Nat},Vals xs us->xs[i]?=none->us[i]?=none:=λ{xs us i} r e=>by
 have h1:=r.length;have h2:xs.length<=i:=A73.mp e;exact A73.mpr ()
def dw:Option V->Option Value->Prop
 | some v,some u=>RelV v u
 | none,none=>True
 | _,_=>False
def KV{κ:Type}:List (κ×V)->List (κ×Value)->Prop:=Paired λ(p:κ×V) (q:κ×Value)=>p.1=q.1/\RelV p.2 q.2
def kV:Key->V
 | .inl i=>.int i
 | .inr x=>.str x
section
variable{prog:Program}{w:World}{K:Type}[DecidableEq K](knd:KeyKind prog w K)
def ck(h:Heap)(q:List K×List K)(a:Addr):Prop:=∃o items n b vs,h.get? a=some o/\o.cls=.type "tuple" /\ o.data=.seq items n/\items.toList=F4 b::vs/\IsTupleKey knd h q.1 b/\ItemsAre knd q.2 vs
def QO(q:List K×List K):Int:=reduceHash (Z2 (tupleKeyHash knd q.1::q.2.map knd.hash))
variable{knd}
theorem ck.typeIs{s:Shared}{q:List K×List K}{a:Addr}(x:ck knd s.heap q a):s.TypeIs (.ref a) "tuple" := let ⟨o,_,_,_,_,ho,hc,_⟩:=x;#[o,ho,hc]
theorem ck.inj{h:Heap}{a:Addr}{x y:List K×List K}(hx:ck knd h x a)(hy:ck knd h y a):x=y:=by
 obtain⟨o,items,n,b,vs,ho,_,hd,hl,h1,h2⟩:=hx;obtain⟨o',SM,n',b',YL,kS,_,jy,kT,kX,qS⟩:=hy;obtain rfl:o=o':=E7 (ho.symm.trans kS);rw[hd] at jy;injection jy with e _
 subst e;rw[hl] at kT;cases kT;exact yP (h1.inj kX) (h2.inj qS)
theorem ck.keeps{es ep}(x:ck knd h q a)(ho:h.get? d=some o)(hd:o.data=.dict es ep)(hs:R6 d h h'):ck knd h' q a:=by
 obtain⟨o',items,n,b,vs,kS,hc,jy,hl,h1,h2⟩:=x;have eC:a≠d:=by
  rintro rfl;obtain rfl:o'=o:=E7 (kS.symm.trans ho);rw[hd] at jy;exact nomatch jy
 exact#[o',items,n,b,vs,(hs.2 a eC).trans kS,hc,jy,hl,h1.keeps ho hd hs,h2]
variable{A:Around}{E:Value->Shared->Prop}{s:Shared}
theorem ud1(hu:A.units+1<cLine)(hk:ck knd s.heap q a)(h:Q (QO knd q) { s with toks:=s.toks+(q.1.length+1+q.2.length+1)}) :
  wpAny (model prog w) A (pyHash (.ref a)) Q E s:=by
 have hT:=hk.typeIs;obtain⟨m,ks⟩:=q;obtain⟨o,items,n,b,vs,ho,_,hd,hl,hm,hi⟩:=hk;unfold pyHash
 first|unfold pyHashByItsType|skip
 first|refine B5 (wpAny_cRoomFor_or (.inr (B80 hu)) ?_)|skip
 refine B5 (JI hT F.slot_tuple_hash.lookup ?_)
 show wpAny _ _ (if(some (Vw "tuple.__hash__")==some V9)=true then _ else _) Q E s
 rw[if_neg (by rw[beq_builtin_none];exact D2)];refine B5 (JI hT F.slot_tuple_hash.lookup ?_)
 show wpAny _ _ (callSpecialIfBoundUnlessNone? (.ref a) "__hash__" _ >>= _) Q E s
 refine B5 (wpAny_callSpecialIfBoundUnlessNone?_slot hT F.slot_tuple_hash (P3 F.slot_tuple_hash hT F.entry_tuple_hash ?_ (F.args_tuple_hash_1 _)))
 show wpAny _ _ (A60 (.ref a) >>= _) _ _ s
 refine B5 (VU ho hd ?_);refine B5 ?_;rw[<- X6];refine MT _
  (λrest (r:Array Int) s'=>(rest=F4 b::vs/\r.toList=[]/\s'=s)\/∃done left,ks=done++left/\ItemsAre knd left rest/\r.toList=tupleKeyHash knd m::done.map knd.hash/\s'={ s with toks:=s.toks+(m.length+1)+done.length})
  _ ?_ ?_ _ _ (.inl ⟨hl,rfl,rfl⟩)
 ·rintro x rest r s' (⟨e,hr,rfl⟩|⟨done,left,rfl,hl,hb,rfl⟩)
  ·cases e
   refine B5 (wpAny_pyHash_tuple (knd:=knd) hu hm ?_)
   first
    | exact C2 (.inr ⟨[],ks,rfl,hi,by simp[hr],rfl⟩)
    | exact B5 (C2 (C2 (.inr ⟨[],ks,rfl,hi,by simp[hr],rfl⟩)))
  ·cases hl with
   | @cons k _ wc _ h1 kT =>
    refine B5 (knd.pyHash h1 ?_)
    first
     | exact C2 (.inr ⟨done++[k],wc,by simp,kT,by simp[hb],by simp[K5]⟩)
     | exact B5 (C2 (C2 (.inr ⟨done++[k],wc,by simp,kT,by simp[hb],by simp[K5]⟩)))
 ·rintro r s' (⟨e,_,_⟩|⟨done,left,rfl,hl,hb,rfl⟩)
  ·cases e
  ·cases hl
   rw[E4] at h
   show wpAny _ _ (retInt (Z2 r.toList)) _ _ _
   rw[hb];refine wpAny_ret_mkInt ?_;generalize hN:Z2 (tupleKeyHash knd m::done.map knd.hash)=N
   show wpAny _ _ (if(decide (-(2:Int)^63<=N)&&decide (N<2^63))=true then _ else _) Q E _
   unfold QO reduceHash at h;rw[hN] at h
   by_cases hr:(decide (-(2:Int)^63<=N)&&decide (N<2^63))=true
   ·rw[if_pos hr]
    rw[if_pos hr] at h;exact C2 (by simpa[K5] using h)
   ·rw[if_neg hr]
    rw[if_neg hr] at h;exact B5 (AS (C2 (by simpa[K5] using h)))
theorem ur2{P:D11->Shared->Prop}(hu:A.units<cLine)(hx:ck knd s.heap x a)(hy:ck knd s.heap y b)(h:P (.done (.ret (.bool (decide (x=y))))) s) :
  wpAny (model prog w) A (Builtin.«tuple.__eq__» #[[.ref a,.ref b],[]]) P E s:=by
 have hTb:=hy.typeIs;obtain⟨m,ks⟩:=x;obtain⟨m',wc⟩:=y;obtain⟨oa,xs,na,ba,va,hoa,_,hda,hla,hma,hia⟩:=hx;obtain⟨ob,ys,nb,bb,vb,hob,_,gR,hlb,hmb,hib⟩:=hy
 show wpAny _ _ (U_ (.ref b) (.type "tuple") >>= _) _ _ s
 refine B5 (Z1 hTb Wg ?_);simp only[U5,L1,if_false];refine B5 (VU hoa hda ?_);refine B5 (VU hob gR ?_);refine B5 ?_;have hz0:Mg xs.toList ys.toList=(F4 ba,F4 bb)::Mg va vb:=by rw[hla,hlb];rfl
 have hs0:(xs.size==ys.size)=(va.length==vb.length):=by
  have e1:xs.size=va.length+1:=by rw[<- K8,hla];rfl
  have e2:ys.size=vb.length+1:=by rw[<- K8,hlb];rfl
  rw[e1,e2];simp
 refine MT _
  (λrest r s'=>r.1=none/\s'=s/\(rest=(F4 ba,F4 bb)::Mg va vb\/∃x' y' rq xx,rest=Mg rq xx/\ItemsAre knd x' rq/\ItemsAre knd y' xx/\decide (x'=y')=decide ((m,ks)=(m',wc))/\(rq.length==xx.length)=(xs.size==ys.size)))
  _ ?_ ?_ _ _ #[rfl,rfl,.inl hz0]
 ·rintro⟨u,v⟩ rest r s' ⟨hr,rfl,e|⟨x',y',rq,xx,hz,iC,zP,wI,hlen⟩⟩
  ·cases e
   refine B5 (wpAny_eqBool_tuple (knd:=knd) hu hma hmb ?_)
   by_cases hk:m=m'
   ·subst hk
    rw[decide_eq_true rfl];simp only[U5,L1,if_false];refine C2 #[rfl,rfl,.inr #[ks,wc,va,vb,rfl,hia,hib,?_,hs0.symm]]
    by_cases FW:ks=wc
    ·simp[FW]
    ·simp[FW]
   ·rw[decide_eq_false hk]
    simp only[V_,if_true];have hf:decide ((m,ks)=(m',wc))=false:=by simp[hk]
    rw[hf] at h;exact B5 (C2 (C2 (C2 h)))
  ·cases iC with
   | nil=>simp at hz
   | @cons k1 u' WU Nz h1 SR =>
    cases zP with
    | nil=>simp at hz
    | @cons k2 v' Ws Nm h2 SQ =>
     simp only[P8,V1,C44] at hz;obtain⟨⟨rfl,rfl⟩,rfl⟩:=hz;refine B5 (knd.eqBool (a:=k1) (b:=k2) h1 h2 ?_)
     by_cases hk:k1=k2
     ·subst hk
      rw[decide_eq_true rfl];simp only[U5,L1,if_false];refine C2 #[rfl,rfl,.inr #[WU,Ws,Nz,Nm,rfl,SR,SQ,?_,by simpa using hlen]];rw[<- wI]
      by_cases FW:WU=Ws
      ·simp[FW]
      ·simp[FW]
     ·rw[decide_eq_false hk]
      simp only[V_,if_true];have hf:decide ((m,ks)=(m',wc))=false:=by rw[<- wI];simp[hk]
      rw[hf] at h;exact B5 (C2 (C2 (C2 h)))
 ·rintro⟨r1,r2⟩ s' ⟨hr,rfl,e|⟨x',y',rq,xx,hz,iC,zP,wI,hlen⟩⟩
  ·cases e
  ·simp only at hr
   subst hr;refine C2 ?_;have qR:(xs.size==ys.size)=decide ((m,ks)=(m',wc)):=by
    rw[<- wI,<- hlen];cases iC with
    | nil =>
     cases zP with
     | nil=>simp
     | cons _ _=>simp
    | cons _ _ =>
     cases zP with
     | nil=>simp
     | cons _ _=>simp at hz
   show P (.done (.ret (.bool (xs.size==ys.size)))) s'
   rw[qR];exact h
theorem ud2(hu:A.units+1<cLine)(hx:ck knd s.heap x a)(hy:ck knd s.heap y b)(h:Q (decide (x=y)) s) :
  wpAny (model prog w) A (eqBool (.ref a) (.ref b)) Q E s:=by
 unfold eqBool
 try with_reducible refine M8 ?_
 show wpAny _ _ (if(F4 a==F4 b)=true then _ else _) Q E s
 by_cases fX:(F4 a==F4 b)=true
 ·rw[if_pos fX]
  have e:a=b:=by have:=eq_of_beq fX;injection this
  subst e;obtain rfl:=hx.inj hy;exact B5 (AS (C2 (by simpa using h)))
 ·rw[if_neg fX]
  exact B5 (wpAny_richCompare_same_room (op:=.Eq) hx.typeIs hy.typeIs F.slot_tuple_eq
   (P3 F.slot_tuple_eq hx.typeIs F.entry_tuple_eq (ur2 hu hx hy #[_,rfl,(λe=>nomatch e),T6 h]) (F.args_tuple_eq_2 _ _)) (B80 hu))
theorem ud0(hk:IsTupleKey knd s.heap ks a)(h:Q true s):wpAny (model prog w) A (Mi (n+1) (.ref a)) Q E s:=by
 have hT:=hk.typeIs;obtain⟨o,items,n,ho,_,hd,hi⟩:=hk;unfold Mi;refine B5 (JI hT F.slot_tuple_eq.lookup ?_)
 show wpAny _ _ (U_ (.ref a) (.type "tuple") >>= _) _ _ s
 refine B5 (Z1 hT Wg ?_);simp only[U5,L1,if_false];refine B5 (M7 ho hd ?_);refine B5 ?_
 show wpAny _ _ (forIn items _ _) _ _ s
 rw[<- X6];refine MT _ (λrest r s'=>r.1=none/\s'=s/\∀v∈rest,carriedByValue v=true) _ ?_ ?_ _ _ #[rfl,rfl,hi.byValue]
 ·rintro v rest r s' ⟨hr,rfl,oZ⟩
  rw[eqIsQuiet_byValue _ (oZ v D3)];refine B5 (C2 ?_);simp only[U5,L1,if_false];exact C2 #[rfl,rfl,λu FY=>oZ u (C7 _ FY)]
 ·rintro⟨r1,r2⟩ s' ⟨hr,rfl,_⟩
  simp only at hr;subst hr;exact C2 h
theorem ue8(hk:ck knd s.heap q a)(h:Q true s):wpAny (model prog w) A (Mi 8 (.ref a)) Q E s:=by
 have hT:=hk.typeIs;obtain⟨o,items,n,b,vs,ho,_,hd,hl,hm,hi⟩:=hk;unfold Mi;refine B5 (JI hT F.slot_tuple_eq.lookup ?_)
 show wpAny _ _ (U_ (.ref a) (.type "tuple") >>= _) _ _ s
 refine B5 (Z1 hT Wg ?_);simp only[U5,L1,if_false];refine B5 (M7 ho hd ?_);refine B5 ?_
 show wpAny _ _ (forIn items _ _) _ _ s
 rw[<- X6];refine MT _ (λrest r s'=>r.1=none/\s'=s/\(rest=F4 b::vs\/∀v∈rest,carriedByValue v=true)) _ ?_ ?_ _ _ #[rfl,rfl,.inl hl]
 ·rintro v rest r s' ⟨hr,rfl,e|oZ⟩
  ·cases e
   refine B5 (ud0 (knd:=knd) hm ?_);simp only[U5,L1,if_false];exact C2 #[rfl,rfl,.inr hi.byValue]
  ·rw[eqIsQuiet_byValue _ (oZ v D3)]
   refine B5 (C2 ?_);simp only[U5,L1,if_false];exact C2 #[rfl,rfl,.inr λu FY=>oZ u (C7 _ FY)]
 ·rintro⟨r1,r2⟩ s' ⟨hr,rfl,_⟩
  simp only at hr;subst hr;exact C2 h
end
def zm{prog:Program}{w:World}{K:Type}[DecidableEq K](knd:KeyKind prog w K):HeapKind prog w (List K×List K) where
 is:=ck knd
 hash:=QO knd
 draws:=λq=>q.1.length+1+q.2.length+1
 room:=λA=>A.units+1<cLine
 inj:=λhx hy=>hx.inj hy
 keeps:=λx ho hd hs=>x.keeps ho hd hs
 pyHash:=λhu hk h=>ud1 hu hk h
 eqBool:=λhu hx hy h=>ud2 hu hx hy h
 quiet:=λhk h=>ue8 hk h
inductive HO where
 | lst (xs:List V)
 | tup (xs:List V)
 | dK (kvs:List (Key×V))|dT (kvs:List (List Key×V))
 | dN (K:W.Frag) (kvs:List ((List Key×List Key)×V))
 | set (S:Int->Bool) (n:Nat)
 | ins (C dx:Addr) (fs:List (Str×V))
 | own (x:Addr)
 | xd (fs:List (Str×V))
 | met (f x:Addr)
 | BI (lo hi:Int)
 | dg (o:Obj) (u:HO)
 | xR (ps:Array Value)
 | ext (φ:Heap->Prop)
abbrev Hp:=Addr->Option HO
def upd(H:Hp)(a:Addr)(o:HO):Hp:=λb=>if b=a then some o else H b
theorem f':upd H a o a=some o:=by unfold upd;rw[if_pos rfl]
theorem cq(h:b≠a):upd H a o b=H b:=by unfold upd;rw[if_neg h]
theorem NW{H:Hp}{a b:Addr}{o u:HO}(h:H a=some o)(h':H b=some u)(d:o≠u):a≠b:=by
 intro e;subst e;rw[h] at h';exact d (E7 h')
theorem vE{H:Hp}{a b:Addr}{o:HO}(h:H a=some o)(h':H b=none):a≠b:=by
 intro e;subst e;rw[h] at h';cases h'
def u6(K:W.Frag)(H:Hp)(a:Addr)(xs:List V):Prop:=H a=some (.tup xs)\/(∃o,H a=some (.dg o (.tup xs))) \/
 ∃(o:Obj) (its:Array Value) (n:Nat),K.lookup a=some o/\o.cls=.type "tuple" /\ o.data=.seq its n/\its.size<=sizeLine/\Vals xs its.toList/\o.dict=none
def ym(K:W.Frag)(H:Hp)(a:Addr)(q:List Key×List Key):Prop:=∃b,u6 K H a (.ref b::q.2.map kV)/\u6 K H b (q.1.map kV)
theorem u6.eN{K:W.Frag}{H H':Hp}{a:Addr}{xs:List V}(x:u6 K H a xs)(ht:∀b xs,H b=some (.tup xs)->H' b=some (.tup xs))(hf:∀b o xs,H b=some (.dg o (.tup xs))->H' b=some (.dg o (.tup xs))):u6 K H' a xs:=by
 rcases x with x|⟨o,x⟩|x
 ·exact .inl (ht _ _ x)
 ·exact .inr (.inl ⟨o,hf _ _ _ x⟩)
 ·exact .inr (.inr x)
section
variable(P:Program)(w:World)
def nE(h:Heap)(a:Addr)(its:Array Value):Prop:=∃o,h.get? a=some o/\o.cls=.type "tuple" /\ (∃n,o.data=.seq its n)/\o.dict=none
theorem nE.tup{h:Heap}{a:Addr}{its:Array Value}(x:nE h a its):IsTup h a its:=let ⟨o,e,c,d,_⟩:=x;#[o,e,c,d]
theorem nE.new(h:Heap)(its:Array Value):nE (h.push { cls:=.type "tuple",data:=.seq its}) h.objs.size its:=#[_,D4 _ rfl,rfl,#[_,rfl],rfl]
def bh(H:Hp)(h:Heap)(a:Addr):HO->Prop
 | .lst xs=>xs.length<=sizeLine/\∃(its:List Value) (n:Nat),Vals xs its/\h.get? a=some { cls:=.type "list",data:=.seq its.toArray n}
 | .tup xs=>xs.length<=sizeLine/\∃its:List Value,Vals xs its/\nE h a its.toArray
 | .dK kvs=>kvs.length<=sizeLine/\(a==Q5)=false/\∃vs,KV kvs vs/\h.DictOf (dX P w) a vs
 | .dT kvs=>kvs.length<=sizeLine/\(a==Q5)=false/\∃xs:List (List Key×Addr×Value),
   Paired (λ(p:List Key×V) (q:List Key×Addr×Value)=>p.1=q.1/\H q.2.1=some (.tup (p.1.map kV))/\RelV p.2 q.2.2) kvs xs /\
   ∃o es ep,h.get? a=some o/\o.ExactDict/\o.data=.dict es ep/\es.toList=xs.map (entryOfKey (Cq (dX P w)))/\(xs.map (·.1)).Nodup
 | .dN K kvs=>kvs.length<=sizeLine/\(a==Q5)=false/\∃xs:List ((List Key×List Key)×Addr×Value),
   Paired (λ(p:(List Key×List Key)×V) (q:(List Key×List Key)×Addr×Value)=>p.1=q.1/\ym K H q.2.1 p.1/\RelV p.2 q.2.2) kvs xs /\
   ∃o es ep,h.get? a=some o/\o.ExactDict/\o.data=.dict es ep/\es.toList=xs.map (entryOfKey (zm (dX P w)))/\(xs.map (·.1)).Nodup
 | .set S n=>h.SetOf (intKind P w) a S n
 | .ins C dx fs=>H dx=some (.own a)/\fs.length<=1000/\dx≠a/\h.get? a=some (W.instObj C dx) /\
   ∃mA,h.Ns1 dx mA/\(∀f,dw (fs.lookup f) (mA f))/\Vq mA (fs.map (·.1))
 | .own _=>∃o,h.get? a=some o
 | .xd fs=>∃mA,h.Ns1 a mA/\∀f,dw (fs.lookup f) (mA f)
 | .BI lo hi=>∃t u v,h.get? a=some { cls:=.type "range",data:=.fields [.int lo t,.int hi u,.int 1 v].toArray}
 | .dg o u=>h.get? a=some o/\bh H h a u
 | .xR ps=>h.get? a=some { cls:=.none,data:=.fields ps}
 | .met f x=>h.get? a=some (W.methodObj (.ref f) (.ref x))
 | .ext φ=>φ h/\(∃o,h.get? a=some o)/\∀h1 h2:Heap,φ h1->(∀o,h1.get? a=some o->h2.get? a=some o)->φ h2
def fR(H:Hp)(h:Heap):Prop:=∀a o,H a=some o->bh P w H h a o
end
section
variable{P:Program}{w:World}{H H':Hp}{h h':Heap}{a:Addr}{o:HO}
theorem bh.lt(x:bh P w H h a o):a<h.objs.size:=by
 cases o with
 | lst xs=>obtain⟨_,_,_,_,e⟩:=x;exact D5 e
 | tup xs=>obtain⟨_,_,_,p⟩:=x;exact p.tup.lt
 | dK kvs=>obtain⟨_,_,_,_,o,_,_,e,_⟩:=x;exact D5 e
 | dT kvs=>obtain⟨_,_,_,_,o,_,_,e,_⟩:=x;exact D5 e
 | dN K kvs=>obtain⟨_,_,_,_,o,_,_,e,_⟩:=x;exact D5 e
 | set S n=>obtain⟨o,_,_,_,e,_⟩:=x;exact D5 e
 | ins C dx fs=>obtain⟨_,_,_,e,_⟩:=x;exact D5 e
 | own y=>obtain⟨_,e⟩:=x;exact D5 e
 | xd fs=>obtain⟨_,⟨_,_,_,e,_⟩,_⟩:=x;exact D5 e
 | BI lo hi=>obtain⟨_,_,_,e⟩:=x;exact D5 e
 | dg ob u=>obtain⟨e,_⟩:=x;exact D5 e
 | xR ps=>exact D5 (show h.get? a=some _ from x)
 | met f y=>exact D5 (show h.get? a=some _ from x)
 | ext φ=>obtain⟨_,⟨_,e⟩,_⟩:=x;exact D5 e
theorem Paired.si{α β:Type}{F G:α->β->Prop}:∀{l₁:List α} {l₂:List β},Paired F l₁ l₂->(∀a b,F a b->G a b)->Paired G l₁ l₂
 | _,_,.nil,_=>.nil
 | _,_,.cons r t,f=>.cons (f _ _ r) (Paired.si t f)
theorem bh.eN(x:bh P w H h a o)(k:∀b u,(b=a\/H b=some (.own a))->h.get? b=some u->h'.get? b=some u)
  (ho:∀b,H b=some (.own a)->H' b=some (.own a)) (ht:∀b xs,H b=some (.tup xs)->H' b=some (.tup xs)) (hf:∀b o xs,H b=some (.dg o (.tup xs))->H' b=some (.dg o (.tup xs)):=by first|exact λ_ _ _ q=>q|exact λ_ _ _ q=>by rw[cq (vE q (by assumption))];exact q):bh P w H' h' a o:=by
 induction o with
 | lst xs=>obtain⟨z,its,n,r,e⟩:=x;exact#[z,its,n,r,k _ _ (.inl rfl) e]
 | tup xs=>obtain⟨z,its,r,ob,e,c⟩:=x;exact#[z,its,r,ob,k _ _ (.inl rfl) e,c]
 | dK kvs=>obtain⟨z,y,vs,r,ob,es,ep,e,c⟩:=x;exact#[z,y,vs,r,ob,es,ep,k _ _ (.inl rfl) e,c]
 | dT kvs =>
  obtain⟨z,y,xs,r,ob,es,ep,e,c⟩:=x;exact#[z,y,xs,Paired.si r λp q z=>#[z.1,ht _ _ z.2.1,z.2.2],ob,es,ep,k _ _ (.inl rfl) e,c]
 | dN K kvs =>
  obtain⟨z,y,xs,r,ob,es,ep,e,c⟩:=x;exact#[z,y,xs,Paired.si r λp q z=>#[z.1,let ⟨b,h1,h2⟩:=z.2.1;#[b,h1.eN ht hf,h2.eN ht hf],z.2.2],ob,es,ep,k _ _ (.inl rfl) e,c]
 | set S n=>obtain⟨ob,es,ep,t,e,c⟩:=x;exact#[ob,es,ep,t,k _ _ (.inl rfl) e,c]
 | ins C dx fs =>
  obtain⟨d,z,ne,e,mA,⟨od,es,ep,e2,c⟩,r⟩:=x;exact#[ho _ d,z,ne,k _ _ (.inl rfl) e,mA,#[od,es,ep,k _ _ (.inr d) e2,c],r]
 | own y=>obtain⟨ob,e⟩:=x;exact#[ob,k _ _ (.inl rfl) e]
 | xd fs=>obtain⟨mA,⟨od,es,ep,e,c⟩,r⟩:=x;exact#[mA,#[od,es,ep,k _ _ (.inl rfl) e,c],r]
 | BI lo hi=>obtain⟨t,u,v,e⟩:=x;exact#[t,u,v,k _ _ (.inl rfl) e]
 | dg ob u ih=>obtain⟨e,q⟩:=x;exact#[k _ _ (.inl rfl) e,ih q]
 | xR ps =>
  have e:h.get? a=some { cls:=.none,data:=.fields ps}:=x
  show h'.get? a=some { cls:=.none,data:=.fields ps}
  exact k a _ (.inl rfl) e
 | met f y =>
  have e:h.get? a=some (W.methodObj (.ref f) (.ref y)):=x
  show h'.get? a=some (W.methodObj (.ref f) (.ref y))
  exact k a _ (.inl rfl) e
 | ext φ=>obtain⟨p,⟨o,e⟩,st⟩:=x;exact#[st _ _ p λo q=>k _ _ (.inl rfl) q,#[o,k _ _ (.inl rfl) e],st]
theorem fR.lt(x:fR P w H h)(e:H a=some o):a<h.objs.size:=(x a o e).lt
theorem fR.fresh(x:fR P w H h)(e:h.objs.size<=a):H a=none:=by
 cases q:H a with
 | none=>rfl
 | some u=>exact absurd (C9 (x.lt q) e) (Y1 _)
theorem fR.kept(x:fR P w H h)(k:∀b u,h.get? b=some u->h'.get? b=some u):fR P w H h':=λa o e =>
 (x a o e).eN (λb u _ q=>k b u q) (λ_ q=>q) λ_ _ q=>q
theorem fR.laid(x:fR P w H h)(k:∀b u,h.get? b=some u->h'.get? b=some u)(hp:h.objs.size<=a)(new:bh P w (upd H a o) h' a o):fR P w (upd H a o) h':=λb u e=>by
 have hn:=x.fresh hp
 by_cases hb:b=a
 ·subst hb;rw[f'] at e;cases e;exact new
 ·rw[cq hb] at e
  exact(x b u e).eN (λc v _ q=>k c v q) (λc q=>by rw[cq (vE q hn)];exact q) λc xs q=>by rw[cq (vE q hn)];exact q
end
def Rd(H:Hp)(a:Addr)(u:HO):Prop:=H a=some u\/∃o,H a=some (.dg o u)
theorem Rd.of{H:Hp}{a:Addr}{u:HO}(h:H a=some u):Rd H a u:=.inl h
theorem Rd.ok{P:Program}{w:World}(r:Rd H a u)(x:fR P w H h):bh P w H h a u:=by
 rcases r with r|⟨o,r⟩
 ·exact x a u r
 ·obtain⟨_,q⟩:=x a _ r
  exact q
def Hw:Option HO->Prop
 | some (.lst _)=>True
 | some (.dK _)=>True
 | some (.dT _)=>True
 | some (.dN _ _)=>True
 | some (.set _ _)=>True
 | some (.ins _ _ _)=>True
 | some (.ext _)=>True
 | _=>False
section
variable{P:Program}{w:World}{H:Hp}{h h':Heap}{x e:Addr}{o':HO}
theorem fR.write(ok:fR P w H h)(mu:Hw (H x))(he:e=x\/H e=some (.own x))(k:∀b u,b≠e->h.get? b=some u->h'.get? b=some u)(BW:∃u,h'.get? e=some u)
  (new:bh P w (upd H x o') h' x o'):fR P w (upd H x o') h':=λb u q=>by
 have FC:∀c y,H c=some (.own y)->c≠x:=λc y r z=>by subst z;rw[r] at mu;exact mu
 have Se:∀c xs,H c=some (.tup xs)->c≠x:=λc xs r z=>by subst z;rw[r] at mu;exact mu
 by_cases hb:b=x
 ·subst hb;rw[f'] at q;cases q;exact new
 ·rw[cq hb] at q
  by_cases Al:b=e
  ·have q':H b=some (.own x):=by
    rcases he with z|z
    ·exact absurd (Al.trans z) hb
    ·rw[Al];exact z
   rw[q] at q';cases q';obtain⟨v,hv⟩:=BW;exact#[v,by rw[Al];exact hv]
  ·refine(ok b u q).eN (λc v hc r=>k c v ?_ r) (λc r=>by rw[cq (FC c b r)];exact r) (λc xs r=>by rw[cq (Se c xs r)];exact r) λc o xs r=>by rw[cq (λz=>by rw[z] at r;rw[r] at mu;exact mu)];exact r
   rcases hc with rfl|hc
   ·exact Al
   ·rintro rfl
    rcases he with z|z
    ·exact FC c b hc z
    ·rw[hc] at z;cases z;exact hb rfl
end
def NK:={ u:HO // ∀ys,u≠.dK ys}
structure Un(fs ex:List Addr)(H H':Hp)(h h':Heap):Prop where
 keep:∀b o,h.get? b=some o->H b=none->b∉fs->b∉ex->h'.get? b=some o
 slot:∀b o,h.get? b=some o->H b=none->b∈fs->b∉ex->∃sl,h'.get? b=some { o with slots:=sl}
 free:∀b o,h.get? b=some o->H b=none->b∉ex->H' b=none
 there:∀b o,h.get? b=some o->b∉ex->∃o',h'.get? b=some o'
 fg:∀b xs,H b=some (.tup xs)->H' b=some (.tup xs)
 dF:∀b o (u:NK),H b=some (.dg o u.1)->H' b=some (.dg o u.1)
 h_:∀b ps,H b=some (.xR ps)->∃more,H' b=some (.xR (ps++more))
section
variable{fs iE ex ex':List Addr}{H H1 H2:Hp}{h h1 h2 h':Heap}{a x e:Addr}{o:HO}
theorem Un.any(u:Un fs ex H H1 h h1){b:Addr}{ob:Obj}(q:h.get? b=some ob)(n:H b=none)(hx:b∉ex):∃sl,h1.get? b=some { ob with slots:=sl}:=by
 by_cases hb:b∈fs
 ·exact u.slot b ob q n hb hx
 ·exact⟨ob.slots,u.keep b ob q n hb hx⟩
theorem Un.trans(a:Un fs ex H H1 h h1)(b:Un fs ex H1 H2 h1 h2):Un fs ex H H2 h h2 where
 keep:=λc ob q n hc hx=>b.keep c ob (a.keep c ob q n hc hx) (a.free c ob q n hx) hc hx
 slot:=λc ob q n hc hx=>by
  obtain⟨sl,e1⟩:=a.slot c ob q n hc hx;obtain⟨RB,e2⟩:=b.slot c _ e1 (a.free c ob q n hx) hc hx;exact#[RB,e2]
 free:=λc ob q n hx=>by
  obtain⟨o',e1⟩:=a.there c ob q hx;exact b.free c o' e1 (a.free c ob q n hx) hx
 there:=λc ob q hx=>by
  obtain⟨o',e1⟩:=a.there c ob q hx;exact b.there c o' e1 hx
 fg:=λc xs q=>b.fg c xs (a.fg c xs q)
 dF:=λc ob xs q=>b.dF c ob xs (a.dF c ob xs q)
 h_:=λc ps q=>by
  obtain⟨m1,e1⟩:=a.h_ c ps q;obtain⟨m2,e2⟩:=b.h_ c _ e1;exact#[m1++m2,by rw[e2,B65]]
theorem Un.kept(k:∀b u,h.get? b=some u->h'.get? b=some u):Un fs ex H H h h' :=
 #[λb ob q _ _ _=>k b ob q,λb ob q _ _ _=>#[ob.slots,k b ob q],λ_ _ _ n _=>n,λb ob q _=>#[ob,k b ob q],λ_ _ q=>q,λ_ _ _ q=>q,λ_ ps q=>#[[].toArray,by rw[q];simp]]
theorem Un.refl:Un fs ex H H h h:=Un.kept λ_ _ q=>q
theorem Un.laid(k:∀b u,h.get? b=some u->h'.get? b=some u)(hp:h.objs.size<=a)(hn:H a=none):Un fs ex H (upd H a o) h h' where
 keep:=λb u q _ _ _=>k b u q
 slot:=λb u q _ _ _=>#[u.slots,k b u q]
 free:=λb u q n _=>by rw[cq (I0 (C9 (D5 q) hp))];exact n
 there:=λb u q _=>#[u,k b u q]
 fg:=λb xs q=>by rw[cq (vE q hn)];exact q
 dF:=λb u xs q=>by rw[cq (vE q hn)];exact q
 h_:=λb ps q=>#[[].toArray,by rw[cq (vE q hn),q];simp]
theorem Un.write(mu:Hw (H x))(he:e=x\/H e=some (.own x))(k:∀b u,b≠e->h.get? b=some u->h'.get? b=some u)(BW:∃u,h'.get? e=some u):Un fs ex H (upd H x o) h h':=by
 have hx:∀b,H b=none->b≠x:=λb n z=>by subst z;rw[n] at mu;exact mu
 have hb:∀b,H b=none->b≠e:=λb n z=>by
  subst z
  rcases he with r|r
  ·exact hx b n r
  ·rw[n] at r;cases r
 have hm:∀b u,H b=some u->¬ Hw (some u)->b≠x:=λb u q nm z=>by subst z;rw[q] at mu;exact nm mu
 refine#[λb u q n _ _=>k b u (hb b n) q,λb u q n _ _=>#[u.slots,k b u (hb b n) q],λb u q n _=>by rw[cq (hx b n)];exact n,λb u q _=>?_,
  λb xs q=>by rw[cq (hm b _ q λz=>z)];exact q,λb u xs q=>by rw[cq (hm b _ q λz=>z)];exact q,λb ps q=>#[[].toArray,by rw[cq (hm b _ q λz=>z),q];simp]]
 by_cases Al:b=e
 ·subst Al;exact BW
 ·exact#[u,k b u Al q]
theorem Un.mono(u:Un fs ex H H1 h h1)(hs:∀b∈fs,b∈iE)(hx:∀b∈ex,b∈ex'):Un iE ex' H H1 h h1 :=
 #[λb ob q n hb he=>u.keep b ob q n (λz=>hb (hs b z)) λz=>he (hx b z),λ_ _ q n _ he=>u.any q n λz=>he (hx _ z),λb ob q n he=>u.free b ob q n λz=>he (hx b z),λb ob q he=>u.there b ob q λz=>he (hx b z),u.fg,u.dF,u.h_]
end
def La(h:Heap)(H:Hp):List Addr:=(D1 h.objs.size).filter λa=>(H a).isSome
def kU(h:Heap)(H:Hp):Heap:=W.hideAll h (La h H)
theorem ve4(h:Heap)(H:Hp):(kU h H).objs.size=h.objs.size:=W.hideAll_size _ _
theorem vq1{h:Heap}(e:h.get? b=some o)(n:H b=none):(kU h H).get? b=some o :=
 W.hideAll_get _ e λhm=>by
  have q:(H b).isSome=true:=(C10.mp hm).2;rw[n] at q;simp at q
theorem wc3(e:(kU h H).get? b=some o):h.get? b=some o/\H b=none:=by
 have e':h.get? b=some o:=W.of_hideAll (La h H) e;refine#[e',?_];cases q:H b with
 | none=>rfl
 | some x =>
  have hm:b∈La h H:=C10.mpr #[K0.mpr (D5 e'),by simp[q]];have z:(kU h H).get? b=none:=W.hideAll_none (La h H) hm;rw[z] at e;cases e
def wi7(g h:Heap)(L:Addr):List (Addr×Obj):=(D1 h.objs.size).filterMap λa=>if a=L\/(g.get? a).isSome=true then none else(h.get? a).map λo=>(a,o)
def rest(g h:Heap)(L d:Addr):List (Addr×Obj):=(wi7 g h L).filter λp=>decide (p.1≠d)
structure Mod(K:W.Frag)(mg:Str->Option Value)(base:Heap):Prop where
 FR:K.In base
 glob:base.Ns J2 mg
 blt:∃mb,base.Ns Mn mb/\∀x:Str,x ≠ "__name__" -> mb x=Q6 x
 nolimit:base.NoLimit
structure Cx where
 prog:Program
 w:World
 K:W.Frag
 mg:Str->Option Value
 base:Heap
 A:Around
 N:List Str
 s₀:Shared
 H₀:Hp
 env:Env
 outer:List Env
 stack:List Env
 ex:List Addr
 fn:Str->Bool
 calm:Bool
 pn:List (Addr×Obj)
 xe:Value->Shared->Prop
def qU(l:List Env):List Addr:=l.filterMap (·.frame)
abbrev Cx.fs(X:Cx):List Addr:=qU X.outer
def LX(sc:Scope)(x:Str):Prop:=sc.names.lookup x=some .local\/sc.names.lookup x=some .cell\/sc.names.lookup x=some .free
def Loc(sc:Scope)(x:Str):Prop:=sc.names.lookup x=some .local\/sc.names.lookup x=some .cell
def Look(env:Env)(h:Heap)(m:Str->Option Value)(x:Str)(u:Value):Prop :=
 (env.kindOf x=some .local/\m x=some u)\/((env.kindOf x=some .cell\/env.kindOf x=some .free)/\∃c,env.cells.lookup x=some c/\h.IsCell c (some u))
structure Cx.Ok(X:Cx):Prop where
 mod:Mod X.K X.mg X.base
 kind:X.env.scope.kind=.function
 glob:X.env.globals=J2
 blt:X.env.builtins=Mn
 above:X.s₀.heap.objs.size<=X.env.locals
 inj:∀x y c,X.env.cells.lookup x=some c->X.env.cells.lookup y=some c->x=y
 has:∀x,(X.env.kindOf x=some .cell\/X.env.kindOf x=some .free)->∃c,X.env.cells.lookup x=some c
 Hh:∀x c,X.fn x=true->X.env.cells.lookup x=some c->X.s₀.heap.objs.size<=c
 hd:X.calm=true->X.A.handled=none
 frames:X.A.frames=some X.stack
 BE:X.stack=X.outer\/(X.stack=X.env::X.outer/\X.env.frame=some X.env.locals)
 Uc:∀b∈X.ex,b≠X.env.locals/\∀x c,X.env.cells.lookup x=some c->c≠b
 bs:∀b o,X.base.get? b=some o->X.s₀.heap.get? b=some o/\X.H₀ b=none
 sN:X.base.objs.size<=X.s₀.heap.objs.size
 sf:∀b o,X.base.get? b=some o->b∉X.ex
 sG:∀b∈X.ex,b∉X.fs
 gU:X.s₀.heap.FunFrames X.base X.outer
 yh:∀b∈X.fs,X.H₀ b=none
structure Inv(X:Cx)(pins:List (Addr×Obj))(σ:List (Option V))(H:Hp)(s:Shared):Prop where
 ok:X.Ok
 os:s.os=X.s₀.os
 bare:xu s.gens
 base:Un X.fs X.ex X.H₀ H X.s₀.heap s.heap
 loc:∃m,s.heap.Ns X.env.locals m/\∀(i:Nat) (x:Str) (v:V),X.N[i]?=some x->σ[i]?=some (some v)->LX X.env.scope x->∃u,RelV v u/\Look X.env s.heap m x u
 cell:∀x c,X.env.cells.lookup x=some c->∃v,s.heap.IsCell c v
 free:H X.env.locals=none
 fo:∀x c,X.env.cells.lookup x=some c->H c=none
 pin:∀p∈X.pn++pins,s.heap.get? p.1=some p.2/\H p.1=none/\p.1≠X.env.locals/\p.1∉X.fs/\∀v,p.2.data≠.cell v
 az:fR X.prog X.w H s.heap
 len:σ.length=X.N.length
section
variable{X:Cx}{pins:List (Addr×Obj)}{σ:List (Option V)}{H H':Hp}{s:Shared}{h':Heap}
theorem Cx.Ok.Sj(ok:X.Ok)(e:X.base.get? b=some o):b∉X.fs:=λhb=>by
 have:=(ok.gU.mem hb).1;rw[e] at this;cases this
theorem Inv.bs(I:Inv X pins σ H s):∀b o,X.base.get? b=some o->s.heap.get? b=some o/\H b=none:=λb o e =>
 #[I.base.keep b o (I.ok.bs b o e).1 (I.ok.bs b o e).2 (I.ok.Sj e) (I.ok.sf b o e),I.base.free b o (I.ok.bs b o e).1 (I.ok.bs b o e).2 (I.ok.sf b o e)]
theorem Inv.bk(I:Inv X pins σ H s):∀b o,X.base.get? b=some o->s.heap.get? b=some o:=λb o e=>(I.bs b o e).1
theorem Inv.mod(I:Inv X pins σ H s):Mod X.K X.mg X.base:=I.ok.mod
theorem Inv.ie(I:Inv X pins σ H s):X.K.In s.heap:=I.ok.mod.FR.keeps I.bk
theorem Inv.nolimit(I:Inv X pins σ H s):s.heap.NoLimit:=I.ok.mod.nolimit.keeps I.bk
theorem Inv.fr(I:Inv X pins σ H s):∃m,Fr X.base X.env.locals s.heap m :=
 let ⟨m,hn,_⟩:=I.loc
 #[m,hn,I.bk,D6 I.ok.sN I.ok.above]
theorem Inv.lt(I:Inv X pins σ H s):X.env.locals<s.heap.objs.size:=let ⟨_,hn,_⟩:=I.loc;hn.lt
theorem Inv.sz(I:Inv X pins σ H s):X.s₀.heap.objs.size<=s.heap.objs.size:=D6 I.ok.above (O2 I.lt)
theorem Inv.Si(I:Inv X pins σ H s)(h:s.heap.objs.size<=a):a∉X.fs:=λhb=>by
 obtain⟨_,o,ho,_⟩:=I.ok.gU.mem hb;exact absurd (C9 (D5 ho) (D6 I.sz h)) (Y1 _)
theorem Inv.AA(I:Inv X pins σ H s):∀x c,X.env.cells.lookup x=some c->c≠X.env.locals:=λx c e z=>by
 obtain⟨v,o,ho,hd⟩:=I.cell x c e;obtain⟨m,⟨o',es,ep,kS,jy,_⟩,_⟩:=I.loc;rw[z,kS] at ho;cases ho;rw[jy] at hd;cases hd
theorem Inv.gU(I:Inv X pins σ H s):s.heap.FunFrames X.base X.outer:=by
 have all:∀(l:List Env),(∀b∈qU l,b∈X.fs)->X.s₀.heap.FunFrames X.base l->s.heap.FunFrames X.base l:=by
  intro l
  induction l with
  | nil=>intro _ _;trivial
  | cons env r ih =>
   intro hs hl;obtain⟨hk,⟨L,o,hf,hn,ho,hd⟩,hr⟩:=hl;have hL:L∈X.fs:=hs L (by unfold qU;rw[Z4,hf];exact D3);obtain⟨sl,e⟩:=I.base.slot L o ho (I.ok.yh L hL) hL λz=>I.ok.sG L z hL
   exact#[hk,#[L,_,hf,hn,e,hd],ih (λb hb=>hs b (by unfold qU;rw[Z4,hf];exact C7 _ hb)) hr]
 exact all X.outer (λ_ hb=>hb) I.ok.gU
theorem Inv.stack(I:Inv X pins σ H s):s.heap.FunFrames X.base X.stack:=by
 rcases I.ok.BE with e|⟨e,hf⟩
 ·rw[e];exact I.gU
 ·rw[e]
  obtain⟨m,hn,_⟩:=I.loc;refine .cons (by rw[I.ok.kind];decide) hf hn ?_ I.gU;exact Heap.get?_none_of_le (D6 I.ok.sN I.ok.above)
theorem Inv.ot(I:Inv X pins σ H s):∀b∈qU X.stack,b∈X.env.locals::X.fs:=λb hb=>by
 rcases I.ok.BE with e|⟨e,hf⟩
 ·rw[e] at hb;exact C7 _ hb
 ·rw[e] at hb
  unfold qU at hb;rw[Z4,hf] at hb;exact hb
theorem Inv.pC(I:Inv X pins σ H s):∀b∈qU X.stack,H b=none:=λb hb=>by
 rcases E6.mp (I.ot b hb) with e|hb
 ·rw[e];exact I.free
 ·obtain⟨_,o,ho,_⟩:=I.ok.gU.mem hb
  exact I.base.free b o ho (I.ok.yh b hb) λz=>I.ok.sG b z hb
theorem Inv.step{g':Array GenState}{t':Nat}{d':Drawn}{ch:List Addr}(I:Inv X pins σ H s)
  (jg:∀b∈ch,(b∈X.ex\/X.s₀.heap.objs.size<=b)/\b≠X.env.locals/\(∀x c,X.env.cells.lookup x=some c->c≠b)/\∀p∈X.pn++pins,p.1≠b)
  (keep:∀b o,b≠X.env.locals->b∉X.fs->b∉ch->s.heap.get? b=some o->H b=none->h'.get? b=some o)
  (slot:∀b o,b≠X.env.locals->b∈X.fs->b∉ch->s.heap.get? b=some o->H b=none->∃sl,h'.get? b=some { o with slots:=sl}) (free:∀b o,b∉ch->s.heap.get? b=some o->H b=none->H' b=none)
  (there:∀b o,b∉ch->s.heap.get? b=some o->∃o',h'.get? b=some o')
  (fg:∀b xs,H b=some (.tup xs)->H' b=some (.tup xs)) (dF:∀b o (u:NK),H b=some (.dg o u.1)->H' b=some (.dg o u.1)) (h_:∀b ps,H b=some (.xR ps)->∃more,H' b=some (.xR (ps++more)))
  (ns:∀m,s.heap.Ns X.env.locals m->h'.Ns X.env.locals m) (az:fR X.prog X.w H' h') (hg:xu g') :
  Inv X pins σ H' { s with heap:=h',gens:=g',drawn:=d',toks:=t'}:=by
 have neL:∀b o,X.s₀.heap.get? b=some o->b≠X.env.locals:=λb o e=>I0 (C9 (D5 e) I.ok.above)
 have Lp:∀b o,X.s₀.heap.get? b=some o->b∉X.ex->b∉ch:=λb o e hx hb=>by
  rcases(jg b hb).1 with z|z
  ·exact hx z
  ·exact absurd (C9 (D5 e) z) (Y1 _)
 have cellK:∀x c,X.env.cells.lookup x=some c->∀v,s.heap.IsCell c v->h'.IsCell c v:=λx c e v ⟨o,ho,hd⟩=>by
  have pJ:c∉ch:=λz=>(jg c z).2.2.1 x c e rfl
  by_cases hc:c∈X.fs
  ·obtain⟨sl,q⟩:=slot c o (I.AA x c e) hc pJ ho (I.fo x c e)
   exact#[_,q,hd]
  ·exact#[o,keep c o (I.AA x c e) hc pJ ho (I.fo x c e),hd]
 refine#[I.ok,I.os,hg,#[λb o e n hb hx=>?_,λb o e n hb hx=>?_,λb o e n hx=>?_,λb o e hx=>?_,λb xs e=>fg b xs (I.base.fg b xs e),λb o xs e=>dF b o xs (I.base.dF b o xs e),λb ps e=>?_],?_,λx c e=>?_,?_,λx c e=>?_,λp hp=>?_,az,I.len]
 ·exact keep b o (neL b o e) hb (Lp b o e hx) (I.base.keep b o e n hb hx) (I.base.free b o e n hx)
 ·obtain⟨sl,e1⟩:=I.base.slot b o e n hb hx
  obtain⟨RB,e2⟩:=slot b _ (neL b o e) hb (Lp b o e hx) e1 (I.base.free b o e n hx);exact#[RB,e2]
 ·obtain⟨o',e1⟩:=I.base.there b o e hx
  exact free b o' (Lp b o e hx) e1 (I.base.free b o e n hx)
 ·obtain⟨o',e1⟩:=I.base.there b o e hx
  exact there b o' (Lp b o e hx) e1
 ·obtain⟨m1,e1⟩:=I.base.h_ b ps e
  obtain⟨m2,e2⟩:=h_ b _ e1;exact#[m1++m2,by rw[e2,B65]]
 ·obtain⟨m,hn,hl⟩:=I.loc
  refine#[m,ns m hn,λi x v e1 e2 e3=>?_];obtain⟨u,r,l⟩:=hl i x v e1 e2 e3;refine#[u,r,?_]
  rcases l with l|⟨k,c,e,z⟩
  ·exact .inl l
  ·exact .inr ⟨k,c,e,cellK x c e _ z⟩
 ·obtain⟨v,z⟩:=I.cell x c e
  exact#[v,cellK x c e v z]
 ·obtain⟨m,⟨o,_,_,ho,_⟩,_⟩:=I.loc
  exact free _ o (λz=>(jg _ z).2.1 rfl) ho I.free
 ·obtain⟨v,o,ho,hd⟩:=I.cell x c e
  exact free c o (λz=>(jg c z).2.2.1 x c e rfl) ho (I.fo x c e)
 ·obtain⟨e,n,ne,nf,d⟩:=I.pin p hp
  have pJ:p.1∉ch:=λz=>(jg p.1 z).2.2.2 p hp rfl
  exact#[keep p.1 p.2 ne nf pJ e n,free p.1 p.2 pJ e n,ne,nf,d]
theorem Inv.un{t':Nat}(I:Inv X pins σ H s)(u:Un X.fs [] H H' s.heap h')(az:fR X.prog X.w H' h'):Inv X pins σ H' { s with heap:=h',toks:=t'}:=by
 obtain⟨m,⟨o,es,ep,ho,r⟩,_⟩:=id I.loc;obtain⟨sl,hL⟩:=u.any ho I.free (by simp);exact I.step (g':=s.gens) (d':=s.drawn) (ch:=[]) (λ_ z=>nomatch z) (λb o _ hb _ e n=>u.keep b o e n hb (by simp)) (λb o _ hb _ e n=>u.slot b o e n hb (by simp)) (λb o _ e n=>u.free b o e n (by simp)) (λb o _ e=>u.there b o e (by simp)) u.fg u.dF u.h_ (λm' hm=>by
  obtain⟨o',rM,LP,kS,r'⟩:=hm;rw[ho] at kS;cases kS;exact#[_,rM,LP,hL,r']) az I.bare
theorem Inv.call{g':Array GenState}{t':Nat}{d':Drawn}{ch:List Addr}(I:Inv X pins σ H s)(u:Un (qU X.stack) ch H H' s.heap h')(az:fR X.prog X.w H' h')(hg:xu g')
  (jg:∀b∈ch,(b∈X.ex\/X.s₀.heap.objs.size<=b)/\b≠X.env.locals/\(∀x c,X.env.cells.lookup x=some c->c≠b)/\∀p∈X.pn++pins,p.1≠b) :
  Inv X pins σ H' { s with heap:=h',gens:=g',drawn:=d',toks:=t'}:=by
 obtain⟨m,⟨o,es,ep,ho,r⟩,_⟩:=id I.loc;obtain⟨sl,hL⟩:=u.any ho I.free λz=>(jg _ z).2.1 rfl
 exact I.step (ch:=ch) jg (λb o hL hb hc e n=>u.keep b o e n (λz=>(E6.mp (I.ot b z)).elim hL hb) hc) (λb o _ _ hc e n=>u.any e n hc) (λb o hc e n=>u.free b o e n hc) (λb o hc e=>u.there b o e hc) u.fg u.dF u.h_ (λm' hm=>by
  obtain⟨o',rM,LP,kS,r'⟩:=hm;rw[ho] at kS;cases kS;exact#[_,rM,LP,hL,r']) az hg
theorem Inv.turned{t':Nat}{it:Addr}(I:Inv X pins σ H s)(k:∀b o,b≠it->s.heap.get? b=some o->h'.get? b=some o)(hn:H it=none)(hL:it≠X.env.locals)
  (h1:it∈X.ex\/X.s₀.heap.objs.size<=it) (h2:∀x c,X.env.cells.lookup x=some c->c≠it) (h3:∀p∈X.pn++pins,p.1≠it):Inv X pins σ H { s with heap:=h',toks:=t'}:=by
 have qL:∀b u,H b=some u->b≠it:=λb u e z=>by rw[z,hn] at e;cases e
 refine I.step (g':=s.gens) (d':=s.drawn) (ch:=[it]) (λb hb=>?_) (λb o _ _ hc e _=>k b o (λz=>hc (by simp[z])) e) (λb o _ _ hc e _=>#[o.slots,k b o (λz=>hc (by simp[z])) e]) (λ_ _ _ _ n=>n)
  (λb o hc e=>#[o,k b o (λz=>hc (by simp[z])) e]) (λ_ _ e=>e) (λ_ _ _ e=>e) (λb ps e=>#[[].toArray,by rw[e];simp]) (λm hm=>?_) (λb u e=>?_) I.bare
 ·have e:b=it:=by simpa using hb
  subst e;exact#[h1,hL,h2,h3]
 ·obtain⟨o,es,ep,ho,r⟩:=hm
  exact#[o,es,ep,k _ o (D8 hL) ho,r]
 ·refine(I.az b u e).eN (λc v hc q=>k c v ?_ q) (λ_ q=>q) λ_ _ q=>q
  rcases hc with z|z
  ·rw[z];exact qL b u e
  ·exact qL c _ z
theorem Inv.tok(I:Inv X pins σ H s)(t:Nat):Inv X pins σ H { s with toks:=t}:=I.un (h':=s.heap) (t':=t) Un.refl I.az
theorem Inv.kept{t':Nat}(I:Inv X pins σ H s)(k:∀b u,s.heap.get? b=some u->h'.get? b=some u):Inv X pins σ H { s with heap:=h',toks:=t'}:=I.un (Un.kept k) (I.az.kept k)
theorem Inv.laid{a:Addr}{o:HO}{t':Nat}(I:Inv X pins σ H s)(k:∀b u,s.heap.get? b=some u->h'.get? b=some u)(hp:s.heap.objs.size<=a)(new:bh X.prog X.w (upd H a o) h' a o) :
  Inv X pins σ (upd H a o) { s with heap:=h',toks:=t'}:=I.un (Un.laid k hp (I.az.fresh hp)) (I.az.laid k hp new)
theorem Inv.write(I:Inv X pins σ H s)(mu:Hw (H x))(he:e=x\/H e=some (.own x))(k:∀b u,b≠e->s.heap.get? b=some u->h'.get? b=some u)(BW:∃u,h'.get? e=some u)
  (new:bh X.prog X.w (upd H x o) h' x o):Inv X pins σ (upd H x o) { s with heap:=h',toks:=t'}:=I.un (Un.write mu he k BW) (I.az.write mu he k BW new)
theorem Inv.pF(I:Inv X pins σ H s)(h:∀p∈Fv,s.heap.get? p.1=some p.2/\H p.1=none/\p.1≠X.env.locals/\p.1∉X.fs/\∀v,p.2.data≠.cell v):Inv X Fv σ H s :=
 ⟨I.ok,I.os,I.bare,I.base,I.loc,I.cell,I.free,I.fo,λp hp=>(K1.mp hp).elim (λz=>I.pin p (B42 _ z)) (h p),I.az,I.len⟩
theorem ZY{N:List Str}(hN:N.Nodup){i j:Nat}{x:Str}(a:N[i]?=some x)(b:N[j]?=some x):i=j:=by
 obtain⟨h1,e1⟩:=M4.mp a;obtain⟨h2,e2⟩:=M4.mp b;exact(List.getElem_inj hN).mp (e1.trans e2.symm)
theorem uq3{M:Model}{A:Around}{E:Value->Shared->Prop}{i:Nat}{x:Str}{v:V}{u:Value}{Q:Unit->Shared->Prop}(I:Inv X pins σ H s)(hN:X.N.Nodup)(hi:X.N[i]?=some x)(hx:Loc X.env.scope x)(r:RelV v u)
  (h:∀s',Inv X pins (σ.set i (some v)) H s'->(∃a,R6 a s.heap s'.heap/\(a=X.env.locals\/X.env.cells.lookup x=some a))->Q #[] s') (hf:X.fn x=true\/X.env.scope.names.lookup x=some .local:=by first|exact .inl rfl|exact .inr rfl|assumption):wpAny M A (UX X.env x u) Q E s:=by
 obtain⟨m,hn,hl⟩:=id I.loc;have TK:(X.env.scope.kind == .class||(X.env.scope.kind == .module&&X.env.locals != X.env.globals))=false:=by rw[I.ok.kind];rfl
 have hiσ:i<σ.length:=by rw[I.len];exact(M4.mp hi).1
 have AA:=I.AA;have tracked:∀{a:Addr} {h':Heap},(∃o,s.heap.get? a=some o/\H a=none)->R6 a s.heap h'->fR X.prog X.w H h':=λ{a h'} ha hs b ob e=>by
  obtain⟨_,_,gn⟩:=ha;refine(I.az b ob e).eN (λc w' hc q=>(hs.2 c ?_).trans q) (λ_ q=>q) λ_ _ q=>q
  rintro rfl
  rcases hc with rfl|hc
  ·rw[gn] at e;cases e
  ·rw[gn] at hc;cases hc
 rcases hx with hk|hk
 ·refine wpAny_storeName_local hk hn (λh' sv hs=>?_) TK
  obtain⟨oL,_,_,z0,_⟩:=id hn;refine h _ #[I.ok,I.os,I.bare,#[λb o e n hb hx=>?_,λb o e n hb hx=>?_,I.base.free,λb o e hx=>?_,I.base.fg,I.base.dF,I.base.h_],#[_,sv,λj y v' e1 e2 e3=>?_],λy c e=>?_,I.free,I.fo,λp hp=>?_,tracked #[oL,z0,I.free] hs,by simpa using I.len] #[_,hs,.inl rfl]
  ·exact(hs.2 b (I0 (C9 (D5 e) I.ok.above))).trans (I.base.keep b o e n hb hx)
  ·obtain⟨sl,e1⟩:=I.base.slot b o e n hb hx
   exact#[sl,(hs.2 b (I0 (C9 (D5 e) I.ok.above))).trans e1]
  ·obtain⟨o',e1⟩:=I.base.there b o e hx
   exact#[o',(hs.2 b (I0 (C9 (D5 e) I.ok.above))).trans e1]
  ·by_cases hj:j=i
   ·subst hj
    rw[hi] at e1;cases e1;rw[Wn hiσ] at e2;cases e2;exact#[u,r,.inl #[hk,by simp]]
   ·rw[Wd (D8 hj)] at e2
    obtain⟨u',r',q⟩:=hl j y v' e1 e2 e3;refine#[u',r',?_]
    rcases q with⟨k,e⟩|⟨k,c,e,z⟩
    ·refine .inl ⟨k,?_⟩
     have:y≠x:=λe=>hj (ZY hN e1 (e▸hi))
     simp[this,e]
    ·exact .inr #[k,c,e,z.sameBut hs (AA y c e)]
  ·obtain⟨w',z⟩:=I.cell y c e
   exact#[w',z.sameBut hs (AA y c e)]
  ·obtain⟨e,n,ne,nf,d⟩:=I.pin p hp
   exact#[(hs.2 p.1 ne).trans e,n,ne,nf,d]
 ·have TH:X.fn x=true:=by
   rcases hf with z|z
   ·exact z
   ·rw[z] at hk;cases hk
  obtain⟨c,hc⟩:=I.ok.has x (.inl hk);obtain⟨w',z⟩:=I.cell x c hc;refine wpAny_storeName_cell I.ok.kind hk hc z (λh' hc' hs=>?_);obtain⟨oc,x5,Tn⟩:=id z;refine h { s with heap:=h'} #[I.ok,I.os,I.bare,#[λb o e n hb hx=>?_,λb o e n hb hx=>?_,I.base.free,λb o e hx=>?_,I.base.fg,I.base.dF,I.base.h_],#[m,hn.sameBut hs (D8 (AA x c hc)),λj y v' e1 e2 e3=>?_],λy c' e=>?_,I.free,I.fo,λp hp=>?_,tracked #[oc,x5,I.fo x c hc] hs,by simpa using I.len] #[c,hs,.inr hc]
  ·exact(hs.2 b (I0 (C9 (D5 e) (I.ok.Hh x c TH hc)))).trans (I.base.keep b o e n hb hx)
  ·obtain⟨sl,e1⟩:=I.base.slot b o e n hb hx
   exact#[sl,(hs.2 b (I0 (C9 (D5 e) (I.ok.Hh x c TH hc)))).trans e1]
  ·obtain⟨o',e1⟩:=I.base.there b o e hx
   exact#[o',(hs.2 b (I0 (C9 (D5 e) (I.ok.Hh x c TH hc)))).trans e1]
  ·by_cases hj:j=i
   ·subst hj
    rw[hi] at e1;cases e1;rw[Wn hiσ] at e2;cases e2;exact#[u,r,.inr #[.inl hk,c,hc,hc']]
   ·rw[Wd (D8 hj)] at e2
    obtain⟨u',r',q⟩:=hl j y v' e1 e2 e3;refine#[u',r',?_]
    rcases q with q|⟨k,c',e,z'⟩
    ·exact .inl q
    ·refine .inr ⟨k,c',e,z'.sameBut hs ?_⟩
     rintro rfl;exact hj (ZY hN e1 (I.ok.inj _ _ _ e hc▸hi))
  ·by_cases hcc:c'=c
   ·subst hcc;exact#[_,hc']
   ·obtain⟨w2,z2⟩:=I.cell y c' e
    exact#[w2,z2.sameBut hs hcc]
  ·obtain⟨e,n,ne,nf,d⟩:=I.pin p hp
   refine#[(hs.2 p.1 ?_).trans e,n,ne,nf,d];intro q;rw[q,x5] at e;have q':oc=p.2:=E7 e;exact d w' (by rw[<- q'];exact Tn)
theorem QU{M:Model}{A:Around}{E:Value->Shared->Prop}{i:Nat}{x:Str}{v:V}{u:Value}{Q:Unit->Shared->Prop}(I:Inv X pins σ H s)(hN:X.N.Nodup)(hi:X.N[i]?=some x)(hx:Loc X.env.scope x)(r:RelV v u)
  (h:∀s',Inv X pins (σ.set i (some v)) H s'->Q #[] s') (hf:X.fn x=true\/X.env.scope.names.lookup x=some .local:=by first|exact .inl rfl|exact .inr rfl|assumption):wpAny M A (UX X.env x u) Q E s :=
 uq3 I hN hi hx r (λs' I' _=>h s' I') hf
theorem Inv.Hg{s':Shared}(I:Inv X pins σ H s)(ho:s'.os=s.os)(u:Un (qU X.stack) ch H H' s.heap s'.heap)(az:fR X.prog X.w H' s'.heap)(hg:xu s'.gens)
  (jg:∀b∈ch,(b∈X.ex\/X.s₀.heap.objs.size<=b)/\b≠X.env.locals/\(∀x c,X.env.cells.lookup x=some c->c≠b)/\∀p∈X.pn++pins,p.1≠b):Inv X pins σ H' s':=by
 obtain⟨h',g',d',t',o'⟩:=s';have e:o'=s.os:=ho;subst e;exact I.call (g':=g') (t':=t') (d':=d') u az hg jg
end
abbrev XK:=Value->Option Addr->Hp->Prop
abbrev St:=List (Option V)
abbrev VK:=V->Hp->Prop
abbrev TE:=St->Hp->VK->Prop
abbrev TT:=St->Hp->(Bool->Hp->Prop)->Prop
abbrev TA:=St->Hp->(List V->Hp->Prop)->Prop
structure Ends where
 nx:St->Hp->Prop
 rt:VK
 bk:St->Hp->Prop:=λ_ _=>False
 ct:St->Hp->Prop:=λ_ _=>False
abbrev TS:=Ends->St->Hp->Prop
def EP(X:Cx)(pins:List (Addr×Obj))(σ:St)(Q:VK)(u:Value)(s':Shared):Prop:=∃v H',Inv X pins σ H' s'/\RelV v u/\Q v H'
def TP(X:Cx)(pins:List (Addr×Obj))(σ:St)(Q:Bool->Hp->Prop)(b:Bool)(s':Shared):Prop:=∃H',Inv X pins σ H' s'/\Q b H'
def AP(X:Cx)(pins:List (Addr×Obj))(σ:St)(Q:List V->Hp->Prop)(us:List Value)(s':Shared):Prop:=∃vs H',Inv X pins σ H' s'/\Vals vs us/\Q vs H'
def SP(X:Cx)(pins:List (Addr×Obj))(D:Ends)(f:Flow)(s':Shared):Prop :=
 match f with
 | .next=>∃σ' H',Inv X pins σ' H' s'/\D.nx σ' H'
 | .brk=>∃σ' H',Inv X pins σ' H' s'/\D.bk σ' H'
 | .cont=>∃σ' H',Inv X pins σ' H' s'/\D.ct σ' H'
 | .ret u=>∃v σ' H',Inv X pins σ' H' s'/\RelV v u/\D.rt v H'
def PE(X:Cx)(e:Expr)(t:TE):Prop :=
 ∀(pins:List (Addr×Obj)) (s:Shared) (σ:St) (H:Hp) (Q:VK),Inv X pins σ H s->t σ H Q->wpAny (model X.prog X.w) X.A (eval e X.env) (EP X pins σ Q) X.xe s
def PT(X:Cx)(e:Expr)(t:TT):Prop :=
 ∀(pins:List (Addr×Obj)) (s:Shared) (σ:St) (H:Hp) (Q:Bool->Hp->Prop),Inv X pins σ H s->t σ H Q->wpAny (model X.prog X.w) X.A (isTrue e X.env (eval e X.env)) (TP X pins σ Q) X.xe s
def PW(X:Cx)(e:Expr)(t:TT):Prop :=
 ∀(whole:Sem Value) (pins:List (Addr×Obj)) (s:Shared) (σ:St) (H:Hp) (Q:Bool->Hp->Prop),Inv X pins σ H s->t σ H Q->wpAny (model X.prog X.w) X.A (isTrue e X.env whole) (TP X pins σ Q) X.xe s
theorem PW.pt{X:Cx}{e:Expr}{t:TT}(h:PW X e t):PT X e t:=h _
def PA(X:Cx)(es:List Expr)(t:TA):Prop :=
 ∀(pos:Pos) (pins:List (Addr×Obj)) (s:Shared) (σ:St) (H:Hp) (Q:List V->Hp->Prop),Inv X pins σ H s->t σ H Q->wpAny (model X.prog X.w) X.A (spliced (backTo pos (C5 es X.env))) (AP X pins σ Q) X.xe s
def PS(X:Cx)(st:Stmt)(t:TS):Prop :=
 ∀(pins:List (Addr×Obj)) (s:Shared) (σ:St) (H:Hp) (D:Ends),Inv X pins σ H s->t D σ H->wpAny (model X.prog X.w) X.A (exec st X.env) (SP X pins D) X.xe s
def nX(X:Cx)(st:List Stmt)(t:TS):Prop :=
 ∀(pins:List (Addr×Obj)) (s:Shared) (σ:St) (H:Hp) (D:Ends),Inv X pins σ H s->t D σ H->wpAny (model X.prog X.w) X.A (execs st X.env) (SP X pins D) X.xe s
theorem a_{α:Type}{t:Sem α}{Q Q':α->Shared->Prop}{M:Model}{A:Around}{E:Value->Shared->Prop}{s:Shared}(h:wpAny M A t Q E s)(hQ:∀a s,Q a s->Q' a s):wpAny M A t Q' E s:=Q7 h hQ λ_ _ x=>x
section
variable{X:Cx}
def DG(i:Nat):TE:=λσ H Q=>∃v,σ[i]?=some (some v)/\Q v H
def tC(v:V):TE:=λ_ H Q=>Q v H
theorem wo7(hN:X.N[i]?=some x)(hv:LX X.env.scope x)(hd:(x==("__debug__" :Str))=false:=by decide)(uQ:(x==("__classdict__" :Str))=false:=by decide):PE X (.Name x pos) (DG i):=by
 intro pins s σ H Q I h;obtain⟨v,e,h⟩:=h;obtain⟨m,hn,hl⟩:=I.loc;obtain⟨u,r,l⟩:=hl i x v hN e hv;have fin:EP X pins σ Q u s:=#[v,H,I,r,h]
 rcases l with⟨hk,hm⟩|⟨hk,c,hc,pO⟩
 ·exact UZ (wpAny_loadName_local I.ok.kind hk hn hm fin) hd
 ·rcases hk with hk|hk
  ·exact UZ (wpAny_loadName_cell I.ok.kind hk hc pO fin) hd
  ·exact UZ (wpAny_loadName_free I.ok.kind hk hc pO fin uQ) hd
theorem wp3{i j pos}:PE X (.Constant (.int i) j pos) (tC (.int i)):=λ_ _ _ H _ I h=>wpAny_Constant_int #[.int i,H,I.tok _,#[_,rfl],h]
theorem xa3{b j pos}:PE X (.Constant (.bool b) j pos) (tC (.bl b)):=λ_ _ _ H _ I h=>Constant_bool #[.bl b,H,I,rfl,h]
theorem wo9{x j pos}:PE X (.Constant (.str x) j pos) (tC (.str x)):=λ_ _ _ H _ I h=>Calls.Constant_str #[.str x,H,I.tok _,#[_,rfl],h]
def Gl(X:Cx)(x:Str):Prop:=X.env.kindOf x=some .globalImplicit
theorem Qy{E:Value->Shared->Prop}{pins:List (Addr×Obj)}{s:Shared}{σ:St}{H:Hp}{x:Str}{u:Value}{pos:Pos}{Q:Value->Shared->Prop}(I:Inv X pins σ H s)(hg:Gl X x)(hm:X.mg x=some u)(h:Q u s)
  (hd:(x==("__debug__" :Str))=false:=by decide):wpAny (model X.prog X.w) X.A (eval (.Name x pos) X.env) Q E s :=
 A62 I.ok.kind hg (Calls.loadGlobal_global (by rw[I.ok.glob];exact I.mod.glob.keeps I.bk) hm h) hd
theorem oj{E:Value->Shared->Prop}{pins:List (Addr×Obj)}{s:Shared}{σ:St}{H:Hp}{x:Str}{u:Value}{pos:Pos}{Q:Value->Shared->Prop}(I:Inv X pins σ H s)(hg:Gl X x)(hm:X.mg x=none)(hv:Q6 x=some u)(h:Q u s)
  (hn:x ≠ "__name__" := by decide) (hd:(x==("__debug__" :Str))=false:=by decide):wpAny (model X.prog X.w) X.A (eval (.Name x pos) X.env) Q E s:=by
 obtain⟨mb,h1,h2⟩:=I.mod.blt;exact A62 I.ok.kind hg (Calls.loadGlobal_builtin (by rw[I.ok.glob];exact I.mod.glob.keeps I.bk) hm (by rw[I.ok.blt];exact h1.keeps I.bk) ((h2 x hn).trans hv) h) hd
theorem wb2(hg:Gl X x)(hm:X.mg x=some u)(r:RelV v u)(hd:(x==("__debug__" :Str))=false:=by decide):PE X (.Name x pos) (tC v) :=
 λ_ _ _ H _ I h=>Qy I hg hm #[v,H,I,r,h] hd
theorem wb8(hg:Gl X x)(hm:X.mg x=none)(hv:Q6 x=some u)(r:RelV v u)(hn:x ≠ "__name__" := by decide)(hd:(x==("__debug__" :Str))=false:=by decide):PE X (.Name x pos) (tC v) :=
 λ_ _ _ H _ I h=>oj I hg hm hv #[v,H,I,r,h] hn hd
variable{a b:Expr}{ta tb:TE}{pos:Pos}
def tB(t:TE):TT:=λσ H Q=>t σ H λx H1=>∃c,x=.bl c/\Q c H1
theorem wn3{e:Expr}{t:TE}(h:PE X e t)(he:∀whole,isTrue e X.env whole=(do let v <- whole;vd e.pos;holding [v] (truthy v)):=by intro _;rfl):PT X e (tB t):=by
 intro pins s σ H Q I hw
 (refine isTrue_plain (a_ (h pins s σ H _ I hw) ?_) (he _);rintro v s1 ⟨x,H1,I1,r1,q1⟩)
 obtain⟨d,rfl,q⟩:=q1;cases r1;exact T6 #[H1,I1,q]
variable{tA Lb:TT}{rest:List Expr}
def DV(t u:TT):TT:=λσ H Q=>t σ H λc H1=>if c=true then u σ H1 Q else Q false H1
def tOr(t u:TT):TT:=λσ H Q=>t σ H λc H1=>if c=true then Q true H1 else u σ H1 Q
def DP(t:TT):TT:=λσ H Q=>t σ H λc H1=>Q (!c) H1
theorem w95(ha:PT X a tA):PW X (.BoolOp .And [a] pos) tA:=by
 intro wh pins s σ H Q I h;refine isTrue_and (a_ (ha pins s σ H Q I h) λc s1 e=>?_);cases c with
 | true=>exact isTrue_and_nil e
 | false=>exact e
theorem wn1(ha:PT X a tA):PW X (.BoolOp .Or [a] pos) tA:=by
 intro wh pins s σ H Q I h;refine isTrue_or (a_ (ha pins s σ H Q I h) λc s1 e=>?_);cases c with
 | false=>exact isTrue_or_nil e
 | true=>exact e
theorem wn2(ha:PT X a tA)(hb:PW X (.BoolOp .And (b::rest) pos) Lb):PW X (.BoolOp .And (a::b::rest) pos) (DV tA Lb):=by
 intro wh pins s σ H Q I h
 (refine isTrue_and (a_ (ha pins s σ H _ I h) ?_);rintro c s1 ⟨H1,I1,q1⟩)
 cases c with
 | true=>exact hb wh pins s1 σ H1 Q I1 q1
 | false=>exact#[H1,I1,q1]
theorem x94(ha:PT X a tA)(hb:PW X (.BoolOp .Or (b::rest) pos) Lb):PW X (.BoolOp .Or (a::b::rest) pos) (tOr tA Lb):=by
 intro wh pins s σ H Q I h
 (refine isTrue_or (a_ (ha pins s σ H _ I h) ?_);rintro c s1 ⟨H1,I1,q1⟩)
 cases c with
 | true=>exact#[H1,I1,q1]
 | false=>exact hb wh pins s1 σ H1 Q I1 q1
theorem wn4(ha:PT X a tA):PT X (.UnaryOp .Not a pos) (DP tA):=by
 intro pins s σ H Q I h;exact isTrue_not (ha pins s σ H (λc H1=>Q (!c) H1) I h)
def WY(ta tb:TE):TE:=λσ H Q=>ta σ H λx H1=>∃c,x=.bl c/\if c=true then tb σ H1 Q else Q (.bl false) H1
def DL(ta tb:TE):TE:=λσ H Q=>ta σ H λx H1=>∃c,x=.bl c/\if c=true then Q (.bl true) H1 else tb σ H1 Q
def Xd(ta:TE):TE:=λσ H Q=>ta σ H λx H1=>∃c,x=.bl c/\Q (.bl (!c)) H1
theorem wp0{op}(h:PE X a t):PE X (.BoolOp op [a] pos) t:=λpins s σ H Q I hw=>BoolOp_one (h pins s σ H Q I hw)
theorem wp5(ha:PE X a ta)(hb:PE X (.BoolOp .And (b::rest) pos) tb):PE X (.BoolOp .And (a::b::rest) pos) (WY ta tb):=by
 intro pins s σ H Q I h
 (refine BoolOp_and (a_ (ha pins s σ H _ I h) ?_);rintro v s1 ⟨x,H1,I1,r1,q1⟩)
 obtain⟨c,rfl,q1⟩:=q1;cases r1;refine T6 ?_;cases c with
 | true=>exact hb pins s1 σ H1 Q I1 q1
 | false=>exact#[.bl false,H1,I1,rfl,q1]
theorem xa0(ha:PE X a ta)(hb:PE X (.BoolOp .Or (b::rest) pos) tb):PE X (.BoolOp .Or (a::b::rest) pos) (DL ta tb):=by
 intro pins s σ H Q I h
 (refine BoolOp_or (a_ (ha pins s σ H _ I h) ?_);rintro v s1 ⟨x,H1,I1,r1,q1⟩)
 obtain⟨c,rfl,q1⟩:=q1;cases r1;refine T6 ?_;cases c with
 | false=>exact hb pins s1 σ H1 Q I1 q1
 | true=>exact#[.bl true,H1,I1,rfl,q1]
theorem wp1(ha:PE X a ta):PE X (.UnaryOp .Not a pos) (Xd ta):=by
 intro pins s σ H Q I h
 (refine UnaryOp_ (a_ (ha pins s σ H _ I h) ?_);rintro v s1 ⟨x,H1,I1,r1,q1⟩)
 obtain⟨c,rfl,q1⟩:=q1;cases r1;exact not_of (T6 #[.bl (!c),H1,I1,rfl,q1])
def tIf(t:TT)(ta tb:TE):TE:=λσ H Q=>t σ H λc H1=>if c=true then ta σ H1 Q else tb σ H1 Q
theorem vm2{c:Expr}(hc:PT X c tA)(ha:PE X a ta)(hb:PE X b tb):PE X (.IfExp c a b pos) (tIf tA ta tb):=by
 intro pins s σ H Q I h
 (refine wpAny_IfExp (a_ (hc pins s σ H _ I h) ?_);rintro d s1 ⟨H1,I1,q1⟩)
 cases d with
 | true=>exact ha pins s1 σ H1 Q I1 q1
 | false=>exact hb pins s1 σ H1 Q I1 q1
end
def eG(K:W.Frag)(H:Hp)(a:Addr)(xs:List V):Prop :=
 Rd H a (.lst xs) \/
  ∃(o:Obj) (its:Array Value) (n:Nat),K.lookup a=some o/\o.cls=.type "list" /\ o.dict=none/\o.data=.seq its n/\its.size<=sizeLine/\Vals xs its.toList
def dS(K:W.Frag)(H:Hp)(a:Addr)(xs:List V):Prop :=
 Rd H a (.tup xs) \/
  ∃(o:Obj) (its:Array Value) (n:Nat),K.lookup a=some o/\o.cls=.type "tuple" /\ o.data=.seq its n/\its.size<=sizeLine/\Vals xs its.toList/\o.dict=none
def Us:Value->Option V
 | .none=>some .non
 | .bool b=>some (.bl b)
 | .int i _=>some (.int i)
 | .str x _=>some (.str x)
 | .bytes b _=>some (.rN b)
 | .float b _=>some (.uV b)
 | .ref a=>some (.ref a)
 | .type n=>some (.ty n)
 | _=>none
theorem RelV.abs(r:RelV x u):Us u=some x:=by
 cases x with
 | non=>cases r;rfl
 | bl _=>cases r;rfl
 | int _=>obtain⟨t,rfl⟩:=r;rfl
 | str _=>obtain⟨t,rfl⟩:=r;rfl
 | rN _=>obtain⟨t,rfl⟩:=r;rfl
 | uV _=>obtain⟨t,rfl⟩:=r;rfl
 | ref _=>cases r;rfl
 | ty _=>cases r;rfl
theorem RelV.inj{x y:V}{u:Value}(r:RelV x u)(q:RelV y u):x=y:=E7 (r.abs.symm.trans q.abs)
theorem Vals.inj:∀{xs ys:List V} {us:List Value},Vals xs us->Vals ys us->xs=ys
 | _,_,_,.nil,.nil=>rfl
 | _,_,_,.cons r t,.cons r' t'=>by rw[r.inj r',Vals.inj t t']
section
variable{X:Cx}{pins:List (Addr×Obj)}{σ:St}{H:Hp}{s:Shared}{a:Addr}{xs ys:List V}
theorem eG.of{K:W.Frag}(h:H a=some (.lst xs)):eG K H a xs:=.inl (.inl h)
theorem dS.of{K:W.Frag}(h:H a=some (.tup xs)):dS K H a xs:=.inl (.inl h)
theorem Inv.list(I:Inv X pins σ H s)(h:eG X.K H a xs):∃its:List Value,Vals xs its/\PlainL s.heap a its.toArray/\xs.length<=sizeLine:=by
 rcases h with h|⟨o,its,n,hk,hc,hd,hs,hz,r⟩
 ·obtain⟨z,its,n,r,e⟩:=h.ok I.az
  exact#[its,r,#[_,n,e,rfl,rfl,rfl],z]
 ·refine#[its.toList,r,#[o,n,I.ie a o hk,hc,hd,by simpa using hs],?_]
  have e:=r.length;simp only[K8] at e;omega
theorem Inv.tuple(I:Inv X pins σ H s)(h:dS X.K H a xs):∃its:List Value,Vals xs its/\IsTup s.heap a its.toArray/\xs.length<=sizeLine:=by
 rcases h with h|⟨o,its,n,hk,hc,hs,hz,r,_⟩
 ·obtain⟨z,its,r,p⟩:=h.ok I.az
  exact#[its,r,p.tup,z]
 ·refine#[its.toList,r,#[o,I.ie a o hk,hc,n,by simpa using hs],?_]
  have e:=r.length;simp only[K8] at e;omega
theorem Inv.gj(I:Inv X pins σ H s)(h:eG X.K H a xs)(h':eG X.K H a ys):xs=ys:=by
 obtain⟨its,r,⟨o,n,e,_,_,d⟩,_⟩:=I.list h;obtain⟨gm,r',⟨o',n',e',_,_,d'⟩,_⟩:=I.list h';rw[e] at e';cases e';rw[d] at d';injection d' with d1 _
 have:its=gm:=by simpa using congrArg Vp d1
 subst this;exact r.inj r'
theorem Inv.gH(I:Inv X pins σ H s)(h:dS X.K H a xs)(h':dS X.K H a ys):xs=ys:=by
 obtain⟨its,r,⟨o,e,_,n,d⟩,_⟩:=I.tuple h;obtain⟨gm,r',⟨o',e',_,n',d'⟩,_⟩:=I.tuple h';rw[e] at e';cases e';rw[d] at d';injection d' with d1 _
 have:its=gm:=by simpa using congrArg Vp d1
 subst this;exact r.inj r'
end
abbrev Cx.h7(X:Cx)(E:Value->Shared->Prop):Cx:={ X with xe:=E}
abbrev Cx.vX(X:Cx):Cx:=X.h7 λ_ _=>False
theorem Cx.Ok.h7{X:Cx}(ok:X.Ok)(E:Value->Shared->Prop):(X.h7 E).Ok :=
 #[ok.mod,ok.kind,ok.glob,ok.blt,ok.above,ok.inj,ok.has,ok.Hh,ok.hd,ok.frames,ok.BE,ok.Uc,ok.bs,ok.sN,ok.sf,ok.sG,ok.gU,ok.yh]
theorem Cx.Ok.dj{X:Cx}(ok:(X.h7 E).Ok):X.Ok :=
 #[ok.mod,ok.kind,ok.glob,ok.blt,ok.above,ok.inj,ok.has,ok.Hh,ok.hd,ok.frames,ok.BE,ok.Uc,ok.bs,ok.sN,ok.sf,ok.sG,ok.gU,ok.yh]
section
variable{X:Cx}{pins:List (Addr×Obj)}{σ:St}{H:Hp}{s:Shared}{E:Value->Shared->Prop}
theorem Inv.h7(I:Inv X pins σ H s)(E:Value->Shared->Prop):Inv (X.h7 E) pins σ H s:=#[I.ok.h7 E,I.os,I.bare,I.base,I.loc,I.cell,I.free,I.fo,I.pin,I.az,I.len]
theorem Inv.dj(I:Inv (X.h7 E) pins σ H s):Inv X pins σ H s:=#[I.ok.dj,I.os,I.bare,I.base,I.loc,I.cell,I.free,I.fo,I.pin,I.az,I.len]
theorem SP.dj(h:SP (X.h7 E) pins D f s'):SP X pins D f s':=by
 cases f with
 | next=>obtain⟨σ',H',I,q⟩:=h;exact#[σ',H',I.dj,q]
 | brk=>obtain⟨σ',H',I,q⟩:=h;exact#[σ',H',I.dj,q]
 | cont=>obtain⟨σ',H',I,q⟩:=h;exact#[σ',H',I.dj,q]
 | ret u=>obtain⟨v,σ',H',I,r,q⟩:=h;exact#[v,σ',H',I.dj,r,q]
theorem PE.vX(h:PE X.vX e t):PE X e t:=λpins s σ H Q I hw =>
 Q7 (h pins s σ H Q (I.h7 _) hw) (λ_ _ ⟨v,H',I',r,q⟩=>#[v,H',I'.dj,r,q]) λ_ _ z=>Q3 z
theorem PT.vX(h:PT X.vX e t):PT X e t:=λpins s σ H Q I hw =>
 Q7 (h pins s σ H Q (I.h7 _) hw) (λ_ _ ⟨H',I',q⟩=>#[H',I'.dj,q]) λ_ _ z=>Q3 z
theorem nX.vX{st:List Stmt}{t:TS}(h:nX X.vX st t):nX X st t:=λpins s σ H D I hw =>
 Q7 (h pins s σ H D (I.h7 _) hw) (λ_ _ q=>q.dj) λ_ _ z=>Q3 z
end
section
variable{X:Cx}{st:Stmt}{rest:List Stmt}{t u:TS}{e:Expr}{te:TE}{pos:Pos}
def Xc:TS:=λD σ H=>D.nx σ H
def DI(t u:TS):TS:=λD σ H=>t { D with nx:=u D} σ H
theorem w99:nX X [] Xc:=λ_ _ σ H _ I h=>MS #[σ,H,I,h]
theorem vl0(h1:PS X st t)(h2:nX X rest u):nX X (st::rest) (DI t u):=by
 intro pins s σ H D I h;refine wpAny_execs_cons (a_ (h1 pins s σ H { D with nx:=u D} I h) λf s1 q=>?_);cases f with
 | next =>
  obtain⟨σ',H',I',q⟩:=q;exact h2 pins s1 σ' H' D I' q
 | ret v=>exact q
 | brk=>exact q
 | cont=>exact q
theorem w98(h1:PS X st t):nX X [st] t:=by
 intro pins s σ H D I h;refine wpAny_execs_cons (a_ (h1 pins s σ H D I h) λf s1 q=>?_);cases f with
 | next=>exact MS q
 | ret v=>exact q
 | brk=>exact q
 | cont=>exact q
theorem Inv.quiet{pins:List (Addr×Obj)}{σ:St}{H:Hp}{s:Shared}(I:Inv X pins σ H s):interactive X.env=false:=by simp[interactive,I.ok.kind]
def Xa(te:TE):TS:=λD σ H=>te σ H λ_ H1=>D.nx σ H1
theorem wa2(he:PE X e te)(hs:V2 e none pos.line X.env=pure false:=by rfl):PS X (.Expr e pos) (Xa te):=by
 intro pins s σ H D I h
 (refine wpAny_Expr_any (a_ (he pins s σ H _ I h) ?_) I.quiet hs;rintro v s1 ⟨x,H1,I1,r1,q1⟩;exact#[σ,H1,I1,q1])
def DJ(te:TE):TS:=λD σ H=>te σ H D.rt
theorem wn7(he:PE X e te):PS X (.Return (some e) pos) (DJ te):=by
 intro pins s σ H D I h
 (refine wpAny_Return_some (a_ (he pins s σ H _ I h) ?_);rintro v s1 ⟨x,H1,I1,r1,q1⟩;exact#[x,σ,H1,I1,r1,q1])
def Xf:TS:=λD _ H=>D.rt .non H
theorem wa1:PS X (.Return none pos) Xf:=λ_ _ σ H _ I h=>wpAny_Return_none #[.non,σ,H,I,rfl,h]
def DR(c:TT)(t u:TS):TS:=λD σ H=>c σ H λb H1=>if b=true then t D σ H1 else u D σ H1
theorem x95{c:Expr}{a b:List Stmt}{tc:TT}(hc:PT X c tc)(ha:nX X a t)(hb:nX X b u):PS X (.If c a b pos) (DR tc t u):=by
 intro pins s σ H D I h
 (refine wpAny_If (a_ (hc pins s σ H _ I h) ?_);rintro d s1 ⟨H1,I1,q1⟩)
 cases d with
 | true=>exact ha pins s1 σ H1 D I1 q1
 | false=>exact hb pins s1 σ H1 D I1 q1
def wl1:TS:=λ_ _ _=>False
theorem vl2:PS X st wl1:=λ_ _ _ _ _ _ h=>h.elim
end
abbrev TG:=V->St->Hp->(St->Hp->Prop)->Prop
abbrev yk:=List V->St->Hp->(St->Hp->Prop)->Prop
def PG(X:Cx)(target:Expr)(t:TG):Prop :=
 ∀(pins:List (Addr×Obj)) (s:Shared) (σ:St) (H:Hp) (v:V) (u:Value) (Q:St->Hp->Prop),Inv X pins σ H s->RelV v u->t v σ H Q ->
  wpAny (model X.prog X.w) X.A (assign target X.env u) (λ_ s'=>∃σ' H',Inv X pins σ' H' s'/\Q σ' H') X.xe s
def yl(X:Cx)(ts:List Expr)(t:yk):Prop :=
 ∀(pins:List (Addr×Obj)) (s:Shared) (σ:St) (H:Hp) (vs:List V) (us:List Value) (Q:St->Hp->Prop),Inv X pins σ H s->Vals vs us->t vs σ H Q ->
  wpAny (model X.prog X.w) X.A (assignInOrder ((R5 ts X.env).map (·.2)) us) (λ_ s'=>∃σ' H',Inv X pins σ' H' s'/\Q σ' H') X.xe s
abbrev xj:=V->V->V->Hp->(Hp->Prop)->Prop
def rb(X:Cx)(t:xj):Prop :=
 ∀(pins:List (Addr×Obj)) (s:Shared) (σ:St) (H:Hp) (o i v:V) (ov iv u:Value) (Q:Hp->Prop),Inv X pins σ H s->RelV o ov->RelV i iv->RelV v u->t o i v H Q ->
  wpAny (model X.prog X.w) X.A (Mc ov iv u) (λ_ s'=>∃H',Inv X pins σ H' s'/\Q H') X.xe s
abbrev Uy:=V->V->Hp->VK->Prop
def PIp(X:Cx)(op:Operator)(t:Uy):Prop :=
 ∀(pins:List (Addr×Obj)) (s:Shared) (σ:St) (H:Hp) (x y:V) (v u:Value) (Q:VK),Inv X pins σ H s->RelV x v->RelV y u->t x y H Q ->
  wpAny (model X.prog X.w) X.A (AQ op v u) (EP X pins σ Q) X.xe s
section
variable{X:Cx}{pos:Pos}
def NT(i:Nat):TG:=λv σ H Q=>Q (σ.set i (some v)) H
theorem wa8(hN:X.N.Nodup)(hi:X.N[i]?=some x)(hx:Loc X.env.scope x)(hf:X.fn x=true\/X.env.scope.names.lookup x=some .local:=by first|exact .inl rfl|exact .inr rfl|assumption):PG X (.Name x pos) (NT i):=by
 intro pins s σ H v u Q I r h;exact wpAny_assign_Name (QU I hN hi hx r (λs' I'=>#[_,H,I',h]) hf)
def GQ:yk:=λvs σ H Q=>vs=[]/\Q σ H
def WO(t:TG)(u:yk):yk:=λvs σ H Q=>∃v r,vs=v::r/\t v σ H λσ' H'=>u r σ' H' Q
theorem wa7:yl X [] GQ:=by
 intro pins s σ H vs us Q I r h;obtain⟨e,h⟩:=h;subst e;cases r;exact assignInOrder_nil #[σ,H,I,h]
theorem vl9{e:Expr}{es:List Expr}{t:TG}{u:yk}(h1:PG X e t)(h2:yl X es u)
  (hs:(R5 (e::es) X.env).map (·.2)=assign e X.env::(R5 es X.env).map (·.2):=by rfl):yl X (e::es) (WO t u):=by
 intro pins s σ H vs us Q I r h;obtain⟨v,vr,e1,h⟩:=h;subst e1;cases r with
 | cons r rr =>
  rw[hs]
  (refine assignInOrder_cons (a_ (h1 pins s σ H _ _ _ I r h) ?_);rintro _ s1 ⟨σ1,H1,I1,q1⟩)
  exact h2 pins s1 σ1 H1 _ _ Q I1 rr q1
def TY(K:W.Frag)(n:Nat)(t:yk):TG:=λv σ H Q=>∃a xs,v=.ref a/\dS K H a xs/\xs.length=n/\t xs σ H Q
theorem wo5(hc:X.calm=true)(h:yl X es t)
  (hn:(R5 es X.env).length=n:=by rfl) (oW:(R5 es X.env).findIdx? (·.1)=none:=by rfl):PG X (.Tuple es k pos) (TY X.K n t):=by
 intro pins s σ H v u Q I r hw;obtain⟨a,xs,e1,hq,hl,hw⟩:=hw;subst e1;cases r;obtain⟨its,rv,ht,hz⟩:=I.tuple hq;refine assign_Tuple_tuple (I.ok.hd hc) ht (by simp[hn,<- hl,rv.length]) oW λh' hx=>?_
 have I1:Inv X pins σ H { s with heap:=h'}:=I.kept (t':=s.toks) λb o e=>hx b o (I0 (D5 e)) e
 exact h pins _ σ H xs _ Q I1 (by simpa using rv) hw
def GP(to ti:TE)(t:xj):TG:=λv σ H Q=>to σ H λo H1=>ti σ H1 λi H2=>t o i v H2 λH3=>Q σ H3
theorem wo6{o i:Expr}{to ti:TE}{t:xj}(ho:PE X o to)(hi:PE X i ti)(hs:rb X t)
  (ha:∀v,assign (.Subscript o i pos) X.env v=(do
   let ov <- holding [v] (eval o X.env)
   let iv <- holding [v,ov] (eval i X.env)
   vd pos
   holding [v,ov,iv] (Mc ov iv v)
   release [v,ov,iv] []):=by intro _;rfl):PG X (.Subscript o i pos) (GP to ti t):=by
 intro pins s σ H v u Q I r h;rw[ha]
 (refine B5 (M8 (a_ (ho pins s σ H _ I h) ?_));rintro ov s1 ⟨x,H1,I1,r1,q1⟩)
 (refine B5 (M8 (a_ (hi pins s1 σ H1 _ I1 q1) ?_));rintro iv s2 ⟨y,H2,I2,r2,q2⟩)
 (refine B5 (MK (B5 (M8 (a_ (hs pins s2 σ H2 x y v ov iv u _ I2 r1 r2 r q2) ?_))));rintro _ s3 ⟨H3,I3,q3⟩)
 exact wpAny_release #[σ,H3,I3,q3]
def zr(te:TE)(g:TG):TS:=λD σ H=>te σ H λx H1=>g x σ H1 D.nx
theorem wo1{tg e:Expr}{te:TE}{g:TG}(he:PE X e te)(hg:PG X tg g)(hs:swapsWithSole [tg] e pos.line X.env=pure false:=by rfl)(hw:swappedStores [tg] e X.env=pure none:=by rfl)
  (h1:(R5 [tg] X.env).map (·.2)=[assign tg X.env]:=by rfl):PS X (.Assign [tg] e pos) (zr te g):=by
 intro pins s σ H D I h
 (refine wpAny_Assign_stores (a_ (he pins s σ H _ I h) ?_) hs hw;rintro v s1 ⟨x,H1,I1,r1,q1⟩)
 rw[h1];exact a_ (hg pins s1 σ H1 x v _ I1 r1 q1) λ_ s2 q=>q
theorem wn6{i:Nat}{x:Str}{e:Expr}{te:TE}{pos':Pos}(hN:X.N.Nodup)(hi:X.N[i]?=some x)(hx:Loc X.env.scope x)(he:PE X e te)(hs:V2 e (some (.Name x pos')) pos.line X.env=pure false:=by rfl)(hf:X.fn x=true\/X.env.scope.names.lookup x=some .local:=by first|exact .inl rfl|exact .inr rfl|assumption) :
  PS X (.Assign [.Name x pos'] e pos) (zr te (NT i)):=by
 intro pins s σ H D I h
 (refine wpAny_Assign_Name (a_ (he pins s σ H _ I h) ?_) hs;rintro v s1 ⟨y,H1,I1,r1,q1⟩)
 exact QU I1 hN hi hx r1 (λs2 I2=>#[_,H1,I2,q1]) hf
def DU(i:Nat)(te:TE)(ti:Uy):TS:=λD σ H=>∃x,σ[i]?=some (some x)/\te σ H λy H1=>ti x y H1 λz H2=>D.nx (σ.set i (some z)) H2
theorem wo0{i:Nat}{x:Str}{e:Expr}{te:TE}{op:Operator}{ti:Uy}{pos':Pos}(hN:X.N.Nodup)(hi:X.N[i]?=some x)(hx:Loc X.env.scope x)(he:PE X e te)(ho:PIp X op ti)(hf:X.fn x=true\/X.env.scope.names.lookup x=some .local:=by first|exact .inl rfl|exact .inr rfl|assumption) :
  PS X (.AugAssign (.Name x pos') op e pos) (DU i te ti):=by
 intro pins s σ H D I h;obtain⟨v,e1,h⟩:=h;obtain⟨m,hn,hl⟩:=I.loc;have vis:LX X.env.scope x:=by rcases hx with k|k;exact .inl k;exact .inr (.inl k)
 obtain⟨u,r,l⟩:=hl i x v hi e1 vis;refine wpAny_AugAssign_Name ?_;have go:wpAny (model X.prog X.w) X.A (eval e X.env) (λw s₂=>wpAny (model X.prog X.w) X.A (AQ op u w) (λr s₃=>wpAny (model X.prog X.w) X.A (UX X.env x r) (λ_=>SP X pins D .next) X.xe s₃) X.xe s₂) X.xe s:=by
  (refine a_ (he pins s σ H _ I h) ?_;rintro w s1 ⟨y,H1,I1,r1,q1⟩)
  (refine a_ (ho pins s1 σ H1 v y u w _ I1 r r1 q1) ?_;rintro z s2 ⟨zv,H2,I2,r2,q2⟩)
  exact QU I2 hN hi hx r2 (λs3 I3=>#[_,H2,I3,q2]) hf
 rcases l with⟨hk,hm⟩|⟨hk,c,hc,pO⟩
 ·exact wpAny_loadName_local I.ok.kind hk hn hm go
 ·rcases hk with hk|hk
  ·exact wpAny_loadName_cell I.ok.kind hk hc pO go
  ·rcases hx with k|k
   ·have:X.env.scope.names.lookup x=some .free:=hk
    rw[k] at this;cases this
   ·have:X.env.scope.names.lookup x=some .free:=hk
    rw[k] at this;cases this
end
section
variable{X:Cx}{pos:Pos}
def Yw(c:TT)(tb:TS):TS:=λD σ H=>∃W:Nat->St->Hp->Prop,(∃m,W m σ H)/\∀m σ H,W m σ H ->
 c σ H λb H1=>if b=true then∃N:St->Hp->Prop,(∀σ' H',N σ' H'->∃m',m'<m/\W m' σ' H')/\tb { D with nx:=N,ct:=N,bk:=D.nx} σ H1 else D.nx σ H1
theorem vl1{c:Expr}{body:List Stmt}{tc:TT}{tb:TS}(hp:ME (model X.prog X.w) X.A X.env X.xe)(hc:PT X c tc)(hb:nX X body tb):PS X (.While c body [] pos) (Yw tc tb):=by
 intro pins s σ H D I h;obtain⟨W,⟨m0,w0⟩,turn⟩:=h;refine wpAny_While (codeAny_whileLoop (λn s'=>∃σ' H',Inv X pins σ' H' s'/\W n σ' H') ?_ m0 #[σ,H,I,w0]);rintro n s1 ⟨σ1,H1,I1,w1⟩
 (refine V3 hp (a_ (hc pins s1 σ1 H1 _ I1 (turn n σ1 H1 w1)) ?_);rintro b s2 ⟨H2,I2,q2⟩)
 cases b with
 | true =>
  obtain⟨N,hN,q2⟩:=q2;rw[if_pos rfl];refine V3 hp (a_ (hb pins s2 σ1 H2 _ I2 q2) λf s3 q3=>?_);cases f with
  | next =>
   obtain⟨σ3,H3,I3,n3⟩:=q3;obtain⟨m',hm,w3⟩:=hN σ3 H3 n3;exact#[m',hm,σ3,H3,I3,w3]
  | cont =>
   obtain⟨σ3,H3,I3,n3⟩:=q3;obtain⟨m',hm,w3⟩:=hN σ3 H3 n3;exact#[m',hm,σ3,H3,I3,w3]
  | brk=>exact q3
  | ret v=>exact q3
 | false =>
  rw[if_neg D2];exact MS #[σ1,H2,I2,q2]
end
structure It where
 go:Nat->Hp->Prop
 nQ:Nat->Hp->V->Hp->Prop
 stop:Nat->Hp->Prop
def fS(X:Cx)(pins:List (Addr×Obj))(H:Hp)(b:Addr):Prop :=
 H b=none/\b≠X.env.locals/\b∉X.fs/\(b∈X.ex\/X.s₀.heap.objs.size<=b)/\(∀x c,X.env.cells.lookup x=some c->c≠b)/\∀p∈X.pn++pins,p.1≠b
theorem Inv.kY{X:Cx}{pins:List (Addr×Obj)}{σ:St}{H H':Hp}{s:Shared}{b:Addr}(I:Inv X pins σ H s)(hb:s.heap.objs.size<=b)(hn:H' b=none):fS X pins H' b:=by
 refine#[hn,X7 (C9 I.lt hb),I.Si hb,.inr (D6 I.sz hb),λx c e z=>?_,λp hp z=>?_]
 ·obtain⟨v,q⟩:=I.cell x c e
  exact absurd (C9 q.lt (by rw[z];exact hb)) (Y1 _)
 ·exact absurd (C9 (D5 (I.pin p hp).1) (by rw[z];exact hb)) (Y1 _)
structure Turn(P:Program)(w:World)(K:W.Frag)(tg:Expr)(J:It)(fp:List Addr)(it:Addr)(tn:Nat->Heap->Prop):Prop where
 mem:it∈fp
 obj:∀i h,tn i h->∀b∈fp,∃o,h.get? b=some o/\∀v,o.data≠.cell v
 keep:∀i h h',tn i h->(∀b∈fp,∀o,h.get? b=some o->h'.get? b=some o)->tn i h'
 item:∀(X:Cx),X.prog=P->X.w=w->X.K=K->X.calm=true->∀(i:Nat) (pins:List (Addr×Obj)) (s:Shared) (σ:St) (H:Hp) (E:Value->Shared->Prop),Inv X pins σ H s->(∀b∈fp,fS X pins H b)->tn i s.heap->J.go i H ->
  wpAny (model P w) X.A (pyNext (.ref it)) (λr s1=>∃u,r=some u /\
   wpAny (model P w) X.A (MR tg (.ref it) u) (λ_ s2=>∃x H',Inv X pins σ H' s2/\RelV x u/\J.nQ i H x H'/\tn (i+1) s2.heap/\∀b∈fp,H' b=none) E s1) E s
 done:∀(X:Cx),X.prog=P->X.w=w->X.K=K->X.calm=true->∀(i:Nat) (pins:List (Addr×Obj)) (s:Shared) (σ:St) (H:Hp) (E:Value->Shared->Prop),Inv X pins σ H s->(∀b∈fp,fS X pins H b)->tn i s.heap->J.stop i H ->
  wpAny (model P w) X.A (pyNext (.ref it)) (λr s1=>r=none/\Inv X pins σ H s1) E s
 self:∀(A:Around) (i:Nat) (s:Shared) (Q:Value->Shared->Prop) (E:Value->Shared->Prop),tn i s.heap->Q (.ref it) s->wpAny (model P w) A (pyIter (.ref it)) Q E s
abbrev TI:=St->Hp->(It->Hp->Prop)->Prop
def UD(X:Cx)(pins:List (Addr×Obj))(σ:St)(tg:Expr)(R:It->Hp->Prop)(Lx:Value)(s2:Shared):Prop :=
 ∃(it:Addr) (fp:List Addr) (tn:Nat->Heap->Prop) (J:It) (H':Hp),Lx=.ref it/\Inv X pins σ H' s2/\Turn X.prog X.w X.K tg J fp it tn/\tn 0 s2.heap/\(∀b∈fp,fS X pins H' b)/\R J H'
def PI(X:Cx)(tg iter:Expr)(wi:TI):Prop :=
 ∀(pins:List (Addr×Obj)) (s:Shared) (σ:St) (H:Hp) (R:It->Hp->Prop),Inv X pins σ H s->wi σ H R ->
  wpAny (model X.prog X.w) X.A (eval iter X.env) (λv s1=>wpAny (model X.prog X.w) X.A (pyIter v) (UD X pins σ tg R) X.xe s1) X.xe s
theorem Bb {s : Shared} (ho : s.heap.get? it = some o) (hc : o.cls = .type n) (hd : o.data = .fields vs)
    (hn:["enumerate", "zip", "dict_itemiterator", "dict_reverseitemiterator", "odict_iterator", "itertools.zip_longest", "itertools.pairwise"].contains n=false) (hQ:Q #[] s):wpAny M A (MR tg (.ref it) u) Q E s:=by
  unfold MR;cases tg <;> first
    | exact C2 hQ
    | (cases u <;> first
        | exact C2 hQ
        | (refine wpAny_bind (wpAny_load ho ?_)
           rw[hc,hd]
           show wpAny M A (if(["enumerate", "zip", "dict_itemiterator", "dict_reverseitemiterator", "odict_iterator", "itertools.zip_longest", "itertools.pairwise"].contains n&&vs[0]?==some (rawInt _))=true then _ else _) Q E s
           rw[if_neg (by intro h;rw[hn,Bool.false_and] at h;cases h)];exact C2 hQ))
def UH(K:W.Frag)(a:Addr):It :=
 ⟨λi H=>∃xs x,eG K H a xs/\xs[i]?=some x,λi H x H'=>H'=H/\∀xs,eG K H a xs->xs[i]?=some x,λi H=>∃xs,eG K H a xs/\xs.length<=i⟩
def UG(K:W.Frag)(a:Addr):It :=
 ⟨λi H=>∃xs x,dS K H a xs/\xs[i]?=some x,λi H x H'=>H'=H/\∀xs,dS K H a xs->xs[i]?=some x,λi H=>∃xs,dS K H a xs/\xs.length<=i⟩
def Hx(lo:Int)(n:Nat):It:=⟨λi _=>i<n,λi H x H'=>H'=H/\x=.int (lo+i),λi _=>n<=i⟩
theorem v68{P:Program}{w:World}{K:W.Frag}{tg:Expr}(a it:Addr):Turn P w K tg (UH K a) [it] it (λi h=>h.IsListIter it a i) where
 mem:=by simp
 obj:=λi h st b hb=>by
  have e:b=it:=by simpa using hb
  subst e;obtain⟨o,e,c,d⟩:=st;exact#[o,e,λv z=>by rw[d] at z;cases z]
 keep:=λi h h' st k=>st.at λo e=>k it (by simp) o e
 item:=by
  intro X hP hw hK hc i pins s σ H E I hf st hg;subst hP hw hK;obtain⟨xs,x,hq,hx⟩:=hg;obtain⟨its,rv,p,hz⟩:=I.list hq;obtain⟨u,hu,ru⟩:=rv.get hx;obtain⟨f0,f1,f2,f3,f4,f5⟩:=hf it (by simp);refine wpAny_pyNext_list_item st p.isList (x:=u) (by simpa using hu) λh' jI sb=>?_
  have I1:Inv X pins σ H { s with heap:=h'}:=I.turned (t':=s.toks) (λb o hb e=>(sb.2 b hb).trans e) f0 f1 f3 f4 f5
  obtain⟨o,e,c,d⟩:=id jI;exact#[u,rfl,Bb (s:={ s with heap:=h'}) e c d ∅ #[x,H,I1,ru,#[rfl,λys hy=>by rw[I.gj hy hq];exact hx],jI,λb hb=>(hf b hb).1]]
 done:=by
  intro X hP hw hK hc i pins s σ H E I hf st hg;subst hP hw hK;obtain⟨xs,hq,hx⟩:=hg;obtain⟨its,rv,p,hz⟩:=I.list hq;obtain⟨f0,f1,f2,f3,f4,f5⟩:=hf it (by simp);have hl:=rv.length;exact wpAny_pyNext_list_end (I.ok.hd hc) st p.isList (by simp;omega) λh' eb=>#[rfl,I.turned (t':=s.toks) (λb o hb e=>eb b o hb e) f0 f1 f3 f4 f5]
 self:=λ_ _ _ _ _ st h=>wpAny_pyIter_listiter st h
theorem v18{P:Program}{w:World}{K:W.Frag}{tg:Expr}(a it:Addr):Turn P w K tg (UG K a) [it] it (λi h=>h.IsTupleIter it a i) where
 mem:=by simp
 obj:=λi h st b hb=>by
  have e:b=it:=by simpa using hb
  subst e;obtain⟨o,e,c,d⟩:=st;exact#[o,e,λv z=>by rw[d] at z;cases z]
 keep:=λi h h' st k=>st.at λo e=>k it (by simp) o e
 item:=by
  intro X hP hw hK hc i pins s σ H E I hf st hg;subst hP hw hK;obtain⟨xs,x,hq,hx⟩:=hg;obtain⟨its,rv,p,hz⟩:=I.tuple hq;obtain⟨u,hu,ru⟩:=rv.get hx;obtain⟨f0,f1,f2,f3,f4,f5⟩:=hf it (by simp);refine wpAny_pyNext_tuple_item st (show s.heap.IsTuple a its.toArray from p) (x:=u) (by simpa using hu) λh' jI sb=>?_
  have I1:Inv X pins σ H { s with heap:=h'}:=I.turned (t':=s.toks) (λb o hb e=>(sb.2 b hb).trans e) f0 f1 f3 f4 f5
  obtain⟨o,e,c,d⟩:=id jI;exact#[u,rfl,Bb (s:={ s with heap:=h'}) e c d ∅ #[x,H,I1,ru,#[rfl,λys hy=>by rw[I.gH hy hq];exact hx],jI,λb hb=>(hf b hb).1]]
 done:=by
  intro X hP hw hK hc i pins s σ H E I hf st hg;subst hP hw hK;obtain⟨xs,hq,hx⟩:=hg;obtain⟨its,rv,p,hz⟩:=I.tuple hq;obtain⟨f0,f1,f2,f3,f4,f5⟩:=hf it (by simp);have hl:=rv.length;exact wpAny_pyNext_tuple_end (I.ok.hd hc) st (show s.heap.IsTuple a its.toArray from p) (by simp;omega) λh' eb=>#[rfl,I.turned (t':=s.toks) (λb o hb e=>eb b o hb e) f0 f1 f3 f4 f5]
 self:=λ_ _ _ _ _ st h=>wpAny_pyIter_tupleiter st h
theorem v19{P:Program}{w:World}{K:C63}{tg:Expr}(it:Addr)(lo:Int)(n:Nat):Turn P w K tg (Hx lo n) [it] it (λi h=>Mq h it (lo+(i:Nat)*1) ((n:Int)-(i:Nat)) 1) where
 mem:=by simp
 obj:=λi h st b hb=>by
  have e:b=it:=by simpa using hb
  subst e;exact#[_,st,λv z=>by
   have z':Mw _=Cr v:=z;cases z']
 keep:=λi h h' st k=>k it (by simp) _ st
 item:=by
  intro X hP hw hK hc i pins s σ H E I hf st hg;subst hP hw hK;obtain⟨f0,f1,f2,f3,f4,f5⟩:=hf it (by simp);have W:=C76 (prog:=X.prog) (w:=X.w) (I.ok.hd hc) it lo 1 n;refine W.item i s _ _ hg st λv h' tk hv jI kk=>?_
  obtain⟨t,rfl⟩:=hv;have I1:Inv X pins σ H { s with heap:=h',toks:=tk}:=I.turned (λb o hb e=>kk b o (by simpa using hb) e) f0 f1 f3 f4 f5
  refine#[_,rfl,Bb (s:={ s with heap:=h',toks:=tk}) (n := "range_iterator") jI rfl rfl ∅ #[.int (lo+i),H,I1,#[t,?_],#[rfl,rfl],jI,λb hb=>(hf b hb).1]];rw[Mu]
 done:=by
  intro X hP hw hK hc i pins s σ H E I hf st hg;subst hP hw hK;obtain⟨f0,f1,f2,f3,f4,f5⟩:=hf it (by simp);exact wpAny_pyNext_range_end (I.ok.hd hc) st (by have:n<=i:=hg;omega) λh' eb=>#[rfl,I.turned (t':=s.toks) (λb o hb e=>eb b o hb e) f0 f1 f3 f4 f5]
 self:=λ_ _ _ _ _ st h=>wpAny_pyIter_rangeiter st h
section
variable{X:Cx}{tg:Expr}
theorem Z'{pins:List (Addr×Obj)}{σ:St}{H:Hp}{s:Shared}{R:It->Hp->Prop}{E:Value->Shared->Prop}{lo hi:Int}{t u v:Tok}{tk:Nat}(I:Inv X pins σ H s)(h1:-(2^62)<=lo)(h2:lo<2^62)(h3:-(2^62)<=hi)(h4:hi<2^62)
  (q:R (Hx lo (hi-lo).toNat) H):wpAny (model X.prog X.w) X.A (pyIter (.ref s.heap.objs.size)) (UD X pins σ tg R) E { s with heap:=s.heap.push { cls:=.type "range",data:=.fields [.int lo t,.int hi u,.int 1 v].toArray},toks:=tk}:=by
 refine wpAny_pyIter_range (Mt ..) (UW h1 h2 h3 h4) ?_;have I1:Inv X pins σ H { s with heap:=s.heap.push { cls:=.type "range",data:=.fields [.int lo t,.int hi u,.int 1 v].toArray},toks:=tk}:=I.kept λb o e=>B6 _ e
 refine#[(s.heap.push { cls:=.type "range",data:=.fields [.int lo t,.int hi u,.int 1 v].toArray}).objs.size,[(s.heap.push { cls:=.type "range",data:=.fields [.int lo t,.int hi u,.int 1 v].toArray}).objs.size],_,_,H,rfl,
  I1.kept (t':=tk) λb o e=>B6 _ e,v19 _ lo (hi-lo).toNat,?_,λb hb=>?_,q]
 ·have e1:lo+((0:Nat):Int)*1=lo:=by simp
  have e2:(((hi-lo).toNat:Nat):Int)-((0:Nat):Int)=O5 lo hi 1:=by rw[Vu];split <;> omega
  show Mq _ _ (lo+((0:Nat):Int)*1) ((((hi-lo).toNat:Nat):Int)-((0:Nat):Int)) 1
  rw[e1,e2];exact D4 _ rfl
 ·have e:b=(s.heap.push { cls:=.type "range",data:=.fields [.int lo t,.int hi u,.int 1 v].toArray}).objs.size:=by simpa using hb
  subst e;exact I1.kY (B8 _) (I1.az.fresh (B8 _))
def WR(ta:TA):TI:=λσ H R=>ta σ H λvs H1=>∃j:Int,vs=[.int j]/\-(2^62)<=j/\j<2^62/\R (Hx 0 j.toNat) H1
def WS(ta:TA):TI:=λσ H R=>ta σ H λvs H1=>∃i j:Int,vs=[.int i,.int j]/\(-(2^62)<=i/\i<2^62/\-(2^62)<=j/\j<2^62)/\R (Hx i (j-i).toNat) H1
theorem v98{a:Expr}{ta:TA}{p pos:Pos}(hg:Gl X "range")(hm:X.mg "range" = none)(ha:PA X [a] ta)(hs:C5 [a] X.env=[(false,eval a X.env)]:=by rfl):PI X tg (.Call (.Name "range" p) [a] [] pos) (WR ta):=by
 intro pins s σ H R I h
 (refine Call_ (oj I hg hm Jv (J1 (a_ (ha pos pins s σ H _ I h) ?_) hs rfl));rintro us s1 ⟨vs,H1,I1,r1,q1⟩)
 obtain⟨j,e,q1,q2,q⟩:=q1;subst e;cases r1 with
 | cons r rr =>
  cases rr;obtain⟨t,rfl⟩:=r;exact call_range_1 (Z' I1 () () q1 q2 (by simpa using q))
theorem v97{a b:Expr}{ta:TA}{p pos:Pos}(hg:Gl X "range")(hm:X.mg "range" = none)(ha:PA X [a,b] ta)(hs:C5 [a,b] X.env=[(false,eval a X.env),(false,eval b X.env)]:=by rfl)(cy:C5 [b] X.env=[(false,eval b X.env)]:=by rfl) :
  PI X tg (.Call (.Name "range" p) [a,b] [] pos) (WS ta):=by
 intro pins s σ H R I h;refine Call_ (oj I hg hm Jv (J1 (a_ (ha pos pins s σ H _ I h) λus s1 ⟨vs,H1,I1,r1,q1⟩=>?_) (by rw[hs,cy]) (by rw[cy];rfl)));obtain⟨i,j,e,⟨q1,q2,q3,q4⟩,q⟩:=q1;subst e;cases r1 with
 | cons r rr =>
  cases rr with
  | cons r' rr =>
   cases rr;obtain⟨t,rfl⟩:=r;obtain⟨t',rfl⟩:=r';exact call_range_2 (Z' I1 q1 q2 q3 q4 q)
def DS(wi:TI)(g:TG)(tb:TS):TS:=λD σ H=>wi σ H λJ H1=>∃W:Nat->Nat->St->Hp->Prop,(∃m,W 0 m σ H1)/\∀i m σ H,W i m σ H ->
 (J.stop i H/\D.nx σ H)\/(J.go i H/\∃N:St->Hp->Prop,(∀σ' H',N σ' H'->∃m',m'<m/\W (i+1) m' σ' H')/\∀x H',J.nQ i H x H'->g x σ H' λσ2 H2=>tb { D with nx:=N,ct:=N,bk:=D.nx} σ2 H2)
def De(fp:List Addr)(h:Heap):List (Addr×Obj):=fp.filterMap λb=>(h.get? b).map λo=>(b,o)
theorem K'{fp:List Addr}{h:Heap}{b:Addr}{o:Obj}(hb:b∈fp)(e:h.get? b=some o):(b,o)∈De fp h:=B66.mpr #[b,hb,by rw[e];rfl]
theorem va6(hp:p∈De fp h):p.1∈fp/\h.get? p.1=some p.2:=by
 obtain⟨b,hb,e⟩:=B66.mp hp;cases q:h.get? b with
 | none=>rw[q] at e;cases e
 | some o =>
  rw[q] at e;have e':(b,o)=p:=E7 e;subst e';exact#[hb,q]
theorem Inv.pinned{pins:List (Addr×Obj)}{σ:St}{H:Hp}{s:Shared}{fp:List Addr}(I:Inv X pins σ H s)(hf:∀b∈fp,fS X pins H b)(ho:∀b∈fp,∃o,s.heap.get? b=some o/\∀v,o.data≠.cell v):Inv X (pins++De fp s.heap) σ H s :=
 I.pF λp hp=>(K1.mp hp).elim (λz=>I.pin p (L8 _ z)) λz=>by
  obtain⟨hb,e⟩:=va6 z;obtain⟨f0,f1,f2,_⟩:=hf p.1 hb;obtain⟨o,e',d⟩:=ho p.1 hb;rw[e] at e';cases e';exact#[e,f0,f1,f2,d]
theorem Inv.f_{pins pl:List (Addr×Obj)}{σ:St}{H:Hp}{s:Shared}(I:Inv X (pins++pl) σ H s):Inv X pins σ H s:=I.pF λp hp=>I.pin p (L8 _ (B42 _ hp))
theorem wn8{iter:Expr}{body:List Stmt}{wi:TI}{g:TG}{tb:TS}{pos:Pos}(hp:ME (model X.prog X.w) X.A X.env X.xe)(hc:X.calm=true)(hi:PI X tg iter wi)(hg:PG X tg g)(hb:nX X body tb)
  (hs:∀x,V7 iter X.env x=pure x:=by intro _;rfl):PS X (.For tg iter body [] pos) (DS wi g tb):=by
 intro pins s σ H D I h;refine wpAny_For (a_ (hi pins s σ H _ I h) λv s1 h1=>a_ h1 λLx s2 h2=>?_) hs;obtain⟨it,fp,tn,J,H2,e,I2,T,lH,f2,W,⟨m0,w0⟩,turn⟩:=h2;subst e;have ou:∀{H':Hp},(∀b∈fp,H' b=none)->∀b∈fp,fS X pins H' b:=λhn b hb=>#[hn b hb,(f2 b hb).2]
 refine codeAny_forLoop_any (λn s'=>∃i σ' H',Inv X pins σ' H' s'/\tn i s'.heap/\(∀b∈fp,H' b=none)/\W i n σ' H') ?_ m0 #[0,σ,H2,I2,lH,λb hb=>(f2 b hb).1,w0];rintro n s3 ⟨i,σ3,H3,I3,Lc,fr3,w3⟩
 rcases turn i n σ3 H3 w3 with⟨stop,qn⟩|⟨go,N,hN,step⟩
 ·(refine V3 hp (a_ (T.done X rfl rfl rfl hc i pins s3 σ3 H3 X.xe I3 (ou fr3) Lc stop) ?_);rintro r s4 ⟨hr,I4⟩)
  subst hr;exact MS ⟨σ3,H3,I4,qn⟩
 ·(refine V3 hp (a_ (T.item X rfl rfl rfl hc i pins s3 σ3 H3 X.xe I3 (ou fr3) Lc go) ?_);rintro r s4 ⟨u,hr,h4⟩)
  subst hr
  (refine V3 hp (a_ h4 ?_);rintro _ s5 ⟨x,H5,I5,r5,y5,BF,LN⟩)
  have I5':=I5.pinned (ou LN) (T.obj _ _ BF)
  (refine V3 hp (a_ (hg _ s5 σ3 H5 x u _ I5' r5 (step x H5 y5)) ?_);rintro _ s6 ⟨σ6,H6,I6,q6⟩)
  refine V3 hp (a_ (hb _ s6 σ6 H6 _ I6 q6) λf s7 q7=>?_);have again:∀{σ7:St} {H7:Hp},Inv X (pins++De fp s5.heap) σ7 H7 s7->N σ7 H7->∃m,m<n/\∃i σ' H',Inv X pins σ' H' s7/\tn i s7.heap/\(∀b∈fp,H' b=none)/\W i m σ' H':=λ{σ7 H7} I7 n7=>by
   obtain⟨m',hm,w7⟩:=hN σ7 H7 n7;refine#[m',hm,i+1,σ7,H7,I7.f_,T.keep _ _ _ BF λb hb o e=>(I7.pin (b,o) (L8 _ (L8 _ (K' hb e)))).1,λb hb=>?_,w7];obtain⟨o,e,d⟩:=T.obj _ _ BF b hb;exact(I7.pin (b,o) (L8 _ (L8 _ (K' hb e)))).2.1
  cases f with
  | next=>obtain⟨σ7,H7,I7,n7⟩:=q7;exact again I7 n7
  | cont=>obtain⟨σ7,H7,I7,n7⟩:=q7;exact again I7 n7
  | brk=>obtain⟨σ7,H7,I7,q7⟩:=q7;exact#[σ7,H7,I7.f_,q7]
  | ret v=>obtain⟨x7,σ7,H7,I7,r7,q7⟩:=q7;exact#[x7,σ7,H7,I7.f_,r7,q7]
end
abbrev R2:=V->V->Hp->VK->Prop
def dy(X:Cx)(f:Value->Value->Sem Value)(r:R2):Prop :=
 ∀(pins:List (Addr×Obj)) (s:Shared) (σ:St) (H:Hp) (x y:V) (v u:Value) (Q:VK),Inv X pins σ H s->RelV x v->RelV y u->r x y H Q ->
  wpAny (model X.prog X.w) X.A (f v u) (EP X pins σ Q) X.xe s
def xh(X:Cx)(f:Value->Sem Value)(r:V->Hp->VK->Prop):Prop :=
 ∀(pins:List (Addr×Obj)) (s:Shared) (σ:St) (H:Hp) (x:V) (v:Value) (Q:VK),Inv X pins σ H s->RelV x v->r x H Q ->
  wpAny (model X.prog X.w) X.A (f v) (EP X pins σ Q) X.xe s
def bK(X:Cx)(f:Value)(r:List V->Hp->VK->Prop):Prop :=
 ∀(pins:List (Addr×Obj)) (s:Shared) (σ:St) (H:Hp) (xs:List V) (us:List Value) (Q:VK),Inv X pins σ H s->Vals xs us->r xs H Q ->
  wpAny (model X.prog X.w) X.A (call f us) (EP X pins σ Q) X.xe s
def DN(r:R2)(ta tb:TE):TE:=λσ H Q=>ta σ H λx H1=>tb σ H1 λy H2=>r x y H2 Q
def tUn(r:V->Hp->VK->Prop)(ta:TE):TE:=λσ H Q=>ta σ H λx H1=>r x H1 Q
def rI(C:Int->Int->Prop)(g:Int->Int->V):R2:=λx y H Q=>∃i j,x=.int i/\y=.int j/\C i j/\Q (g i j) H
def qG(g:Int->Int->V):R2:=λx y H Q=>∃i j,x=.int i/\y=.int j/\Q (g i j) H
def rU(g:Int->V):V->Hp->VK->Prop:=λx H Q=>∃i,x=.int i/\Q (g i) H
section
variable{X:Cx}{a b c:Expr}{ta tb tc:TE}{pos:Pos}
theorem AB(ha:PE X a ta)(hb:PE X b tb){pins:List (Addr×Obj)}{s:Shared}{σ:St}{H:Hp}{R:V->V->Hp->Prop}(I:Inv X pins σ H s)
  (h:ta σ H λx H1=>tb σ H1 λy H2=>R x y H2) {Q:Value->Shared->Prop} {f:Value->Value->Sem Value}
  (hf:∀v u s2 x y H2,Inv X pins σ H2 s2->RelV x v->RelV y u->R x y H2->wpAny (model X.prog X.w) X.A (f v u) Q X.xe s2) :
  wpAny (model X.prog X.w) X.A (eval a X.env) (λv s₁=>wpAny (model X.prog X.w) X.A (eval b X.env) (λu s₂=>wpAny (model X.prog X.w) X.A (f v u) Q X.xe s₂) X.xe s₁) X.xe s:=by
 (refine a_ (ha pins s σ H _ I h) ?_;rintro v s1 ⟨x,H1,I1,r1,q1⟩)
 (refine a_ (hb pins s1 σ H1 _ I1 q1) ?_;rintro u s2 ⟨y,H2,I2,r2,q2⟩)
 exact hf v u s2 x y H2 I2 r1 r2 q2
theorem xa1{op:Operator}{r:R2}(ho:dy X (M0 op) r)(ha:PE X a ta)(hb:PE X b tb):PE X (.BinOp a op b pos) (DN r ta tb):=by
 intro pins s σ H Q I h;exact wpAny_BinOp (AB ha hb I h λv u s2 x y H2 I2 rx ry q=>ho pins s2 σ H2 x y v u Q I2 rx ry q)
theorem x99{op:UnaryOp}{r:V->Hp->VK->Prop}(ho:xh X (Co op) r)(ha:PE X a ta):PE X (.UnaryOp op a pos) (tUn r ta):=by
 intro pins s σ H Q I h
 (refine UnaryOp_ (a_ (ha pins s σ H _ I h) ?_);rintro v s1 ⟨x,H1,I1,r1,q1⟩;exact ho pins s1 σ H1 x v Q I1 r1 q1)
theorem BL{f:Value->Value->Sem Value}{C:Int->Int->Prop}{g:Int->Int->Int}
  (rule:∀(i j:Int) (t u:Tok) (s:Shared) (Q:Value->Shared->Prop) (E:Value->Shared->Prop),C i j->Q (.int (g i j) s.toks) { s with toks:=s.toks+1}->wpAny (model X.prog X.w) X.A (f (.int i t) (.int j u)) Q E s) :
  dy X f (rI C λi j=>.int (g i j)):=by
 intro pins s σ H x y v u Q I rx ry h;obtain⟨i,j,rfl,rfl,hc,q⟩:=h;obtain⟨t,rfl⟩:=rx;obtain⟨t',rfl⟩:=ry;exact rule i j t t' s _ _ hc #[.int (g i j),H,I.tok _,#[_,rfl],q]
theorem qH{f:Value->Value->Sem Value}{g:Int->Int->Int}
  (rule:∀(i j:Int) (t u:Tok) (s:Shared) (Q:Value->Shared->Prop) (E:Value->Shared->Prop),Q (.int (g i j) s.toks) { s with toks:=s.toks+1}->wpAny (model X.prog X.w) X.A (f (.int i t) (.int j u)) Q E s) :
  dy X f (qG λi j=>.int (g i j)):=by
 intro pins s σ H x y v u Q I rx ry h;obtain⟨i,j,rfl,rfl,q⟩:=h;obtain⟨t,rfl⟩:=rx;obtain⟨t',rfl⟩:=ry;exact rule i j t t' s _ _ #[.int (g i j),H,I.tok _,#[_,rfl],q]
theorem zB{f:Value->Value->Sem Value}{g:Int->Int->Bool}
  (rule:∀(i j:Int) (t u:Tok) (s:Shared) (Q:Value->Shared->Prop) (E:Value->Shared->Prop),Q (.bool (g i j)) s->wpAny (model X.prog X.w) X.A (f (.int i t) (.int j u)) Q E s) :
  dy X f (qG λi j=>.bl (g i j)):=by
 intro pins s σ H x y v u Q I rx ry h;obtain⟨i,j,rfl,rfl,q⟩:=h;obtain⟨t,rfl⟩:=rx;obtain⟨t',rfl⟩:=ry;exact rule i j t t' s _ _ #[.bl (g i j),H,I,rfl,q]
def xt(i j:Int):Prop:=0<j/\j<1073741824
def nO(i j:Int):Prop:=0<=j/\j<=1000000/\i.natAbs<2^64
def jb(i j:Int):Prop:=(-(2^64)<i/\i<2^64)\/(-(2^64)<j/\j<2^64)
theorem jb.ok(h:jb i j):IntMulOk i j:=by
 rcases h with⟨h1,h2⟩|⟨h1,h2⟩
 ·exact .of_left (intBits_le_64 h1 h2)
 ·exact .of_right (intBits_le_64 h1 h2)
theorem v17(k:Nat):(0:Int)<=2^k:=by
 rw[two_pow_cast];exact B67 _
theorem zA:dy X (M0 .Add) (qG λi j=>.int (i+j)):=qH λ_ _ _ _ _ _ _ q=>add_int q
theorem wq0:dy X (M0 .Sub) (qG λi j=>.int (i-j)):=qH λ_ _ _ _ _ _ _ q=>sub_int q
theorem zy:dy X (M0 .Mult) (rI jb λi j=>.int (i*j)):=BL λ_ _ _ _ _ _ _ hc q=>mul_int q hc.ok
theorem wq6:dy X (M0 .Mod) (rI (λ_ j=>0<j) λi j=>.int (i%j)):=BL λi j _ _ _ _ _ hc q=>by
 have h1:(0:Int)<j:=hc;exact mod_int' () (by rw[A63 i ()];exact q)
theorem wq4:dy X (M0 .Pow) (rI nO λi j=>.int (i^j.toNat)):=BL λ_ _ _ _ _ _ _ hc q=>pow_int_small hc.1 hc.2.1 hc.2.2 q
theorem wq2:dy X (M0 .LShift) (rI nO λi j=>.int (i*2^j.toNat)):=BL λ_ _ _ _ _ _ _ hc q=>lshift_int_small hc.1 hc.2.1 hc.2.2 q
theorem wq1:dy X (M0 .RShift) (rI (λ_ j=>0<=j) λi j=>.int (i / 2^j.toNat)):=BL λi j _ _ _ _ _ hc q =>
 rshift_int hc (by rw[Y5 i (v17 _)];exact q)
theorem wq9:dy X (M0 .BitAnd) (qG λi j=>.int (R7 i j)):=qH λ_ _ _ _ _ _ _ q=>and_int q
theorem xa6:dy X (M0 .BitOr) (qG λi j=>.int (JG i j)):=qH λ_ _ _ _ _ _ _ q=>or_int q
theorem wp9:dy X (M0 .BitXor) (qG λi j=>.int (JH i j)):=qH λ_ _ _ _ _ _ _ q=>xor_int q
theorem we8:dy X (AQ .Add) (qG λi j=>.int (i+j)):=qH λ_ _ _ _ _ _ _ q=>iadd_int q
theorem unI{f:Value->Sem Value}{g:Int->Int}
  (rule:∀(i:Int) (t:Tok) (s:Shared) (Q:Value->Shared->Prop) (E:Value->Shared->Prop),Q (.int (g i) s.toks) { s with toks:=s.toks+1}->wpAny (model X.prog X.w) X.A (f (.int i t)) Q E s) :
  xh X f (rU λi=>.int (g i)):=by
 intro pins s σ H x v Q I rx h;obtain⟨i,rfl,q⟩:=h;obtain⟨t,rfl⟩:=rx;exact rule i t s _ _ #[.int (g i),H,I.tok _,#[_,rfl],q]
theorem wk3:xh X (Co .USub) (rU λi=>.int (-i)):=unI λ_ _ _ _ _ q=>neg_int q
theorem wk4:xh X (Co .Invert) (rU λi=>.int (U7 i)):=unI λ_ _ _ _ _ q=>invert_int q
end
def DY:V->V->Bool
 | .non,.non=>true|.non,.int _=>true|.int _,.non=>true|.non,.bl _=>true|.bl _,.non=>true|.non,.str _=>true|.str _,.non=>true
 | .int _,.int _=>true|.bl _,.bl _=>true|.str _,.str _=>true|.rN _,.rN _=>true
 | .int _,.str _=>true|.str _,.int _=>true|.bl _,.str _=>true|.str _,.bl _=>true
 | _,_=>false
def rEq:R2:=λx y H Q=>DY x y=true/\Q (.bl (decide (x=y))) H
def rNe:R2:=λx y H Q=>DY x y=true/\Q (.bl (!decide (x=y))) H
theorem YZ:decide (V.int i=V.int j)=(i==j):=by
 rw[T9];simp
theorem Xs:decide (V.bl i=V.bl j)=(i==j):=by
 rw[T9];simp
theorem Y_:decide (V.str i=V.str j)=(i==j):=by
 rw[T9];simp
theorem YY:decide (V.rN i=V.rN j)=(i.toList==j.toList):=by
 rw[T9];cases i;cases j;simp
section
variable{X:Cx}{a b c:Expr}{ta tb tc:TE}{pos:Pos}
theorem fD(I:Inv X pins σ H s)(q:Q (.bl k) H)(e:k=k'):EP X pins σ Q (.bool k') s:=by
 subst e;exact#[.bl k,H,I,rfl,q]
theorem FA:dy X (O6 .Eq) rEq:=by
 intro pins s σ H x y v u Q I rx ry h;obtain⟨hs,q⟩:=h;cases x with
 | non =>
  cases rx;cases y with
  | non=>cases ry;exact C31 (fD I q (by simp))
  | bl j=>cases ry;exact C32 (fD I q (by simp))
  | int j=>obtain⟨t',rfl⟩:=ry;exact C45 (fD I q (by simp))
  | str j=>obtain⟨t',rfl⟩:=ry;exact C46 (fD I q (by simp))
  | _=>exact absurd (show false=true from hs) D2
 | bl i =>
  cases rx;cases y with
  | non=>cases ry;exact C33 (fD I q (by simp))
  | bl j=>cases ry;exact eq_bool (fD I q Xs)
  | str j=>obtain⟨t',rfl⟩:=ry;exact C34 (fD I q (by simp))
  | _=>exact absurd (show false=true from hs) D2
 | int i =>
  obtain⟨t,rfl⟩:=rx;cases y with
  | non=>cases ry;exact C47 (fD I q (by simp))
  | int j=>obtain⟨t',rfl⟩:=ry;exact eq_int (fD I q YZ)
  | str j=>obtain⟨t',rfl⟩:=ry;exact C48 (fD I q (by simp))
  | _=>exact absurd (show false=true from hs) D2
 | str i =>
  obtain⟨t,rfl⟩:=rx;cases y with
  | non=>cases ry;exact C49 (fD I q (by simp))
  | bl j=>cases ry;exact C35 (fD I q (by simp))
  | int j=>obtain⟨t',rfl⟩:=ry;exact C50 (fD I q (by simp))
  | str j=>obtain⟨t',rfl⟩:=ry;exact eq_str (fD I q Y_)
  | _=>exact absurd (show false=true from hs) D2
 | rN i =>
  obtain⟨t,rfl⟩:=rx;cases y with
  | rN j=>obtain⟨t',rfl⟩:=ry;exact W.eq_bytes (fD I q YY)
  | _=>exact absurd (show false=true from hs) D2
 | _=>cases y <;> exact absurd (show false=true from hs) D2
theorem Fx:dy X (O6 .NotEq) rNe:=by
 intro pins s σ H x y v u Q I rx ry h;obtain⟨hs,q⟩:=h;cases x with
 | non =>
  cases rx;cases y with
  | non=>cases ry;exact C36 (fD I q (by simp))
  | bl j=>cases ry;exact C37 (fD I q (by simp))
  | int j=>obtain⟨t',rfl⟩:=ry;exact C51 (fD I q (by simp))
  | str j=>obtain⟨t',rfl⟩:=ry;exact C52 (fD I q (by simp))
  | _=>exact absurd (show false=true from hs) D2
 | bl i =>
  cases rx;cases y with
  | non=>cases ry;exact C38 (fD I q (by simp))
  | bl j=>cases ry;exact ne_bool (fD I q (congrArg not Xs))
  | str j=>obtain⟨t',rfl⟩:=ry;exact C39 (fD I q (by simp))
  | _=>exact absurd (show false=true from hs) D2
 | int i =>
  obtain⟨t,rfl⟩:=rx;cases y with
  | non=>cases ry;exact C53 (fD I q (by simp))
  | int j=>obtain⟨t',rfl⟩:=ry;exact ne_int (fD I q (congrArg not YZ))
  | str j=>obtain⟨t',rfl⟩:=ry;exact C54 (fD I q (by simp))
  | _=>exact absurd (show false=true from hs) D2
 | str i =>
  obtain⟨t,rfl⟩:=rx;cases y with
  | non=>cases ry;exact C55 (fD I q (by simp))
  | bl j=>cases ry;exact C40 (fD I q (by simp))
  | int j=>obtain⟨t',rfl⟩:=ry;exact C56 (fD I q (by simp))
  | str j=>obtain⟨t',rfl⟩:=ry;exact ne_str (fD I q (congrArg not Y_))
  | _=>exact absurd (show false=true from hs) D2
 | rN i =>
  obtain⟨t,rfl⟩:=rx;cases y with
  | rN j=>obtain⟨t',rfl⟩:=ry;exact W.ne_bytes (fD I q (congrArg not YY))
  | _=>exact absurd (show false=true from hs) D2
 | _=>cases y <;> exact absurd (show false=true from hs) D2
theorem Fz:dy X (O6 .Lt) (qG λi j=>.bl (decide (i<j))):=zB λ_ _ _ _ _ _ _ q=>lt_int q
theorem xa7:dy X (O6 .Gt) (qG λi j=>.bl (decide (j<i))):=zB λ_ _ _ _ _ _ _ q=>gt_int q
theorem xa8:dy X (O6 .GtE) (qG λi j=>.bl (decide (j<=i))):=zB λ_ _ _ _ _ _ _ q=>ge_int q
theorem va3:dy X (O6 .Lt) (λx y H Q=>∃i j,x=.str i/\y=.str j/\Q (.bl (decide (i.cps.toList<j.cps.toList))) H):=by
 intro pins s σ H x y v u Q I rx ry h;obtain⟨i,j,rfl,rfl,q⟩:=h;obtain⟨t,rfl⟩:=rx;obtain⟨t',rfl⟩:=ry;exact lt_str (fD I q rfl)
theorem dy.or{f:Value->Value->Sem Value}{r r':R2}(h:dy X f r)(h':dy X f r'):dy X f (λx y H Q=>r x y H Q\/r' x y H Q):=by
 intro pins s σ H x y v u Q I rx ry q
 rcases q with q|q
 ·exact h pins s σ H x y v u Q I rx ry q
 ·exact h' pins s σ H x y v u Q I rx ry q
theorem ah(b:Expr)(h:op≠.In:=by decide)(h2:op≠.NotIn:=by decide):CA op b=false:=by
 have e1:(op==CmpOp.In)=false:=by cases op <;> first|rfl|exact absurd rfl h
 have e2:(op==CmpOp.NotIn)=false:=by cases op <;> first|rfl|exact absurd rfl h2
 cases b <;> simp[CA,e1,e2]
theorem wb5(ho:dy X (O6 op) r)(ha:PE X a ta)(hb:PE X b tb)(hm:CA op b=false):PE X (.Compare a [op] [b] pos) (DN r ta tb):=by
 intro pins s σ H Q I h;exact wpAny_Compare1 (AB ha hb I h λv u s2 x y H2 I2 rx ry q=>ho pins s2 σ H2 x y v u Q I2 rx ry q) hm
def x86(t:TE):TT:=λσ H Q=>t σ H λx H'=>∃k,x=.bl k/\Q k H'
theorem w96{op:CmpOp}{r:R2}(ho:dy X (O6 op) r)(ha:PE X a ta)(hb:PE X b tb)(hm:CA op b=false):PT X (.Compare a [op] [b] pos) (x86 (DN r ta tb)):=by
 intro pins s σ H Q I h;refine wpAny_isTrue_Compare1 (a_ (ha pins s σ H _ I h) λv s1 ⟨x,H1,I1,r1,q1⟩=>a_ (hb pins s1 σ H1 _ I1 q1) λu s2 ⟨y,H2,I2,r2,q2⟩ =>
  a_ (ho pins s2 σ H2 x y v u _ I2 r1 r2 q2) λc s3 ⟨z,H3,I3,r3,k,e,q3⟩=>?_) hm
 subst e;cases r3;exact T6 #[H3,I3,q3]
theorem gM:(sizeLine:Nat)<2^63:=by rw[Vd];decide
theorem oK:dy X (M0 .Add) (λx y H Q=>∃i j,x=.str i/\y=.str j/\i.length+j.length<=sizeLine/\Q (.str (i++j)) H):=by
 intro pins s σ H x y v u Q I rx ry h;obtain⟨i,j,rfl,rfl,hz,q⟩:=h;obtain⟨t,rfl⟩:=rx;obtain⟨t',rfl⟩:=ry;exact add_str (λt' tk=>#[.str (i++j),H,I.tok _,#[_,rfl],q]) hz
theorem vals1(r:Vals [x] us):∃u,us=[u]/\RelV x u:=by
 cases r with
 | cons r1 r2=>cases r2;exact#[_,rfl,r1]
theorem vals2(r:Vals [x,y] us):∃u w',us=[u,w']/\RelV x u/\RelV y w':=by
 cases r with
 | cons r1 r2 =>
  cases r2 with
  | cons r3 r4=>cases r4;exact#[_,_,rfl,r1,r3]
theorem vr8:bK X (.builtin "abs") (λxs H Q=>∃i,xs=[.int i]/\Q (.int (if i<0 then -i else i)) H):=by
 intro pins s σ H xs us Q I r h;obtain⟨i,rfl,q⟩:=h;obtain⟨u,rfl,t,rfl⟩:=vals1 r;exact call_abs_int λu tk=>#[.int (if i<0 then -i else i),H,I.tok _,#[_,rfl],q]
theorem vh7(hc:X.calm=true):bK X (.builtin "max") (λxs H Q=>∃i j,xs=[.int i,.int j]/\Q (.int (if j>i then j else i)) H):=by
 intro pins s σ H xs us Q I r h;obtain⟨i,j,rfl,q⟩:=h;obtain⟨u,w',rfl,⟨t,rfl⟩,⟨t',rfl⟩⟩:=vals2 r;refine max_two_ints (I.ok.hd hc) λh' tk k=>#[_,H,I.kept k,?_,q]
 by_cases hj:j>i
 ·rw[if_pos hj,if_pos hj];exact#[_,rfl]
 ·rw[if_neg hj,if_neg hj];exact#[_,rfl]
theorem vh5(hc:X.calm=true):bK X (.builtin "min") (λxs H Q=>∃i j,xs=[.int i,.int j]/\Q (.int (if j<i then j else i)) H):=by
 intro pins s σ H xs us Q I r h;obtain⟨i,j,rfl,q⟩:=h;obtain⟨u,w',rfl,⟨t,rfl⟩,⟨t',rfl⟩⟩:=vals2 r;refine min_two_ints (I.ok.hd hc) λh' tk k=>#[_,H,I.kept k,?_,q]
 by_cases hj:j<i
 ·rw[if_pos hj,if_pos hj];exact#[_,rfl]
 ·rw[if_neg hj,if_neg hj];exact#[_,rfl]
theorem vh9:bK X (.type "int") (λxs H Q=>(∃i,xs=[.int i]/\Q (.int i) H)\/∃k,xs=[.bl k]/\Q (.int (if k then 1 else 0)) H):=by
 intro pins s σ H xs us Q I r h
 rcases h with⟨i,rfl,q⟩|⟨k,rfl,q⟩
 ·obtain⟨u,rfl,t,rfl⟩:=vals1 r
  exact call_int_int #[.int i,H,I,#[_,rfl],q]
 ·obtain⟨u,rfl,r1⟩:=vals1 r
  cases r1;exact call_int_bool #[.int (if k then 1 else 0),H,I.tok _,#[_,rfl],q]
theorem uv8:bK X (.builtin "divmod") (λxs H Q=>∃i j,xs=[.int i,.int j]/\xt i j/\∀p,H p=none->Q (.ref p) (upd H p (.tup [.int (i / j),.int (i%j)]))):=by
 intro pins s σ H xs us Q I r h;obtain⟨i,j,rfl,⟨h1,h2⟩,q⟩:=h;obtain⟨u,w',rfl,⟨t,rfl⟩,⟨t',rfl⟩⟩:=vals2 r;refine divmod_int () ?_ (.inl (PyProof.noPylong_small ()));rw[Y5 i (),A63 i ()];have hn:H s.heap.objs.size=none:=I.az.fresh (B8 _);refine#[.ref s.heap.objs.size,_,?_,rfl,q _ hn];refine I.laid (λb o e=>B6 _ e) (B8 _) #[by simp only[C1,O8];rw[Vd];decide,[.int (i / j) s.toks,.int (i%j) (s.toks+1)],.cons #[_,rfl] (.cons #[_,rfl] .nil),?_];exact#[_,D4 s.heap rfl,rfl,#[0,rfl],rfl]
end
structure pv(h:Heap)(x dx C:Addr)(mA:Str->Option Value):Prop where
 obj:h.get? x=some (W.instObj C dx)
 ns:h.Ns1 dx mA
 ne:dx≠x
theorem vd0{h:Heap}(n:h.Ns1 dx mA):∃od,h.get? dx=some od/\∀name,W.lookIn name od=some (mA name):=by
 obtain⟨o,es,ep,ho,hd,hk,_,hm⟩:=n;refine#[o,ho,λname=>?_];have e:=hm name;unfold nsFind findBy at e;rw[<- Array.find?_toList] at e;unfold W.lookIn;rw[hd];dsimp only;split
 ·rename_i y q
  rw[q] at e;exact congrArg some e
 ·rename_i q
  rw[q] at e;have a:es.toList.any (·.refKey)=false:=by
   rw[V4];intro y hy;obtain⟨z,t,Ae⟩:=hk y (Array.mem_toList_iff.mp hy);simp[D12,Ae]
  have a':¬ es.toList.any (·.refKey)=true:=by rw[a];exact D2
  rw[if_neg a'];exact congrArg some e
theorem pv.look(I:pv h x dx C mA):∃od,W.InstAt h x (W.instObj C dx) C (some od)/\∀name,W.lookIn name od=some (mA name) :=
 let ⟨od,ho,hl⟩:=vd0 I.ns
 #[od,#[I.obj,rfl,rfl,ho],hl]
section
variable{prog:Program}{w:World}{A:Around}{E:Value->Shared->Prop}{s:Shared}{K:W.Frag}{x dx C f:Addr}{mA:Str->Option Value}{name:Str}{v:Value}
theorem wf2(X:K.In s.heap)(I:pv s.heap x dx C mA)(hg:W.plainGet K C name=true)(hh:W.hasDictIn K C=true)
  (ha:W.findIn K (.ref C) name=some none) (hv:mA name=some v) (hv':W.handedIn v=true) (h:Q v { s with toks:=s.toks+1}) :
  wpAny (model prog w) A (getAttr (.ref x) name expr) Q E s:=by
 obtain⟨od,J,hl⟩:=I.look;exact W.get_value X J (W.plainGet_of hg).1 (W.findObj_own hh ha rfl (by rw[hl,hv])) hv' h
theorem vq4(X:K.In s.heap)(I:pv s.heap x dx C mA)(hg:W.plainGet K C name=true)
  (hf:W.findIn K (.ref C) name=some (some (.ref f))) (ht:W.isFn K (.ref f)=true) (hv:mA name=none) (h:Q (.ref f,[.ref x]) s) :
  wpAny (model prog w) A (yQ (.ref x) name pl) Q E s:=by
 obtain⟨od,J,hl⟩:=I.look;exact W.method_fn X J (W.plainGet_of hg).1 (W.plainGet_of hg).2 hf (beq_iff_eq.mp ht) (by show(W.lookIn name od).map (·.isSome)=some false;rw[hl,hv];rfl) h
theorem w20(X:K.In s.heap)(I:pv s.heap x dx C mA)
  (hs:W.findIn K (.ref C) "__setattr__" = some (some (.builtin "object.__setattr__"))) (hp:W.plainOver K C=true) (ht:W.takerIn K C name=some none) (hh:W.hasDictIn K C=true)
  (hw:Vq mA ns) (hsz:ns.length<=sizeLine)
  (h:∀h',pv h' x dx C (λy=>if y=name then some v else mA y)->R6 dx s.heap h'->Q #[] { s with heap:=h',toks:=s.toks+2}) :
  wpAny (model prog w) A (setAttr (.ref x) name v) Q E s:=by
 obtain⟨od,J,hl⟩:=I.look;refine W.set_plain X J hs (W.osa_open (s:={ s with toks:=s.toks+1}) (r:=none) X J hp ht λb=>?_);obtain⟨cd,hc,jy⟩:=W.any_some hh;have hx:s.heap.get? x=some #[.ref C,some dx,.plain,[].toArray]:=I.obj;refine B5 (C2 (B5 (B5 (wpAny_loadPart hx (B5 (W.Looks.here (s:={ s with toks:=s.toks+1}) (W.looks_clsIn X hc) ?_))))));rw[jy];refine C2 (a:=some dx) (B5 (C2 (B5 ?_)));refine wpAny_nsSet1 (s:={ s with toks:=s.toks+1}) I.ns λh' pM cy=>?_
 obtain⟨oD,esD,epD,hoD,hdD,hcD⟩:=pM.count (D05 name v hw);refine B5 (wpAny_lookBehind hoD (by rw[hdD];exact pastItsLine_dict (D6 hcD (by rw[C1];omega))) ?_);exact C2 (h _ #[(cy.2 _ (D8 I.ne)).trans I.obj,pM,I.ne] cy)
theorem vn4(X:K.In s.heap)(hm:W.makesIn K C=true)
  (hi:W.findIn K (.ref C) "__init__" = some (some (.ref f))) (hf:W.typeIn K (.ref f)=some (.type "function"))
  (h:rj (model prog w) (A.under (.builtin "type.__call__" #[.ref C::vs,kw])) (.call (.ref f) #[.ref (s.heap.objs.size+1)::vs,kw]) (W.InitBack (s.heap.objs.size+1) R)
   { s with heap:=(s.heap.push W.emptyDict).push (W.instObj C s.heap.objs.size)}) :
  rj (model prog w) A (.call (.ref C) #[vs,kw]) R s:=by
 obtain⟨hh,g,d,t,os⟩:=s;exact W.make_core (W.makes_of X hm) (W.looks_findIn X hi) (λself=>W.bind_fn X self hf) (.inl rfl) h
end
def cJ(f:Str)(v:V):List (Str×V)->List (Str×V)
 | []=>[(f,v)]
 | (g,x)::r=>if g=f then(g,v)::r else(g,x)::cJ f v r
theorem uh1(f g:Str)(v:V):∀fs:List (Str×V),(cJ f v fs).lookup g=if g=f then some v else fs.lookup g
 | []=>by
  show J4 g [(f,v)]=_
  by_cases h:g=f
  ·have hb:(g==f)=true:=beq_iff_eq.mpr h
   simp only[J4,hb,if_pos h]
  ·have hb:(g==f)=false:=beq_eq_false_iff_ne.mpr h
   simp only[J4,hb,if_neg h]
 | (k,x)::r=>by
  have ih:=uh1 f g v r;rw[show cJ f v ((k,x)::r)=(if k=f then(k,v)::r else(k,x)::cJ f v r) from rfl]
  by_cases hk:k=f
  ·rw[if_pos hk]
   by_cases h:g=k
   ·have hb:(g==k)=true:=beq_iff_eq.mpr h
    simp only[J4,hb,if_pos (h.trans hk)]
   ·have hb:(g==k)=false:=beq_eq_false_iff_ne.mpr h
    simp only[J4,hb,if_neg (λe:g=f=>h (e.trans hk.symm))]
  ·rw[if_neg hk]
   by_cases h:g=k
   ·have hb:(g==k)=true:=beq_iff_eq.mpr h
    simp only[J4,hb,if_neg (λe:g=f=>hk (h.symm.trans e))]
   ·have hb:(g==k)=false:=beq_eq_false_iff_ne.mpr h
    simp only[J4,hb];exact ih
theorem Rf(f:Str)(v:V):∀fs:List (Str×V),f∈(cJ f v fs).map (·.1)/\∀g,g∈fs.map (·.1)->g∈(cJ f v fs).map (·.1)
 | []=>#[by simp[cJ],λg h=>by simp at h]
 | (k,x)::r=>by
  obtain⟨i1,i2⟩:=Rf f v r;rw[show cJ f v ((k,x)::r)=(if k=f then(k,v)::r else(k,x)::cJ f v r) from rfl]
  by_cases hk:k=f
  ·rw[if_pos hk]
   subst hk;exact#[by simp,λg h=>by simpa using h]
  ·rw[if_neg hk]
   refine#[?_,λg h=>?_]
   ·rw[C0]
    exact C7 _ i1
   ·rw[C0] at h⊢
    rcases E6.mp h with e|e
    ·exact E6.mpr (.inl e)
    ·exact C7 _ (i2 g e)
theorem uh2(f:Str)(v:V):∀fs:List (Str×V),(cJ f v fs).length<=fs.length+1
 | []=>by simp[cJ]
 | (k,x)::r=>by
  have ih:=uh2 f v r;rw[show cJ f v ((k,x)::r)=(if k=f then(k,v)::r else(k,x)::cJ f v r) from rfl]
  by_cases hk:k=f
  ·rw[if_pos hk,C1,C1];omega
  ·rw[if_neg hk,C1,C1];omega
theorem dw.some_of(r:dw (some v) o):∃u,o=some u/\RelV v u:=by
 cases o with
 | none=>exact(show False from r).elim
 | some u=>exact#[u,rfl,r]
theorem dw.none_of(r:dw none o):o=none:=by
 cases o with
 | none=>rfl
 | some u=>exact(show False from r).elim
theorem ve5(r:RelV v u):W.handedIn u=true:=by
 cases v with
 | non=>cases(show u=V9 from r);rfl
 | bl b=>cases(show u=Y4 b from r);rfl
 | int i=>obtain⟨t,e⟩:=(show∃t,u=Ct i t from r);cases e;rfl
 | str x=>obtain⟨t,e⟩:=(show∃t,u=Cs x t from r);cases e;rfl
 | rN b=>obtain⟨t,e⟩:=(show∃t,u=C75 b t from r);cases e;rfl
 | uV b=>obtain⟨t,e⟩:=(show∃t,u=Vg b t from r);cases e;rfl
 | ref a=>cases(show u=F4 a from r);rfl
 | ty n=>cases(show u=C99 n from r);rfl
section
variable{P:Program}{w:World}{H H':Hp}{h h':Heap}{a C dx:Addr}{fs iE:List (Str×V)}
theorem Kx(az:fR P w H h)(e:H a=some (.ins C dx fs)):∃mA,pv h a dx C mA/\(∀f,dw (fs.lookup f) (mA f))/\Vq mA (fs.map (·.1))/\fs.length<=1000/\H dx=some (.own a):=by
 obtain⟨d,z,ne,ob,mA,n,r,q⟩:=(show bh P w H h a (.ins C dx fs) from az a _ e);exact#[mA,#[ob,n,ne],r,q,z,d]
end
structure ja(K:W.Frag)(C:Addr):Prop where
 pg:W.plainGet K C Y2=true
 hd:W.hasDictIn K C=true
 po:W.plainOver K C=true
 sa:W.findIn K (.ref C) "__setattr__" = some (some (.builtin "object.__setattr__"))
theorem ja.get{K:W.Frag}{C:Addr}(c:ja K C)(f:Str):W.plainGet K C f=true:=c.pg
def bJ(K:W.Frag)(C:Addr)(f:Str):Prop:=W.findIn K (.ref C) f=some none
theorem bJ.DE{K:W.Frag}{C:Addr}{f:Str}(n:bJ K C f):W.takerIn K C f=some none:=by
 unfold W.takerIn;rw[show W.findIn K (.ref C) f=some none from n];rfl
structure Meth(K:W.Frag)(C:Addr)(m:Str)(f:Addr):Prop where
 at_:W.findIn K (.ref C) m=some (some (.ref f))
 fn:W.isFn K (.ref f)=true
 kp:W.keepIn K (.ref f)=true
section
variable{X:Cx}{pins:List (Addr×Obj)}{σ:St}{H:Hp}{s:Shared}{a C dx:Addr}{fs:List (Str×V)}{f:Str}{v:V}{A:Around}{E:Value->Shared->Prop}
theorem ul0{b:Bool}{Q:Value->Shared->Prop}(I:Inv X pins σ H s)(e:H a=some (.ins C dx fs))(c:ja X.K C)(n:bJ X.K C f)(l:fs.lookup f=some v)
  (h:∀u s',Inv X pins σ H s'->RelV v u->Q u s'):wpAny (model X.prog X.w) A (getAttr (.ref a) f b) Q E s:=by
 obtain⟨mA,O,r,_,_,_⟩:=Kx I.az e;obtain⟨u,hu,ru⟩:=dw.some_of (v:=v) (o:=mA f) (by rw[<- l];exact r f);exact wf2 I.ie O (c.get f) c.hd n hu (ve5 ru) (h u _ (I.tok _) ru)
theorem uk9{m:Str}{g:Addr}{pl:Sem Bool}{Q:Value×List Value->Shared->Prop}(I:Inv X pins σ H s)(e:H a=some (.ins C dx fs))(c:ja X.K C)(k:Meth X.K C m g)(l:fs.lookup m=none)
  (h:Q (.ref g,[.ref a]) s):wpAny (model X.prog X.w) A (yQ (.ref a) m pl) Q E s:=by
 obtain⟨mA,O,r,_,_,_⟩:=Kx I.az e;have hn:mA m=none:=dw.none_of (by rw[<- l];exact r m);exact vq4 I.ie O (c.get m) k.at_ k.fn hn h
theorem uj9{y:V}{u:Value}{Q:Unit->Shared->Prop}(I:Inv X pins σ H s)(e:H a=some (.ins C dx fs))(c:ja X.K C)(n:bJ X.K C f)(hl:fs.length<1000)(ry:RelV y u)
  (h:∀s',Inv X pins σ (upd H a (.ins C dx (cJ f y fs))) s'->Q #[] s'):wpAny (model X.prog X.w) A (setAttr (.ref a) f u) Q E s:=by
 obtain⟨mA,O,r,wi,_,ho⟩:=Kx I.az e;have hz:(fs.map (·.1)).length<=sizeLine:=by rw[B0,Vd];omega
 refine w20 I.ie O c.sa c.po n.DE c.hd wi hz λh' O' sb=>h _ ?_
 have hd:∃o,h'.get? dx=some o:=let ⟨o,_,_,e',_⟩:=O'.ns;#[o,e'];refine I.write (x:=a) (e:=dx) (by rw[e];exact P9) (.inr ho) (λb q hb z=>(sb.2 b hb).trans z) hd ?_;refine#[by rw[cq O.ne];exact ho,?_,O.ne,O'.obj,_,O'.ns,λg=>?_,λg hg=>?_]
 ·have:=uh2 f y fs;omega
 ·show dw ((cJ f y fs).lookup g) (if g=f then some u else mA g)
  rw[uh1]
  by_cases q:g=f
  ·rw[if_pos q,if_pos q];exact ry
  ·rw[if_neg q,if_neg q];exact r g
 ·by_cases q:g=f
  ·rw[q];exact(Rf f y fs).1
  ·refine(Rf f y fs).2 g (wi g λz=>hg ?_)
   show(if g=f then some u else mA g)=none
   rw[if_neg q];exact z
theorem Inv.made(I:Inv X pins σ H s):Inv X pins σ (upd (upd H s.heap.objs.size (.own (s.heap.objs.size+1))) (s.heap.objs.size+1) (.ins C s.heap.objs.size []))
  { s with heap:=(s.heap.push W.emptyDict).push (W.instObj C s.heap.objs.size)}:=by
 have e1:(s.heap.push W.emptyDict).get? s.heap.objs.size=some W.emptyDict:=D4 s.heap rfl;have e2:((s.heap.push W.emptyDict).push (W.instObj C s.heap.objs.size)).get? (s.heap.objs.size+1)=some (W.instObj C s.heap.objs.size):=by
  have:=D4 (s.heap.push W.emptyDict) (o:=W.instObj C s.heap.objs.size) rfl
  rwa[N7] at this
 have e3:(s.heap.push W.emptyDict).Ns s.heap.objs.size (λ_=>none):=#[W.emptyDict,[].toArray,_,e1,rfl,(λe he=>absurd he (by simp)),λ_=>rfl];have I1:=I.laid (a:=s.heap.objs.size) (o:=.own (s.heap.objs.size+1)) (h':=s.heap.push W.emptyDict) (t':=s.toks) (λb u q=>B6 _ q) (B8 _) #[_,e1];refine I1.laid (a:=s.heap.objs.size+1) (o:=.ins C s.heap.objs.size []) (t':=s.toks) (λb u q=>B6 _ q) (C64 (N7 _ _)) ?_;have ne:s.heap.objs.size≠s.heap.objs.size+1:=I0 (W7 _);refine#[by rw[cq ne,f'],J8 _,ne,e2,λ_=>none,(Heap.Ns1.of_empty e3).at λo q=>B6 _ q,λ_=>P9,λy hy=>absurd rfl hy]
theorem wi2{prog:Program}{w:World}{env:Env}{e:Expr}{f:Str}{pos:Pos}{s:Shared}{Q:Value->Shared->Prop}(hb:O1 e f env (eval e env)=eval e env)
  (h:wpAny (model prog w) A (eval e env) (λo s₁=>wpAny (model prog w) A (getAttr o f true) Q E s₁) E s):wpAny (model prog w) A (eval (.Attribute e f pos) env) Q E s :=
 Attribute_any_ h (by rw[arm_eval_Attribute,hb])
end
def DT(K:W.Frag)(ta:TE)(f:Str):TE:=λσ H Q=>ta σ H λx H1=>∃a C dx fs v,x=.ref a/\H1 a=some (.ins C dx fs)/\ja K C/\bJ K C f/\fs.lookup f=some v/\Q v H1
def DZ(K:W.Frag)(ta tv:TE)(f:Str):TS:=λD σ H=>tv σ H λy H1=>ta σ H1 λx H2=>∃a C dx fs,x=.ref a/\H2 a=some (.ins C dx fs)/\ja K C/\bJ K C f/\fs.length<1000 /\
 D.nx σ (upd H2 a (.ins C dx (cJ f y fs)))
def UL(X:Cx)(op:Operator)(rd:V->V->Hp->VK->Prop):Prop :=
 ∀(pins:List (Addr×Obj)) (s:Shared) (σ:St) (H:Hp) (x y:V) (u v:Value) (Q:VK),Inv X pins σ H s->RelV x u->RelV y v->rd x y H Q->wpAny (model X.prog X.w) X.A (AQ op u v) (EP X pins σ Q) X.xe s
def Zt(K:W.Frag)(ta tv:TE)(rd:V->V->Hp->VK->Prop)(f:Str):TS:=λD σ H=>ta σ H λx H1=>∃a C dx fs v,x=.ref a/\H1 a=some (.ins C dx fs)/\ja K C/\bJ K C f/\fs.lookup f=some v /\
 tv σ H1 λy H2=>rd v y H2 λz H3=>∃sH iE,H3 a=some (.ins C sH iE)/\iE.length<1000/\D.nx σ (upd H3 a (.ins C sH (cJ f z iE)))
section
variable{X:Cx}{o e value:Expr}{f:Str}{pos pos' jm:Pos}{ta tv:TE}
theorem wp4(he:PE X e ta)(hb:O1 e f X.env (eval e X.env)=eval e X.env):PE X (.Attribute e f pos) (DT X.K ta f):=by
 intro pins s σ H Q I h
 (refine wi2 hb (a_ (he pins s σ H _ I h) ?_);rintro u s1 ⟨x,H1,I1,rx,a,C,dx,fs,v,ex,ea,c,n,l,q⟩)
 subst ex;obtain rfl:u=F4 a:=rx;exact ul0 I1 ea c n l λu' s2 I2 ru=>#[v,H1,I2,ru,q]
theorem wn9(ha:PE X o ta)(hv:PE X value tv)(hs:V2 value (some (.Attribute o f pos')) pos.line X.env=pure false):PS X (.Assign [.Attribute o f pos'] value pos) (DZ X.K ta tv f):=by
 intro pins s σ H D I h
 (refine plainObj_wpAny_Assign_Attribute (a_ (hv pins s σ H _ I h) ?_) hs;rintro u s1 ⟨y,H1,I1,ry,q⟩;refine a_ (ha pins s1 σ H1 _ I1 q) ?_;rintro ov s2 ⟨x,H2,I2,rx,a,C,dx,fs,ex,ea,c,n,l,q2⟩)
 subst ex;obtain rfl:ov=F4 a:=rx;exact uj9 I2 ea c n l ry λs3 I3=>#[σ,_,I3,q2]
theorem v91{op:Operator}{rd:V->V->Hp->VK->Prop}(ha:PE X o ta)(hv:PE X value tv)(hop:UL X op rd):PS X (.AugAssign (.Attribute o f jm) op value pos) (Zt X.K ta tv rd f):=by
 intro pins s σ H D I h
 (refine wpAny_AugAssign_AttributeAny (a_ (ha pins s σ H _ I h) ?_);rintro ov s1 ⟨x,H1,I1,rx,a,C,dx,fs,v,ex,ea,c,n,l,q⟩)
 subst ex;obtain rfl:ov=F4 a:=rx;refine ul0 I1 ea c n l λu s2 I2 ru=>a_ (hv pins s2 σ H1 _ I2 q) λw3 s3 ⟨y,H2,I3,ry,q3⟩=>a_ (hop pins s3 σ H2 v y u w3 _ I3 ru ry q3) λw4 s4 ⟨z,H3,I4,rz,sH,iE,ea',l',q4⟩=>?_
 exact uj9 I4 ea' c n l' rz λs5 I5=>#[σ,_,I5,q4]
end
section
variable{X:Cx}{pins:List (Addr×Obj)}{σ:St}{H:Hp}{s:Shared}{A:Around}{E:Value->Shared->Prop}{Q:Value->Shared->Prop}{c:Value}{b:Bool}
inductive ip(K:W.Frag)(H:Hp):V->Value->Prop where
 | non:ip K H .non (.type "NoneType")
 | bl (x:Bool):ip K H (.bl x) (.type "bool")
 | int (i:Int):ip K H (.int i) (.type "int")
 | str (x:Str):ip K H (.str x) (.type "str")
 | uV (x:UInt64):ip K H (.uV x) (.type "float")
 | lst {a:Addr} {xs:List V} (e:H a=some (.lst xs)):ip K H (.ref a) (.type "list")
 | dg {a:Addr} {o:Obj} {xs:List V} (e:H a=some (.dg o (.lst xs))):ip K H (.ref a) (.type "list")
 | tup {a:Addr} {xs:List V} (e:H a=some (.tup xs)):ip K H (.ref a) (.type "tuple")
 | dK {a:Addr} {kvs:List (Key×V)} (e:H a=some (.dK kvs)):ip K H (.ref a) (.type "dict")
 | dT {a:Addr} {kvs:List (List Key×V)} (e:H a=some (.dT kvs)):ip K H (.ref a) (.type "dict")
 | ins {a C dx:Addr} {fs:List (Str×V)} (e:H a=some (.ins C dx fs)) (cl:ja K C) (ha:W.findIn K (.ref C) "__class__" = some (some (.builtin "object.__class__")))
   (hn:W.specialIn K (.builtin "object.__class__") "__get__" = some (some (.builtin "getset_descriptor.__get__"))) (htk:W.takesIn K (.builtin "object.__class__")=some true)
   (hm:W.mroIn K C (.type "object")=some true):ip K H (.ref a) (.ref C)
theorem xQ(I:Inv X pins σ H s)(rx:RelV x u)(ty:ip X.K H x t)(e:W.kitOne X.K t c=some b)(h:∀tk,Q (.bool b) { s with toks:=tk}) :
  wpAny (model X.prog X.w) A (call (.builtin "isinstance") [u,c]) Q E s:=by
 cases ty with
 | non=>cases(show u=V9 from rx);exact W.kia_one W.kitx_none I.ie P9 e (λz=>nomatch z) h
 | bl y=>cases(show u=Y4 y from rx);exact W.kia_one W.kitx_bool I.ie P9 e (λz=>nomatch z) h
 | int i=>obtain⟨t,q⟩:=(show∃t,u=Ct i t from rx);cases q;exact W.kia_one W.kitx_int I.ie P9 e (λz=>nomatch z) h
 | str y=>obtain⟨t,q⟩:=(show∃t,u=Cs y t from rx);cases q;exact W.kia_one W.kitx_str I.ie P9 e (λz=>nomatch z) h
 | uV y=>obtain⟨t,q⟩:=(show∃t,u=Vg y t from rx);cases q;exact W.kia_one W.kitx_float I.ie P9 e (λz=>nomatch z) h
 | @lst a xs ea =>
  cases(show u=F4 a from rx);obtain⟨_,_,n,_,h1⟩:=(show bh X.prog X.w H s.heap a (.lst xs) from I.az a _ ea);exact W.kia_one W.kitx_list I.ie #[_,h1,rfl] e (λz=>nomatch z) h
 | @dg a ob xs ea =>
  cases(show u=F4 a from rx);obtain⟨_,_,_,n,_,h1⟩:=(show bh X.prog X.w H s.heap a (.dg ob (.lst xs)) from I.az a _ ea);exact W.kia_one W.kitx_list I.ie #[_,h1,rfl] e (λz=>nomatch z) h
 | @tup a xs ea =>
  cases(show u=F4 a from rx);obtain⟨_,_,_,p⟩:=(show bh X.prog X.w H s.heap a (.tup xs) from I.az a _ ea);obtain⟨o,h1,h2,_⟩:=p;exact W.kia_one W.kitx_tuple I.ie #[o,h1,h2] e (λz=>nomatch z) h
 | @dK a kvs ea =>
  cases(show u=F4 a from rx);obtain⟨_,_,vs,_,p⟩:=(show bh X.prog X.w H s.heap a (.dK kvs) from I.az a _ ea);obtain⟨o,es,ep,h1,h2,_⟩:=p;exact W.kia_one W.kitx_dict I.ie #[o,h1,h2.1] e (λz=>nomatch z) h
 | @dT a kvs ea =>
  cases(show u=F4 a from rx);obtain⟨_,_,xs,_,o,es,ep,h1,h2,_⟩:=(show bh X.prog X.w H s.heap a (.dT kvs) from I.az a _ ea);exact W.kia_one W.kitx_dict I.ie #[o,h1,h2.1] e (λz=>nomatch z) h
 | @ins a C dx fs ea cl ha hn htk hm =>
  cases(show u=F4 a from rx);obtain⟨mA,O,_⟩:=Kx I.az ea;obtain⟨od,J,_⟩:=O.look;exact W.kia_one (W.kitx_own (cl.get _) cl.hd ha hn htk hm) I.ie J e (λz=>nomatch z) h
end
structure aM(k:Nat)(A:Around):Prop where
 hd:A.handled=none
 dp:A.depth+3*k+5<recursionLimit
 un:A.units+16*k+200<cLine
theorem aM.mono(r:aM k A)(h:j<=k):aM j A:=#[r.hd,by have:=r.dp;omega,by have:=r.un;omega]
theorem aM.deeper(r:aM (k+1) A)(env:Env):aM k (A.deeper env) :=
 #[r.hd,by have:=r.dp;show A.depth+1+3*k+5<_;omega,by have:=r.un;show A.units+3+16*k+200<_;omega]
theorem aM.in1(r:aM (k+1) A):aM k A.in1 :=
 #[r.hd,by have:=r.dp;show A.depth+3*k+5<_;omega,by have:=r.un;show A.units+1+16*k+200<_;omega]
theorem v31{A:Around}:(A.under (.builtin "type.__call__" #[.ref C::us,kw])).depth=A.depth+1:=by
 first|rfl|simp[Vo,Code.weight,Code.isCreation,Code.isGuard,Code.isCaller,C77,Vn,guardIds]
theorem v30{A:Around}:(A.under (.builtin "type.__call__" ⟨.ref C::us,kw⟩)).units=A.units+1:=by
 first|rfl|simp[Vo,Code.cUnits,C77,Vn]
theorem aM.make(r:aM (k+1) A)(C:Addr)(us:List Value)(kw:List (Str×Value)):aM k (A.under (.builtin "type.__call__" ⟨.ref C::us,kw⟩)) :=
 ⟨r.hd,by have:=r.dp;rw[v31];omega,by have:=r.un;rw[v30];omega⟩
theorem aM.depth(r:aM k A):A.depth<recursionLimit:=by have:=r.dp;omega
theorem aM.units(r:aM k A):A.units+64<cLine:=by have:=r.un;omega
def vJ:TA:=λ_ H Q=>Q [] H
def PB(ta:TE)(tr:TA):TA:=λσ H Q=>ta σ H λx H1=>tr σ H1 λxs H2=>Q (x::xs) H2
section
variable{X:Cx}{e:Expr}{es:List Expr}{te:TE}{t:TA}{pos:Pos}
theorem XG:PA X [] vJ:=λ_ _ _ _ H Q I h=>R8 #[[],H,I,.nil,h]
theorem Zo(ha:PE X e te)(hr:PA X es t)(hs:C5 (e::es) X.env=(false,eval e X.env)::C5 es X.env:=by rfl):PA X (e::es) (PB te t):=by
 intro pos pins s σ H Q I h;rw[hs]
 show wpAny _ _ (spliced ((false,eval e X.env)::backTo pos (C5 es X.env))) _ _ s
 (refine Q0 (a_ (ha pins s σ H _ I h) ?_);rintro u s1 ⟨x,H1,I1,r1,q1⟩)
 (refine a_ (hr pos pins s1 σ H1 _ I1 q1) ?_;rintro us s2 ⟨xs,H2,I2,r2,q2⟩;exact#[x::xs,H2,I2,.cons r1 r2,q2])
def DH(t:TA):TE:=λσ H Q=>t σ H λxs H1=>xs.length<=sizeLine/\∀p,H1 p=none->Q (.ref p) (upd H1 p (.tup xs))
def DQ(t:TA):TE:=λσ H Q=>t σ H λxs H1=>xs.length<=sizeLine/\∀p,H1 p=none->Q (.ref p) (upd H1 p (.lst xs))
theorem wo8{x1}(h:PA X es t):PE X (.Tuple es x1 pos) (DH t):=by
 intro pins s σ H Q I hq;refine wpAny_Tuple_spliced (a_ (h pos pins s σ H _ I hq) λus s1 ⟨xs,H1,I1,r,z,q⟩=>#[by rw[<- r.length];exact z,?_]);have hf:H1 s1.heap.objs.size=none:=I1.az.fresh (B8 _);refine#[.ref s1.heap.objs.size,upd H1 s1.heap.objs.size (.tup xs),I1.laid (t':=s1.toks) (λb u e=>B6 _ e) (B8 _) ?_,rfl,q _ hf];exact#[z,us,r,#[_,D4 _ rfl,rfl,#[_,rfl],rfl]]
theorem wp2(h:PA X es t):PE X (.List es pos) (DQ t):=by
 intro pins s σ H Q I hq;refine wpAny_List_spliced (a_ (h pos pins s σ H _ I hq) λus s1 ⟨xs,H1,I1,r,z,q⟩=>#[by rw[<- r.length];exact z,?_]);have hf:H1 s1.heap.objs.size=none:=I1.az.fresh (B8 _);refine#[.ref s1.heap.objs.size,upd H1 s1.heap.objs.size (.lst xs),I1.laid (t':=s1.toks) (λb u e=>B6 _ e) (B8 _) ?_,rfl,q _ hf];exact#[z,us,0,r,D4 _ rfl]
end
abbrev Sp:=List V->Hp->VK->XK->Prop
abbrev uo:=List Env->Hp->Shared->XK->Value->Shared->Prop
structure jF(P:Program)(w:World)(K:W.Frag)(mg:Str->Option Value)(base:Heap)(A:Around)(outer:List Env)(s:Shared)(H:Hp):Prop where
 frames:A.frames=some outer
 mod:Mod K mg base
 bs:∀b o,base.get? b=some o->s.heap.get? b=some o/\H b=none
 sN:base.objs.size<=s.heap.objs.size
 gU:s.heap.FunFrames base outer
 yh:∀b∈qU outer,H b=none
 az:fR P w H s.heap
 bare:xu s.gens
def CE(outer:List Env)(P:Program)(w:World)(H:Hp)(s:Shared)(Q:VK)(u:Value)(s':Shared):Prop :=
 ∃v H',s'.os=s.os/\xu s'.gens/\Un (qU outer) [] H H' s.heap s'.heap/\fR P w H' s'.heap/\RelV v u/\Q v H'
def CR(CX:uo)(outer:List Env)(P:Program)(w:World)(H:Hp)(s:Shared)(Q:VK)(E:XK)(r:Result)(s':Shared):Prop :=
 match r with
 | .ok (.ret u)=>CE outer P w H s Q u s'
 | .ok _=>False
 | .error e=>CX outer H s E e s'
structure bG(P:Program)(w:World)(K:W.Frag)(mg:Str->Option Value)(base:Heap)(CX:uo)(k:Nat)(f:Addr)(fd:vf)(ps:List Str)(sp:Sp):Prop where
 len:∀vs H Q E,sp vs H Q E->vs.length=ps.length
 run:∀(A:Around) (outer:List Env) (s:Shared) (H:Hp) (args:Args) (us:List Value) (vs:List V) (Q:VK) (E:XK),aM k A->jF P w K mg base A outer s H->AO s fd args (ps.zip us)->Vals vs us->sp vs H Q E ->
  rj (model P w) A (.call (.ref f) args) (CR CX outer P w H s Q E) s
theorem bG.mono{P:Program}{w:World}{K:W.Frag}{mg:Str->Option Value}{base:Heap}{CX:uo}{j k:Nat}{f:Addr}{fd:vf}{ps:List Str}{sp:Sp}(F:bG P w K mg base CX j f fd ps sp)(h:j<=k) :
  bG P w K mg base CX k f fd ps sp:=#[F.len,λA outer s H args us vs Q E hr=>F.run A outer s H args us vs Q E (hr.mono h)]
theorem bG.imp{P:Program}{w:World}{K:W.Frag}{mg:Str->Option Value}{base:Heap}{CX:uo}{k:Nat}{f:Addr}{fd:vf}{ps:List Str}{sp sp':Sp}(F:bG P w K mg base CX k f fd ps sp)
  (h:∀vs H Q E,sp' vs H Q E->sp vs H Q E):bG P w K mg base CX k f fd ps sp' :=
 #[λvs H Q E q=>F.len vs H Q E (h _ _ _ _ q),λA outer s H args us vs Q E hr he hb hv hs=>F.run A outer s H args us vs Q E hr he hb hv (h _ _ _ _ hs)]
theorem jF.make{P:Program}{w:World}{K:W.Frag}{mg:Str->Option Value}{base:Heap}{A:Around}{outer:List Env}{s:Shared}{H:Hp}(e:jF P w K mg base A outer s H)(C:Addr)(us:List Value)(kw:List (Str×Value)) :
  jF P w K mg base (A.under (.builtin "type.__call__" #[.ref C::us,kw])) outer s H:=#[by first|exact e.frames|(simpa[Vo,Code.envs,Vn,pushEnvs] using e.frames),e.mod,e.bs,e.sN,e.gU,e.yh,e.az,e.bare]
theorem jF.in1{P:Program}{w:World}{K:W.Frag}{mg:Str->Option Value}{base:Heap}{A:Around}{outer:List Env}{s:Shared}{H:Hp}(e:jF P w K mg base A outer s H) :
  jF P w K mg base A.in1 outer s H:=#[e.frames,e.mod,e.bs,e.sN,e.gU,e.yh,e.az,e.bare]
section
variable{X:Cx}{pins:List (Addr×Obj)}{σ:St}{H:Hp}{s s':Shared}
theorem Inv.GW(I:Inv X pins σ H s):jF X.prog X.w X.K X.mg X.base X.A X.stack s H :=
 #[I.ok.frames,I.ok.mod,I.bs,D6 I.ok.sN I.sz,I.stack,I.pC,I.az,I.bare]
theorem Inv.after(I:Inv X pins σ H s)(h:CE X.stack X.prog X.w H s Q u s'):EP X pins σ Q u s':=by
 obtain⟨v,H',os,bare,un,az,r,q⟩:=h;obtain⟨hh,g,d,t,os'⟩:=s';obtain rfl:os'=s.os:=os;exact#[v,H',I.call (h':=hh) (g':=g) (d':=d) (t':=t) (ch:=[]) un az bare (λb z=>absurd z (by simp)),r,q]
end
def W_(sp:Sp)(eE:List V)(E:XK)(t:TA):TE:=λσ H Q=>t σ H λvs H1=>sp (vs++eE) H1 Q E
def PD(C:Addr)(m:Str)(sp:Sp)(eE:List V)(E:XK)(ta:TE)(t:TA):TE:=λσ H Q=>ta σ H λx H1=>∃a dx fs,x=.ref a/\H1 a=some (.ins C dx fs)/\fs.lookup m=none /\
 t σ H1 λvs H2=>sp (x::(vs++eE)) H2 Q E
def Xb(C:Addr)(sp:Sp)(eE:List V)(E:XK)(t:TA):TE:=λσ H Q=>t σ H λvs H1=>∀x dx,H1 x=none->H1 dx=none->dx≠x ->
 sp (.ref x::(vs++eE)) (upd (upd H1 dx (.own x)) x (.ins C dx [])) (λv H2=>v=.non/\Q (.ref x) H2) E
def Binds(K:W.Frag)(fd:vf)(ps:List Str)(ds:List Value):Prop :=
 ∀(s:Shared) (us:List Value),K.In s.heap->(us++ds).length=ps.length->AO s fd #[us,[]] (ps.zip (us++ds))
theorem Binds.all{K:W.Frag}{fd:vf}{ps:List Str}(h:∀us:List Value,us.length=ps.length->Mf fd #[us,[]]=pure (ps.zip us)):Binds K fd ps []:=λs us _ hl=>by
 rw[E4] at hl⊢;exact .of_eq (h us hl)
def Passes(CX:uo)(X:Cx)(E:XK):Prop:=∀(pins:List (Addr×Obj)) (σ:St) (H:Hp) (s:Shared) (e:Value) (s':Shared),Inv X pins σ H s->CX X.stack H s E e s'->X.xe e s'
section
variable{X:Cx}{CX:uo}{k:Nat}{f C:Addr}{fd:vf}{ps:List Str}{sp:Sp}{eE:List V}{ds:List Value}{E:XK}{x m:Str}{p pos apos:Pos}{e o:Expr}{es:List Expr}{ta:TE}{t:TA}
theorem Ql{pins:List (Addr×Obj)}{σ:St}{H:Hp}{s:Shared}{Q:VK}{us:List Value}{vs:List V}(F:bG X.prog X.w X.K X.mg X.base CX k f fd ps sp)(hr:aM k X.A)(hb:Binds X.K fd ps ds)(hd:Vals eE ds)(hx:Passes CX X E)
  (I:Inv X pins σ H s) (r:Vals vs us) (h:sp (vs++eE) H Q E):wpAny (model X.prog X.w) X.A (call (.ref f) us) (EP X pins σ Q) X.xe s:=by
 have r2:Vals (vs++eE) (us++ds):=r.append hd;have hl:(us++ds).length=ps.length:=by rw[<- r2.length];exact F.len _ _ _ _ h
 refine wpAny_call (Mx (F.run X.A X.stack s H #[us,[]] (us++ds) (vs++eE) Q E hr I.GW (hb s us I.ie hl) r2 h) λr s' hq=>?_);cases r with
 | error e=>exact hx pins σ H s e s' I hq
 | ok fl =>
  cases fl with
  | ret u=>exact I.after hq
  | next=>exact Q3 hq
  | brk=>exact Q3 hq
  | cont=>exact Q3 hq
theorem wb6(F:bG X.prog X.w X.K X.mg X.base CX k f fd ps sp)(hr:aM k X.A)(hg:Gl X x)(hm:X.mg x=some (.ref f))(hk:W.keepIn X.K (.ref f)=true)(hb:Binds X.K fd ps ds)(hd:Vals eE ds)(hx:Passes CX X E)
  (ha:PA X (e::es) t) (gR:(x==("__debug__" :Str))=false:=by decide) (he:C5 (e::es) X.env=(false,eval e X.env)::C5 es X.env:=by rfl) (bZ:(backTo pos (C5 es X.env)).any (·.1)=false:=by rfl) :
  PE X (.Call (.Name x p) (e::es) [] pos) (W_ sp eE E t):=by
 intro pins s σ H Q I h;refine N6 (Qy I hg hm ?_ gR)
 (refine W.callWith_K (h₀:=X.base) I.ok.mod.FR hk (a_ (ha pos pins s σ H _ I h) ?_) he bZ;rintro us s1 ⟨vs,H1,I1,r,q⟩;refine#[I1.ie,?_])
 exact Ql F hr hb hd hx I1 r q
theorem wb0{pl:Sem Bool}(he:PE X o ta)(c:ja X.K C)(hm:Meth X.K C m f)(F:bG X.prog X.w X.K X.mg X.base CX k f fd ps sp)(hr:aM k X.A)(hb:Binds X.K fd ps ds)(hd:Vals eE ds)(hx:Passes CX X E)(ha:PA X (e::es) t)
  (oW:C5 (e::es) X.env=(false,eval e X.env)::C5 es X.env:=by rfl) (bZ:(backTo pos (C5 es X.env)).any (·.1)=false:=by rfl)
  (ht:eval (.Call (.Attribute o m apos) (e::es) [] pos) X.env=(do
   let ov <- eval o X.env
   vd apos.atName
   let (f,first) <- holding [ov] (yQ ov m pl)
   Cp pos f first (backTo pos (C5 (e::es) X.env)) (V8 pos (P4 [] X.env))):=by rfl) :
  PE X (.Call (.Attribute o m apos) (e::es) [] pos) (PD C m sp eE E ta t):=by
 intro pins s σ H Q I h
 (refine W.methodCall_KW (pl:=pl) (a_ (he pins s σ H _ I h) ?_) ht;rintro u s1 ⟨x,H1,I1,rx,a,dx,fs,ex,ea,l,q⟩)
 subst ex;obtain rfl:u=F4 a:=rx;refine uk9 I1 ea c hm l ?_
 (refine W.callWith_K (first:=[.ref a]) (h₀:=X.base) I.ok.mod.FR hm.kp (a_ (ha pos pins s1 σ H1 _ I1 q) ?_) oW bZ;rintro us s2 ⟨vs,H2,I2,r,q2⟩;refine#[I2.ie,?_])
 exact Ql (us:=.ref a::us) (vs:=.ref a::vs) F hr hb hd hx I2 (.cons rfl r) q2
theorem vm1(he:PE X o ta)(c:ja X.K C)(hm:Meth X.K C m f)(F:bG X.prog X.w X.K X.mg X.base CX k f fd ps sp)(hr:aM k X.A)(hb:Binds X.K fd ps ds)(hd:Vals eE ds)(hx:Passes CX X E)
  (ht:eval (.Call (.Attribute o m apos) [] [] pos) X.env=(do
   let ov <- eval o X.env
   vd apos.atName
   let (f,first) <- holding [ov] (yQ ov m pl)
   Cp pos f first (backTo pos (C5 [] X.env)) (V8 pos (P4 [] X.env))):=by rfl) :
  PE X (.Call (.Attribute o m apos) [] [] pos) (PD C m sp eE E ta vJ):=by
 intro pins s σ H Q I h
 (refine W.methodCall_KW (pl:=pl) (a_ (he pins s σ H _ I h) ?_) ht;rintro u s1 ⟨x,H1,I1,rx,a,dx,fs,ex,ea,l,q⟩)
 subst ex;obtain rfl:u=F4 a:=rx;refine uk9 I1 ea c hm l ?_;exact W.callWith_K0 (first:=[.ref a]) I1.ie hm.kp (Ql (us:=[.ref a]) (vs:=[.ref a]) F hr hb hd hx I1 (.cons rfl .nil) q)
structure Mk(K:W.Frag)(C f:Addr):Prop where
 makes:W.makesIn K C=true
 init:W.findIn K (.ref C) "__init__" = some (some (.ref f))
 fn:W.isFn K (.ref f)=true
 kp:W.keepIn K (.ref C)=true
theorem vk8(M:Mk X.K C f)(F:bG X.prog X.w X.K X.mg X.base CX k f fd ps sp)(hr:aM (k+1) X.A)(hb:Binds X.K fd ps ds)(hd:Vals eE ds)
  (hx:Passes CX X E) (I:Inv X pins σ H s) (r:Vals vs us)
  (h:∀x dx,H x=none->H dx=none->dx≠x->sp (.ref x::(vs++eE)) (upd (upd H dx (.own x)) x (.ins C dx [])) (λv H2=>v=.non/\Q (.ref x) H2) E) :
  wpAny (model X.prog X.w) X.A (call (.ref C) us) (EP X pins σ Q) X.xe s:=by
 have hq:=h (s.heap.objs.size+1) s.heap.objs.size (I.az.fresh (X4 _)) (I.az.fresh (B8 _)) (I0 (W7 _));have I2:=Inv.made (C:=C) I;have r2:Vals (V.ref (s.heap.objs.size+1)::(vs++eE)) (F4 (s.heap.objs.size+1)::(us++ds)):=.cons rfl (r.append hd);have hl:(F4 (s.heap.objs.size+1)::us++ds).length=ps.length:=by
  have e:=r2.length;rw[F.len _ _ _ _ hq] at e;exact e.symm
 refine wpAny_call (vn4 (f:=f) I.ie M.makes M.init (beq_iff_eq.mp M.fn) (Mx (F.run _ X.stack _ _ #[F4 (s.heap.objs.size+1)::us,[]] (F4 (s.heap.objs.size+1)::(us++ds)) _ _ E (hr.make C us [])
  (I2.GW.make C us []) (hb _ (F4 (s.heap.objs.size+1)::us) I2.ie hl) r2 hq) λr s' Gf=>?_))
 cases r with
 | error e=>exact hx pins σ _ _ e s' I2 Gf
 | ok fl =>
  cases fl with
  | ret u =>
   obtain⟨v,H',I3,rv,ev,q3⟩:=I2.after Gf;subst ev;exact#[rv,#[V.ref (s.heap.objs.size+1),H',I3,rfl,q3]]
  | next=>exact Q3 Gf
  | brk=>exact Q3 Gf
  | cont=>exact Q3 Gf
theorem wb1(M:Mk X.K C f)(F:bG X.prog X.w X.K X.mg X.base CX k f fd ps sp)(hr:aM (k+1) X.A)(hg:Gl X x)(hm:X.mg x=some (.ref C))(hb:Binds X.K fd ps ds)(hd:Vals eE ds)(hx:Passes CX X E)
  (ha:PA X (e::es) t) (gR:(x==("__debug__" :Str))=false:=by decide) (he:C5 (e::es) X.env=(false,eval e X.env)::C5 es X.env:=by rfl) (bZ:(backTo pos (C5 es X.env)).any (·.1)=false:=by rfl) :
  PE X (.Call (.Name x p) (e::es) [] pos) (Xb C sp eE E t):=by
 intro pins s σ H Q I h;refine N6 (Qy I hg hm ?_ gR)
 (refine W.callWith_K (h₀:=X.base) I.ok.mod.FR M.kp (a_ (ha pos pins s σ H _ I h) ?_) he bZ;rintro us s1 ⟨vs,H1,I1,r,q⟩;refine#[I1.ie,?_])
 exact vk8 M F hr hb hd hx I1 r q
end
structure ag(N P:List Str)(sc:Scope):Prop where
 kind:sc.kind=.function
 co:sc.isCoroutine=false
 gen:sc.isGenerator=false
 nd:N.Nodup
 pre:N.take P.length=P
 par:∀x∈P,sc.names.lookup x=some .local\/sc.names.lookup x=some .cell
 zD:∀y∈sc.names,y.2≠.free
theorem us5{kindOf:Str->Option F7}{x:Str}:∀{binds:List (Str×Value)} {m:Str->Option Value},(∀v,(x,v)∉binds)->bindL kindOf binds m x=m x
 | [],_,_=>rfl
 | (n,v)::r,m,h=>by
  unfold bindL;rw[us5 λw hw=>h w (C7 _ hw)];split
  ·have:x≠n:=by rintro rfl;exact h v D3
   simp[this]
  ·rfl
theorem us7{kindOf:Str->Option F7}{x:Str}:∀{binds:List (Str×Value)} {m:Str->Option Value},(∀v,(x,v)∉binds)->bindC kindOf binds m x=m x
 | [],_,_=>rfl
 | (n,v)::r,m,h=>by
  unfold bindC;rw[us7 λw hw=>h w (C7 _ hw)];split
  ·rfl
  ·have:x≠n:=by rintro rfl;exact h v D3
   simp[this]
theorem us6{kindOf:Str->Option F7}{x:Str}{v:Value}:∀{P:List Str} {vs:List Value} {i:Nat} {m:Str->Option Value},P.Nodup->P[i]?=some x->vs[i]?=some v->kindOf x=some .local ->
  bindL kindOf (P.zip vs) m x=some v
 | [],_,_,_,_,h,_,_=>by simp at h
 | _::_,[],_,_,_,_,h,_=>by simp at h
 | p::P,w::vs,0,m,nd,h1,h2,hk=>by
  simp at h1 h2;subst h1;subst h2
  show bindL kindOf ((p,w)::P.zip vs) m p=_
  unfold bindL;rw[us5 λv hv=>(O9.mp nd).1 (VG hv).1,if_pos hk];simp
 | p::P,w::vs,i+1,m,nd,h1,h2,hk=>by
  show bindL kindOf ((p,w)::P.zip vs) m x=_
  unfold bindL;exact us6 (i:=i) (O9.mp nd).2 (by simpa using h1) (by simpa using h2) hk
theorem us8{kindOf:Str->Option F7}{x:Str}{v:Value}:∀{P:List Str} {vs:List Value} {i:Nat} {m:Str->Option Value},P.Nodup->P[i]?=some x->vs[i]?=some v->kindOf x≠some .local ->
  bindC kindOf (P.zip vs) m x=some v
 | [],_,_,_,_,h,_,_=>by simp at h
 | _::_,[],_,_,_,_,h,_=>by simp at h
 | p::P,w::vs,0,m,nd,h1,h2,hk=>by
  simp at h1 h2;subst h1;subst h2
  show bindC kindOf ((p,w)::P.zip vs) m p=_
  unfold bindC;rw[us7 λv hv=>(O9.mp nd).1 (VG hv).1,if_neg hk];simp
 | p::P,w::vs,i+1,m,nd,h1,h2,hk=>by
  show bindC kindOf ((p,w)::P.zip vs) m x=_
  unfold bindC;exact us8 (i:=i) (O9.mp nd).2 (by simpa using h1) (by simpa using h2) hk
def start(N:List Str)(vs:List V):St:=vs.map some++D0 (N.length-vs.length) none
def pe(CX:uo)(P:Program)(w:World)(K:W.Frag)(mg:Str->Option Value)(base:Heap)(N:List Str)(qual:Str)(scope:Scope)(f:Addr)(cd:Value)(A:Around)(outer:List Env)(s:Shared)(H:Hp)(E:XK):Cx where
 prog:=P
 w:=w
 K:=K
 mg:=mg
 base:=base
 A:=A.deeper (envOfC qual scope s.heap.objs.size f cd)
 N:=N
 s₀:=s
 H₀:=H
 env:=envOfC qual scope s.heap.objs.size f cd
 outer:=outer
 stack:=envOfC qual scope s.heap.objs.size f cd::outer
 ex:=[]
 calm:=true
 fn:=λ_=>true
 pn:=[]
 xe:=λe s'=>wpAny (model P w) (A.deeper (envOfC qual scope s.heap.objs.size f cd)) (leaving (envOfC qual scope s.heap.objs.size f cd) e) (λ_ D_=>CX outer H s E e D_) (λe' D_=>CX outer H s E e' D_) s'
theorem ZN{sc:Scope}(h:sc.names.lookup x=some .cell):∃c,(UU n sc.names []).lookup x=some c:=by
 have q:=W.cellsFrom_some sc.names n [] (.inl h);exact Option.isSome_iff_exists.mp q
theorem ve0{CX:uo}{P:Program}{w:World}{K:W.Frag}{mg:Str->Option Value}{base:Heap}{N ps:List Str}{qual:Str}{scope:Scope}{f:Addr}{cd:Value}{A:Around}{outer:List Env}{s s1:Shared}{H:Hp}{E:XK}{us:List Value}{vs:List V}
  (S:ag N ps scope) (hd:A.handled=none) (e0:jF P w K mg base A outer s H) (hl:vs.length=ps.length) (r:Vals vs us)
  (x:InCallC s s.heap.objs.size (bindL (envOfC qual scope s.heap.objs.size f cd).kindOf (ps.zip us) λ_=>none) (UU (s.heap.objs.size+1) scope.names []) (bindC (envOfC qual scope s.heap.objs.size f cd).kindOf (ps.zip us) λ_=>none) s1) :
  Inv (pe CX P w K mg base N qual scope f cd A outer s H E) [] (start N vs) H s1:=by
 have bZ:ps.length<=N.length:=by have:=congrArg F9 S.pre;rw[MX] at this;omega
 obtain⟨h1,tk,rfl,hk⟩:=x.done;have FE:∀b:Addr,b∉(pe CX P w K mg base N qual scope f cd A outer s H E).ex:=λb z=>absurd (show b∈([]:List Addr) from z) (by simp)
 refine#[#[e0.mod,S.kind,rfl,rfl,B8 _,λy z c h1 h2=>?_,λy hy=>?_,λy c _ h=>?_,λ_=>hd,Around.frames_deeper e0.frames,.inr #[rfl,rfl],λb z=>absurd z (FE b),e0.bs,e0.sN,λb _ _=>FE b,λb z=>absurd z (FE b),e0.gU,e0.yh],
  rfl,e0.bare,Un.kept hk,#[_,x.toInCall.ns,λi y v h1 h2 h3=>?_],λy c h=>#[_,x.cell y c h],e0.az.fresh (B8 _),λy c h=>?_,λp hp=>absurd (show p∈([]:List (Addr×Obj)) from hp) (by simp),e0.az.kept hk,?_]
 ·exact name_of_addr x.apart (Q8 h1) (Q8 h2)
 ·have hy:scope.names.lookup y=some .cell\/scope.names.lookup y=some .free:=hy
  rcases hy with hy|hy
  ·exact ZN hy
  ·exact absurd rfl (S.zD _ (Q8 hy))
 ·exact O2 (x.above y c (Q8 h))
 ·have hi:i<vs.length:=by
   unfold start at h2
   by_cases hi:i<vs.length
   ·exact hi
   ·rw[E8 (by simpa using hi)] at h2
    rw[Wr] at h2;split at h2 <;> cases h2
  have ha:vs[i]?=some v:=by
   unfold start at h2;rw[F8 (by simpa using hi),F0] at h2;cases e:vs[i]? with
   | none=>rw[e] at h2;cases h2
   | some a=>rw[e] at h2;cases h2;rfl
  obtain⟨u,hu,rv⟩:=r.get ha;have hp:ps[i]?=some y:=by
   rw[<- S.pre,List.getElem?_take_of_lt ()];exact h1
  have ndP:ps.Nodup:=by rw[<- S.pre];exact S.nd.sublist (List.take_sublist _ _)
  refine#[u,rv,?_]
  rcases S.par y (K4 hp) with k|k
  ·exact .inl ⟨k,us6 ndP hp hu k⟩
  ·obtain⟨c,e⟩:=ZN (n:=s.heap.objs.size+1) k
   refine .inr #[.inl k,c,e,?_];have q:=x.cell y c e;rw[us8 ndP hp hu (by show scope.names.lookup y≠_;rw[k];decide)] at q;exact q
 ·exact e0.az.fresh (O2 (x.above y c (Q8 h)))
 ·unfold start
  show _=N.length
  rw[B4,B0,R4];omega
theorem xb2{CX:uo}{P:Program}{w:World}{K:W.Frag}{mg:Str->Option Value}{base:Heap}{k:Nat}{f:Addr}{name qual:Str}{params:Arguments}{body:List Stmt}{scope:Scope}{dV kV doc pm il ct oc:Value}{an od:Option Addr}
  {xX:Array (Option Value)} {N ps:List Str} {sp:Sp} (lk:K.lookup f=some #[oc,od,.func (W.fnOf name qual params body scope dV kV doc pm an il ct),xX]) (uQ:W.codeIn K il qual=true) (S:ag N ps scope)
  (len:∀vs H Q E,sp vs H Q E->vs.length=ps.length)
  (GG:∀(A:Around) (outer:List Env) (s:Shared) (H:Hp) (vs:List V) (Q:VK) (E:XK),aM k (A.deeper (envOfC qual scope s.heap.objs.size f il))->sp vs H Q E ->
   ∃t,nX (pe CX P w K mg base N qual scope f il A outer s H E) body t/\t { nx:=λ_ H'=>Q .non H',rt:=Q} (start N vs) H) :
  bG P w K mg base CX (k+1) f (W.fnOf name qual params body scope dV kV doc pm an il ct) ps sp:=by
 refine#[len,λA outer s H args us vs Q E hr e0 hb r qO=>?_];have hl:=len _ _ _ _ qO;have KX:K.In s.heap:=e0.mod.FR.keeps λb o e=>(e0.bs b o e).1
 have lim:s.heap.NoLimit:=e0.mod.nolimit.keeps λb o e=>(e0.bs b o e).1
 have Gz:∀y∈ps.zip us,scope.names.lookup y.1=some .local\/(scope.names.lookup y.1=some .cell/\((UU (s.heap.objs.size+1) scope.names []).lookup y.1).isSome=true):=λ⟨n,v⟩ hy=>by
  rcases S.par n (VG hy).1 with q|q
  ·exact .inl q
  ·exact .inr ⟨q,W.cellsFrom_some _ _ _ (.inl q)⟩
 refine codeAny_call_function hr.depth (KX _ _ lk) rfl S.co S.gen rfl (W.codeRec_of KX uQ) (hb _ _ _ _ ?_);refine wpAny_newFunctionEnv_cells S.kind Gz λenv he s1 x=>?_
 subst he;refine#[lim.keeps x.toInCall.keep,codeAny_func ?_];obtain⟨t,ht,hq⟩:=GG A outer s H vs Q E (hr.deeper _) qO;have I:Inv (pe CX P w K mg base N qual scope f il A outer s H E) [] (start N vs) H s1:=ve0 S hr.hd e0 hl r x;refine Q7 (ht [] s1 (start N vs) H _ I hq) (λfl s' hs=>?_) λe s' hs=>hs
 have fin:∀{σ':St} {H':Hp} {v:V} {u:Value},Inv (pe CX P w K mg base N qual scope f il A outer s H E) [] σ' H' s'->RelV v u->Q v H'->CE outer P w H s Q u s' :=
  λ{σ' H' v u} J rv q=>#[v,H',J.os,J.bare,J.base,J.az,rv,q]
 cases fl with
 | ret u =>
  obtain⟨v,σ',H',J,rv,q⟩:=hs;exact fin J rv q
 | next =>
  obtain⟨σ',H',J,q⟩:=hs;exact fin (v:=V.non) (u:=V9) J rfl q
 | brk =>
  obtain⟨_,_,_,q⟩:=hs;exact Q3 q
 | cont =>
  obtain⟨_,_,_,q⟩:=hs;exact Q3 q
section
variable{X:Cx}{x:Str}{p pos:Pos}{e:Expr}{es:List Expr}{t:TA}{id T:String}{r:List V->Hp->VK->Prop}
def Ry(r:List V->Hp->VK->Prop)(t:TA):TE:=λσ H Q=>t σ H λvs H1=>r vs H1 Q
theorem vm9(hc:bK X (.builtin id) r)(hg:Gl X x)(hm:X.mg x=none)(hv:Q6 x=some (.builtin id))(ha:PA X (e::es) t)(hn:x ≠ "__name__" := by decide)(gR:(x==("__debug__" :Str))=false:=by decide)
  (he:C5 (e::es) X.env=(false,eval e X.env)::C5 es X.env:=by rfl) (bZ:(backTo pos (C5 es X.env)).any (·.1)=false:=by rfl):PE X (.Call (.Name x p) (e::es) [] pos) (Ry r t):=by
 intro pins s σ H Q I h;refine N6 (oj I hg hm hv ?_ hn gR)
 (refine B92 (a_ (ha pos pins s σ H _ I h) ?_) he bZ;rintro us s1 ⟨vs,H1,I1,r1,q1⟩;exact hc pins s1 σ H1 vs us Q I1 r1 q1)
theorem uq9(hc:bK X (.type T) r)(hg:Gl X x)(hm:X.mg x=none)(hv:Q6 x=some (.type T))(ha:PA X (e::es) t)(hn:x ≠ "__name__" := by decide)(gR:(x==("__debug__" :Str))=false:=by decide)
  (he:C5 (e::es) X.env=(false,eval e X.env)::C5 es X.env:=by rfl) (bZ:(backTo pos (C5 es X.env)).any (·.1)=false:=by rfl):PE X (.Call (.Name x p) (e::es) [] pos) (Ry r t):=by
 intro pins s σ H Q I h;refine N6 (oj I hg hm hv ?_ hn gR)
 (refine J1 (a_ (ha pos pins s σ H _ I h) ?_) he bZ;rintro us s1 ⟨vs,H1,I1,r1,q1⟩;exact hc pins s1 σ H1 vs us Q I1 r1 q1)
end
section
variable{κ:Type}[DecidableEq κ]
def cV(kvs:List (κ×V))(k:κ):Option V:=(kvs.find? λkv=>decide (kv.1=k)).map (·.2)
def putK(kvs:List (κ×V))(k:κ)(v:V):List (κ×V) :=
 if(kvs.any λkv=>decide (kv.1=k))=true then kvs.map (λkv=>if kv.1=k then(kv.1,v) else kv) else kvs++[(k,v)]
def xA(kvs:List (κ×V))(k:κ):List (κ×V):=kvs.filter λkv=>decide (kv.1≠k)
theorem BB{p:κ×V}{r:List (κ×V)}{k:κ}(e:p.1=k):cV (p::r) k=some p.2:=by simp[cV,M5,e]
theorem BA{p:κ×V}{r:List (κ×V)}{k:κ}(e:¬ p.1=k):cV (p::r) k=cV r k:=by simp[cV,M5,e]
theorem QX(k:κ):∀kvs:List (κ×V),(kvs.any λkv=>decide (kv.1=k))=(cV kvs k).isSome
 | []=>rfl
 | p::r=>by
  rw[P0]
  by_cases e:p.1=k
  ·simp only[BB e,decide_eq_true e,MD,Option.isSome_some]
  ·rw[BA e,decide_eq_false e,Z8];exact QX k r
theorem zp(kvs:List (κ×V))(k:κ)(v:V):(putK kvs k v).length<=kvs.length+1:=by
 unfold putK;split
 ·rw[B0];omega
 ·rw[B4,C1,O8];omega
theorem dw.gO(r:dw o u):o.isSome=u.isSome:=by
 cases o with
 | none=>cases u with
  | none=>rfl
  | some _=>exact(show False from r).elim
 | some _=>cases u with
  | none=>exact(show False from r).elim
  | some _=>rfl
theorem dw.getD(r:dw o u)(rd:RelV d d'):RelV (o.getD d) (u.getD d'):=by
 cases o with
 | none=>cases u with
  | none=>exact rd
  | some _=>exact(show False from r).elim
 | some _=>cases u with
  | none=>exact(show False from r).elim
  | some _=>exact r
theorem KV.val{kvs:List (κ×V)}{vs:List (κ×Value)}(r:KV kvs vs)(k:κ):dw (cV kvs k) (yN vs k):=by
 unfold KV at r
 induction r with
 | nil=>exact P9
 | @cons p q ps qs h t ih =>
  obtain⟨h1,h2⟩:=h
  by_cases e:p.1=k
  ·have e':q.1=k:=h1.symm.trans e
   have b:yN (q::qs) k=some q.2:=by simp[yN,M5,e']
   rw[BB e,b];exact h2
  ·have e':¬ q.1=k:=λz=>e (h1.trans z)
   have b:yN (q::qs) k=yN qs k:=by simp[yN,M5,e']
   rw[BA e,b];exact ih
theorem KV.any{kvs:List (κ×V)}{vs:List (κ×Value)}(r:KV kvs vs)(k:κ):(kvs.any λkv=>decide (kv.1=k))=vs.any λkv=>decide (kv.1=k):=by
 unfold KV at r
 induction r with
 | nil=>rfl
 | cons h t ih=>rw[P0,P0,ih,h.1]
theorem KV.r9(r:KV kvs vs)(k:κ)(ry:RelV y u) :
  KV (kvs.map λkv=>if kv.1=k then(kv.1,y) else kv) (vs.map λkv=>if kv.1=k then(kv.1,u) else kv):=by
 unfold KV at r⊢
 induction r with
 | nil=>exact .nil
 | @cons p q ps qs h t ih =>
  rw[C0,C0];refine .cons ?_ ih;obtain⟨h1,h2⟩:=h
  by_cases e:p.1=k
  ·rw[if_pos e,if_pos (h1.symm.trans e)];exact#[h1,ry]
  ·rw[if_neg e,if_neg (λz=>e (h1.trans z))];exact#[h1,h2]
theorem KV.put(r:KV kvs vs)(k:κ)(ry:RelV y u):KV (putK kvs k y) (stored vs k u):=by
 unfold putK stored;rw[r.any k]
 by_cases e:(vs.any λkv=>decide (kv.1=k))=true
 ·rw[if_pos e,if_pos e];exact r.r9 k ry
 ·rw[if_neg e,if_neg e];exact Vf r #[rfl,ry]
theorem KV.drop(r:KV kvs vs)(k:κ):KV (xA kvs k) (without vs k):=by
 unfold KV at r⊢;unfold xA without
 induction r with
 | nil=>exact .nil
 | @cons p q ps qs h t ih =>
  obtain⟨h1,h2⟩:=h;rw[MW,MW]
  by_cases e:p.1=k
  ·have a:¬ decide (p.1≠k)=true:=by simp[e]
   have b:¬ decide (q.1≠k)=true:=by simp[h1.symm.trans e]
   rw[if_neg a,if_neg b];exact ih
  ·have e':¬ q.1=k:=λz=>e (h1.trans z)
   have a:decide (p.1≠k)=true:=by simp[e]
   have b:decide (q.1≠k)=true:=by simp[e']
   rw[if_pos a,if_pos b];exact .cons #[h1,h2] ih
theorem KV.keys{kvs:List (κ×V)}{vs:List (κ×Value)}(r:KV kvs vs):kvs.map (·.1)=vs.map (·.1):=by
 unfold KV at r
 induction r with
 | nil=>rfl
 | cons h t ih=>rw[C0,C0,ih,h.1]
theorem KV.length{kvs:List (κ×V)}{vs:List (κ×Value)}(r:KV kvs vs):kvs.length=vs.length:=MN r
theorem vq8(kvs:List (κ×V))(k:κ):(xA kvs k).length<=kvs.length:=B37 _ _
end
theorem za{P:Program}{w:World}(r:RelV (kV k) u):(dX P w).is k u=true:=by
 cases k with
 | inl i=>obtain⟨t,e⟩:=(show∃t,u=Ct i t from r);subst e;exact uu4 P w i t
 | inr x=>obtain⟨t,e⟩:=(show∃t,u=Cs x t from r);subst e;exact uu3 P w x t
theorem KZ{P:Program}{w:World}:∀{ks:List Key} {us:List Value},Vals (ks.map kV) us->ItemsAre (dX P w) ks us
 | [],_,r=>by rw[Z0] at r;cases r;exact .nil
 | k::ks,_,r=>by
  rw[C0] at r;cases r with
  | cons h t=>exact .cons (za h) (KZ t)
abbrev KT(H:Hp):List (List Key×V)->List (List Key×Addr×Value)->Prop:=Paired λp q=>p.1=q.1/\H q.2.1=some (.tup (p.1.map kV))/\RelV p.2 q.2.2
theorem KT.val{H:Hp}{kvs:List (List Key×V)}{xs:List (List Key×Addr×Value)}(r:KT H kvs xs)(k:List Key):dw (cV kvs k) ((atKey xs k).map (·.2)):=by
 induction r with
 | nil=>exact P9
 | @cons p q ps qs h t ih =>
  obtain⟨h1,_,h2⟩:=h
  by_cases e:p.1=k
  ·have e':q.1=k:=h1.symm.trans e
   have b:atKey (q::qs) k=some q.2:=by simp[atKey,M5,e']
   rw[BB e,b];exact h2
  ·have e':¬ q.1=k:=λz=>e (h1.trans z)
   have b:atKey (q::qs) k=atKey qs k:=by simp[atKey,M5,e']
   rw[BA e,b];exact ih
theorem KT.r9(r:KT H kvs xs)(k:List Key)(ry:RelV y u) :
  KT H (kvs.map λkv=>if kv.1=k then(kv.1,y) else kv) (xs.map (putAt k u)):=by
 induction r with
 | nil=>exact .nil
 | @cons p q ps qs h t ih =>
  rw[C0,C0];refine .cons ?_ ih;obtain⟨h1,h2,h3⟩:=h;unfold putAt
  by_cases e:p.1=k
  ·rw[if_pos e,if_pos (h1.symm.trans e)];exact#[h1,h2,ry]
  ·rw[if_neg e,if_neg (λz=>e (h1.trans z))];exact#[h1,h2,h3]
theorem KT.put(r:KT H kvs xs)(k:List Key)(hb:H b=some (.tup (k.map kV)))(ry:RelV y u) :
  KT H (putK kvs k y) (Mb xs k b u):=by
 have e:(kvs.any λkv=>decide (kv.1=k))=(atKey xs k).isSome:=by
  rw[QX,(r.val k).gO,VS]
 unfold putK Mb;rw[e]
 by_cases q:(atKey xs k).isSome=true
 ·rw[if_pos q,if_pos q];exact r.r9 k ry
 ·rw[if_neg q,if_neg q];exact Vf r #[rfl,hb,ry]
theorem KT.keeps(r:KT H kvs xs)(ht:∀b ys,H b=some (.tup ys)->H' b=some (.tup ys)):KT H' kvs xs :=
 Paired.si r λ_ _ z=>#[z.1,ht _ _ z.2.1,z.2.2]
section
variable{P:Program}{w:World}{H:Hp}{h:Heap}{a:Addr}
theorem pE(ok:fR P w H h)(e:Rd H a u):bh P w H h a u:=e.ok ok
theorem vt(ok:fR P w H h)(e:Rd H a (.dK kvs)):kvs.length<=sizeLine/\(a==Q5)=false/\∃vs,KV kvs vs/\h.DictOf (dX P w) a vs :=
 show bh P w H h a (.dK kvs) from pE ok e
theorem CQ(ok:fR P w H h)(e:H a=some (.dK kvs)):kvs.length<=sizeLine/\(a==Q5)=false/\∃vs,KV kvs vs/\h.DictOf (dX P w) a vs:=vt ok (.inl e)
theorem Kf{ks:List Key}(ok:fR P w H h)(e:H a=some (.tup (ks.map kV))):(Cq (dX P w)).is h ks a:=by
 obtain⟨_,its,r,o,h1,h2,⟨n,h3⟩,_⟩:=(show bh P w H h a (.tup (ks.map kV)) from ok a _ e);exact#[o,its.toArray,n,h1,h2,h3,by simpa using KZ r]
theorem CS(ok:fR P w H h)(e:Rd H a (.dT kvs)):kvs.length<=sizeLine/\(a==Q5)=false /\
  ∃xs,KT H kvs xs/\h.DictOfH (Cq (dX P w)) a xs:=by
 obtain⟨z,y,xs,r,o,es,ep,h1,h2,h3,h4,h5⟩:=(show bh P w H h a (.dT kvs) from pE ok e);refine#[z,y,xs,r,o,es,ep,h1,h2,h3,h4,λx hx=>?_,h5];have all:∀{l:List (List Key×V)} {m:List (List Key×Addr×Value)},KT H l m->∀x∈m,(Cq (dX P w)).is h x.1 x.2.1:=by
  intro l m q
  induction q with
  | nil=>intro x hx;exact nomatch hx
  | @cons p q ps qs hq t ih =>
   intro x hx
   rcases E6.mp hx with e|hx
   ·subst e
    exact Kf ok (by rw[<- hq.1];exact hq.2.1)
   ·exact ih x hx
 exact all r x hx
theorem xb4(ok:fR P w H h)(e:H a=some (.dT kvs)):kvs.length<=sizeLine/\(a==Q5)=false /\
  ∃xs,KT H kvs xs/\h.DictOfH (Cq (dX P w)) a xs:=CS ok (.inl e)
end
def lq(H:Hp)(a:Addr)(y:V)(r:Option V):Prop :=
 (∃kvs k,Rd H a (.dK kvs)/\y=kV k/\r=cV kvs k)\/∃kvs k b,Rd H a (.dT kvs)/\y=.ref b/\H b=some (.tup (k.map kV))/\r=cV kvs k
def um(H:Hp)(a:Addr)(y v:V)(H':Hp):Prop :=
 (∃kvs k,H a=some (.dK kvs)/\y=kV k/\kvs.length<sizeLine/\H'=upd H a (.dK (putK kvs k v))) \/
 ∃kvs k b,H a=some (.dT kvs)/\y=.ref b/\H b=some (.tup (k.map kV))/\kvs.length<sizeLine/\H'=upd H a (.dT (putK kvs k v))
theorem lq.k{H:Hp}{a:Addr}{kvs:List (Key×V)}{k:Key}(e:H a=some (.dK kvs)):lq H a (kV k) (cV kvs k):=.inl ⟨kvs,k,.inl e,rfl,rfl⟩
theorem um.k{H:Hp}{a:Addr}{kvs:List (Key×V)}{k:Key}{v:V}(e:H a=some (.dK kvs))(hl:kvs.length<sizeLine):um H a (kV k) v (upd H a (.dK (putK kvs k v))):=.inl ⟨kvs,k,e,rfl,hl,rfl⟩
section
variable{X:Cx}{pins:List (Addr×Obj)}{σ:St}{H:Hp}{s:Shared}{a:Addr}{y v:V}{u r:Value}{o:Option V}{A:Around}{E:Value->Shared->Prop}
theorem Inv.big(I:Inv X pins σ H s):Q5<s.heap.objs.size:=by
 have h:J2<s.heap.objs.size:=(I.mod.glob.keeps I.bk).lt;exact Vm ∅ h
theorem vg3(hu:A.units+1<cLine)(I:Inv X pins σ H s)(g:lq H a y (some v))(ry:RelV y u)(h:∀w' s',Inv X pins σ H s'->RelV v w'->Q w' s') :
  wpAny (model X.prog X.w) A (yM (.ref a) u) Q E s:=by
 rcases g with⟨kvs,k,e,ey,l⟩|⟨kvs,k,b,e,ey,eb,l⟩
 ·subst ey
  obtain⟨z,hd,vs,rel,dd⟩:=vt I.az e;obtain⟨w',hw,jq⟩:=dw.some_of (v:=v) (o:=yN vs k) (by rw[l];exact rel.val k);exact wpAny_getItem_of (za ry) dd.mapOf hw (h w' _ (I.tok _) jq)
 ·subst ey
  cases(show u=F4 b from ry);obtain⟨z,hd,xs,rel,dd⟩:=CS I.az e;obtain⟨w',hw,jq⟩:=dw.some_of (v:=v) (o:=(atKey xs k).map (·.2)) (by rw[l];exact rel.val k);obtain⟨p,hp,mf⟩:=E9.mp hw;refine wpAny_getItem_heap (VT hu) (Kf I.az eb) dd hp ?_;rw[mf];exact h w' _ (I.tok _) jq
theorem Bs(I:Inv X pins σ H s)(mu:Hw (H a))(hs:R6 a s.heap h')(he:∃q,h'.get? a=some q)(new:bh X.prog X.w (upd H a ob) h' a ob) :
  Inv X pins σ (upd H a ob) { s with heap:=h',toks:=t'} :=
 I.write (x:=a) (e:=a) mu (.inl rfl) (λb q hb z=>(hs.2 b hb).trans z) he new
theorem Kc{P:Program}{w:World}{h':Heap}{kvs:List (Key×V)}(z:kvs.length<=sizeLine)(hd:(a==Q5)=false)(rel:KV kvs vs)(dd:h'.DictOf (dX P w) a vs) :
  bh P w H' h' a (.dK kvs):=#[z,hd,vs,rel,dd]
theorem vg2(hu:A.units+1<cLine)(I:Inv X pins σ H s)(g:um H a y v H')(ry:RelV y u)(rv:RelV v r)(h:∀s',Inv X pins σ H' s'->Q #[] s') :
  wpAny (model X.prog X.w) A (Mc (.ref a) u r) Q E s:=by
 rcases g with⟨kvs,k,e,ey,l,eH⟩|⟨kvs,k,b,e,ey,eb,l,eH⟩
 ·subst ey eH
  obtain⟨z,hd,vs,rel,dd⟩:=CQ I.az e;have hz:vs.length<=sizeLine:=by rw[<- rel.length];exact z
  have hl:(putK kvs k v).length<=sizeLine:=by have:=zp kvs k v;omega
  refine wpAny_setItem_pairs (hsz:=hz) (za ry) dd λh' pb hs=>h _ ?_
  have he:∃q,h'.get? a=some q:=let ⟨q,_,_,hq,_⟩:=pb;#[q,hq];exact Bs I (by rw[e];exact P9) hs he (Kc hl hd (rel.put k rv) pb)
 ·subst ey eH
  cases(show u=F4 b from ry);obtain⟨z,hd,xs,rel,dd⟩:=xb4 I.az e;have hz:xs.length<=sizeLine:=by rw[<- MN rel];exact z
  have hl:(putK kvs k v).length<=sizeLine:=by have:=zp kvs k v;omega
  refine wpAny_setItem_heap (hsz:=hz) (VT hu) (Kf I.az eb) dd λh' pb hs=>h _ ?_
  obtain⟨q,es,ep,hq,h2,h3,h4,_,h5⟩:=pb;refine Bs I (by rw[e];exact P9) hs #[q,hq] #[hl,hd,_,(rel.put k eb rv).keeps λc ys ec=>?_,q,es,ep,hq,h2,h3,h4,h5];rw[cq (NW ec e (λz=>nomatch z))];exact ec
end
section
variable{X:Cx}{pins:List (Addr×Obj)}{σ:St}{H:Hp}{s:Shared}{a:Addr}{kvs:List (Key×V)}{k:Key}{u:Value}{A:Around}{E:Value->Shared->Prop}
theorem xb5(I:Inv X pins σ H s)(e:H a=some (.dK kvs))(ry:RelV (kV k) u)(l:cV kvs k=some v)(hm:more=[]\/∃x,more=[x])
  (h:∀w' s',Inv X pins σ (upd H a (.dK (xA kvs k))) s'->RelV v w'->Q w' s'):wpAny (model X.prog X.w) A (call (.builtin "dict.pop") (.ref a::u::more)) Q E s:=by
 obtain⟨z,hd,vs,rel,dd⟩:=CQ I.az e;obtain⟨w',hw,jq⟩:=dw.some_of (v:=v) (o:=yN vs k) (by rw[<- l];exact rel.val k);have hp:(keyPart u).isSome=true:=by
  cases k with
  | inl i=>obtain⟨t,q⟩:=(show∃t,u=Ct i t from ry);subst q;rfl
  | inr x=>obtain⟨t,q⟩:=(show∃t,u=Cs x t from ry);subst q;rfl
 have ha:argsOk "dict.pop" #[.ref a::u::more,[]]:=by
  rcases hm with q|⟨x,q⟩
  ·subst q;exact PySem.F.args_dict_pop_2 _ _
  ·subst q;exact PySem.F.args_dict_pop_3 _ _ _
 refine JD B38 dd.typeIs PySem.F.entry_dict_pop ha (meets_dict_pop_there (dX X.prog X.w) a (za ry) more hm hp)
  ⟨vs,w',dd,by rw[<- rel.length];exact z,hw,λh' pb hs=>h w' _ ?_ jq⟩
 have he:∃q,h'.get? a=some q:=let ⟨q,_,_,hq,_⟩:=pb;#[q,hq];exact Bs I (by rw[e];exact P9) hs he (Kc (D6 (vq8 kvs k) z) hd (rel.drop k) pb)
end
def rg(i:Expr):Prop:=∀ov iv,subscripted i false ov iv=operate [ov,iv] (yM ov iv)
theorem Zy{prog:Program}{w:World}{A:Around}{E:Value->Shared->Prop}{s:Shared}{env:Env}{value slice:Expr}{pos:Pos}{T id:String}{Q:Value->Shared->Prop}
  (hl:Ju (.type T) "__getitem__" = pure (some (.builtin id))) (hs:rg slice)
  (h:wpAny (model prog w) A (eval value env) (λo s₁=>wpAny (model prog w) A (eval slice env) (λi s₂=>s₂.TypeIs o T/\wpAny (model prog w) A (yM o i) Q E s₂) E s₁) E s) :
  wpAny (model prog w) A (eval (.Subscript value slice pos) env) Q E s:=by
 refine Mm (Q7 h (λo s₁ h₁=>Q7 h₁ (λi s₂ h₂=>?_) λ_ _ x=>x) λ_ _ x=>x);obtain⟨hT,h₂⟩:=h₂;unfold MJ;refine B5 ?_;rw[getitemInPython_of_ne hT.not_modules];refine B5 (JI hT hl ?_);have fin:wpAny (model prog w) A (subscripted slice false o i) (λr s₃=>wpAny (model prog w) A (letTemporaryGo value o r >>= λ_=>pure r) Q E s₃) E s₂:=by
  rw[hs o i];exact wpAny_operating (Q7 h₂ (λr s₃ h₃=>B5 (wpAny_letTemporaryGo (C2 h₃))) λ_ _ x=>x)
 first
  | exact C2 (B5 fin)
  | exact B5 (C2 (B5 fin))
  | exact B5 fin
theorem uv4(I:Inv X pins σ H s)(g:lq H a y o):s.TypeIs (.ref a) "dict" := by
 rcases g with⟨kvs,k,e,_,_⟩|⟨kvs,k,b,e,_,_,_⟩
 ·obtain⟨_,_,vs,_,dd⟩:=vt I.az e
  exact dd.typeIs
 ·obtain⟨_,_,xs,_,dd⟩:=CS I.az e
  exact dd.typeIs
def PC(td ty:TE):TE:=λσ H Q=>td σ H λx H1=>ty σ H1 λy H2=>∃a v,x=.ref a/\lq H2 a y (some v)/\Q v H2
def x90(td ty tv:TE):TS:=λD σ H=>tv σ H λv H1=>td σ H1 λx H2=>ty σ H2 λy H3=>∃a H4,x=.ref a/\um H3 a y v H4/\D.nx σ H4
section
variable{X:Cx}{o i e value:Expr}{pos pos' jm:Pos}{td ty tv:TE}
theorem Zp(hu:X.A.units+1<cLine)(ho:PE X o td)(hi:PE X i ty)(hs:rg i):PE X (.Subscript o i pos) (PC td ty):=by
 intro pins s σ H Q I h
 (refine Zy A74.lookup hs (a_ (ho pins s σ H _ I h) ?_);rintro u s1 ⟨x,H1,I1,rx,q1⟩;refine a_ (hi pins s1 σ H1 _ I1 q1) ?_;rintro iv s2 ⟨y,H2,I2,ry,a,v,ex,g,q2⟩)
 subst ex;obtain rfl:u=F4 a:=rx;exact#[uv4 I2 g,vg3 hu I2 g ry λw' s3 I3 jq=>#[v,H2,I3,jq,q2]]
theorem wa3(hu:X.A.units+1<cLine)(ho:PE X o td)(hi:PE X i ty)(hv:PE X value tv)(hs:V2 value (some (.Subscript o i pos')) pos.line X.env=pure false) :
  PS X (.Assign [.Subscript o i pos'] value pos) (x90 td ty tv):=by
 intro pins s σ H D I h
 (refine wpAny_Assign_Subscript (a_ (hv pins s σ H _ I h) ?_) hs;rintro r s1 ⟨v,H1,I1,rv,q1⟩;refine a_ (ho pins s1 σ H1 _ I1 q1) ?_;rintro u s2 ⟨x,H2,I2,rx,q2⟩;refine a_ (hi pins s2 σ H2 _ I2 q2) ?_;rintro iv s3 ⟨y,H3,I3,ry,a,H4,ex,g,q3⟩)
 subst ex;obtain rfl:u=F4 a:=rx;exact vg2 hu I3 g ry rv λs4 I4=>#[σ,H4,I4,q3]
end
theorem vq9{P:Program}{w:World}(h:Heap)(hb:Q5<h.objs.size):bh P w H (h.push { cls:=.type "dict",data:=.dict [].toArray}) h.objs.size (.dK []) :=
 #[J8 _,beq_eq_false_iff_ne.mpr (D8 (I0 hb)),[],.nil,VF h]
def wl7:TE:=λ_ H Q=>∀p,H p=none->Q (.ref p) (upd H p (.dK []))
section
variable{X:Cx}{pos:Pos}
theorem vm6:PE X (.Dict [] [] pos) wl7:=λpins s σ H Q I h =>
 wpAny_Dict_empty #[.ref s.heap.objs.size,_,I.laid (a:=s.heap.objs.size) (o:=.dK []) (t':=s.toks) (λ_ _ q=>B6 _ q) (B8 _) (vq9 s.heap I.big),rfl,h _ (I.az.fresh (B8 _))]
end
def Bp(kvs more:List (Key×V)):List (Key×V):=more.foldl (λacc kv=>putK acc kv.1 kv.2) kvs
theorem KV.merge:∀{more:List (Key×V)} {rs:List (Key×Value)} {kvs:List (Key×V)} {vs:List (Key×Value)},KV more rs->KV kvs vs->KV (Bp kvs more) (merged vs rs):=by
 intro more rs kvs vs r;unfold KV at r
 induction r generalizing kvs vs with
 | nil=>intro q;exact q
 | @cons p q ps qs h t ih =>
  intro r0;have e:KV (putK kvs p.1 p.2) (stored vs q.1 q.2):=by
   have:=r0.put p.1 h.2;rw[<- h.1];exact this
  exact ih e
theorem uc5:∀(more kvs:List (Key×V)),(Bp kvs more).length<=kvs.length+more.length
 | [],kvs=>by show kvs.length<=kvs.length+0;omega
 | p::r,kvs=>by
  have h1:=uc5 r (putK kvs p.1 p.2);have h2:=zp kvs p.1 p.2
  show(Bp (putK kvs p.1 p.2) r).length<=_
  rw[C1];omega
structure M1(X:Cx)(o:Expr)(m:Str)(apos:Pos)(e:Expr)(aJ:Pos):Prop where
 base:O1 o m X.env (eval o X.env)=eval o X.env
 few:((backTo aJ (C5 [e] X.env)).all (λx=>!x.1)&&(V8 aJ (P4 [] X.env)).all (λx=>x.1.isSome)
  && decide (([e]:List Expr).length+([]:List Keyword).length+(if([]:List Keyword).isEmpty then 0 else 1)<30))=true
 line:(apos.endLine==aJ.line)=true
 trees:backTo aJ (C5 [e] X.env)=[(false,eval e X.env)]
structure M2(X:Cx)(o:Expr)(m:Str)(apos:Pos)(e f:Expr)(aJ:Pos):Prop where
 base:O1 o m X.env (eval o X.env)=eval o X.env
 few:((backTo aJ (C5 [e,f] X.env)).all (λx=>!x.1)&&(V8 aJ (P4 [] X.env)).all (λx=>x.1.isSome)
  && decide (([e,f]:List Expr).length+([]:List Keyword).length+(if([]:List Keyword).isEmpty then 0 else 1)<30))=true
 line:(apos.endLine==aJ.line)=true
 trees:backTo aJ (C5 [e,f] X.env)=[(false,eval e X.env),(false,eval f X.env)]
def LZ(H:Hp)(a:Addr):Prop:=(∃kvs,Rd H a (.dK kvs))\/∃kvs,Rd H a (.dT kvs)
theorem Ke(I:Inv X pins σ H s)(d:LZ H a) :
  s.TypeIs (.ref a) "dict" /\ (∀b,F4 a=.ref b->∃ob,s.heap.get? b=some ob/\ob.dict=none)/\(a==Q5)=false:=by
 rcases d with⟨kvs,e⟩|⟨kvs,e⟩
 ·obtain⟨_,hd,vs,_,dd⟩:=vt I.az e
  refine#[dd.typeIs,λb q=>?_,hd];cases q;obtain⟨ob,_,_,h1,h2,_⟩:=dd;exact#[ob,h1,h2.2.1]
 ·obtain⟨_,hd,xs,_,dd⟩:=CS I.az e
  refine#[dd.typeIs,λb q=>?_,hd];cases q;obtain⟨ob,_,_,h1,h2,_⟩:=dd;exact#[ob,h1,h2.2.1]
section
variable{X:Cx}{pins:List (Addr×Obj)}{σ:St}{H:Hp}{s:Shared}{a:Addr}{y d:V}{u r:Value}{o:Option V}{A:Around}{E:Value->Shared->Prop}
theorem x24(hu:A.units+1<cLine)(I:Inv X pins σ H s)(g:lq H a y o)(ry:RelV y u)(rd:RelV d r)(h:∀w' s',Inv X pins σ H s'->RelV (o.getD d) w'->Q w' s') :
  wpAny (model X.prog X.w) A (call (.builtin "dict.get") [.ref a,u,r]) Q E s:=by
 rcases g with⟨kvs,k,e,ey,l⟩|⟨kvs,k,b,e,ey,eb,l⟩
 ·subst ey
  obtain⟨z,hd,vs,rel,dd⟩:=vt I.az e;refine JD Wj dd.typeIs B12 (A99 _ _ _) (meets_dict_get_default (dX X.prog X.w) a (za ry) hd r) #[_,dd.mapOf,h _ _ (I.tok _) ?_];rw[l];exact(rel.val k).getD rd
 ·subst ey
  cases(show u=F4 b from ry);obtain⟨z,hd,xs,rel,dd⟩:=CS I.az e;refine JD Wj dd.typeIs B12 (A99 _ _ _) (meetsH_dict_get_default (Cq (dX X.prog X.w)) a b hd r) #[VT hu,k,xs,Kf I.az eb,dd,h _ _ (I.tok _) ?_];rw[l];exact(rel.val k).getD rd
end
def Yt(td ty tx:TE):TE:=λσ H Q=>td σ H λx H1=>∃a,x=.ref a/\LZ H1 a/\ty σ H1 λy H2=>tx σ H2 λz H3=>∃o,lq H3 a y o/\Q (o.getD z) H3
def Yu(td ty:TE):TE:=λσ H Q=>td σ H λx H1=>∃a,x=.ref a/\LZ H1 a/\ty σ H1 λy H2=>∃kvs k v,H2 a=some (.dK kvs)/\y=kV k/\cV kvs k=some v/\Q v (upd H2 a (.dK (xA kvs k)))
section
variable{X:Cx}{o e f:Expr}{apos aJ:Pos}{td ty tx:TE}
theorem vm8(hu:X.A.units+1<cLine)(ho:PE X o td)(he:PE X e ty)(hf:PE X f tx)(m:M2 X o "get" apos e f aJ):PE X (.Call (.Attribute o "get" apos) [e,f] [] aJ) (Yt td ty tx):=by
 intro pins s σ H Q I h
 (refine VP m.base m.few m.line W8 Wj PySem.F.type_dict_get (a_ (ho pins s σ H _ I h) ?_);rintro u s1 ⟨x,H1,I1,rx,a,ex,d,q1⟩)
 subst ex;obtain rfl:u=F4 a:=rx;obtain⟨t1,t2,_⟩:=Ke I1 d;refine#[t1,t2,?_];rw[m.trees];refine U1 rfl (Y6 (Q0 (a_ (he pins s1 σ H1 _ I1 q1) λiv s2 ⟨y,H2,I2,ry,q2⟩ =>
  Q0 (a_ (hf pins s2 σ H2 _ I2 q2) λfv s3 ⟨z,H3,I3,rz,ov,g,q3⟩=>R8 ?_))))
 exact x24 hu I3 g ry rz λw' s4 I4 jq=>#[_,H3,I4,jq,q3]
theorem vm4(ho:PE X o td)(he:PE X e ty)(m:M1 X o "pop" apos e aJ):PE X (.Call (.Attribute o "pop" apos) [e] [] aJ) (Yu td ty):=by
 intro pins s σ H Q I h
 (refine VP m.base m.few m.line W8 B38 PySem.F.type_dict_pop (a_ (ho pins s σ H _ I h) ?_);rintro u s1 ⟨x,H1,I1,rx,a,ex,d,q1⟩)
 subst ex;obtain rfl:u=F4 a:=rx;obtain⟨t1,t2,_⟩:=Ke I1 d;refine#[t1,t2,?_];rw[m.trees]
 (refine U1 rfl (Y6 (Q0 (a_ (he pins s1 σ H1 _ I1 q1) ?_)));rintro iv s2 ⟨y,H2,I2,ry,kvs,k,v,ea,ey,l,q2⟩;refine R8 ?_)
 subst ey;exact xb5 I2 ea ry l (.inl rfl) λw' s3 I3 jq=>#[v,_,I3,jq,q2]
end
section
variable{X:Cx}{pins:List (Addr×Obj)}{σ:St}{H:Hp}{s:Shared}{a:Addr}{kvs:List (Key×V)}{A:Around}{E:Value->Shared->Prop}
theorem vr0(I:Inv X pins σ H s)(e:Rd H a (.dK kvs))(h:∀p s',H p=none->Inv X pins σ (upd H p (.dK kvs)) s'->Q (.ref p) s'):wpAny (model X.prog X.w) A (call (.type "dict") [.ref a]) Q E s:=by
 obtain⟨z,hd,vs,rel,dd⟩:=vt I.az e;refine kt_call_dict hd dd (by rw[<- rel.length];exact z) λh' pb hs=>?_
 refine h _ _ (I.az.fresh (B8 _)) (I.laid (a:=s.heap.objs.size) (o:=.dK kvs) (t':=s.toks) (λb q hq=>?_) (B8 _) (Kc z (beq_eq_false_iff_ne.mpr (D8 (I0 I.big))) rel pb));exact(hs.2 b (I0 (D5 hq))).trans (B6 _ hq)
end
end L2
namespace HT
open PySem PyProof.Rows
section
open PySem.SeqAt
open PySem.AutoSeq1 (wpAny_loadPart')
open PySem.MeetsSeq PySem.MeetsSeq2 PySem.MeetsSeq3
end
section
variable{prog:Program}{w:World}{A:Around}{E:Value->Shared->Prop}{s:Shared}
theorem wY{vs ws:List Value}(ht:IsTup s.heap t vs.toArray)(hb:IsTup s.heap b ws.toArray)(hv:vs≠[])
  (h1:ws=[]->Q (.ref t) s) (h2:ws≠[]->Q (.ref s.heap.objs.size) { s with heap:=s.heap.push { cls:=.type "tuple",data:=.seq (vs++ws).toArray}})
  (hsz:vs.length+ws.length<=sizeLine):wpAny (model prog w) A (M0 .Add (.ref t) (.ref b)) Q E s:=by
 obtain⟨⟨cls,dd,data,sl⟩,ho,hc,n,hd⟩:=id ht;obtain⟨⟨Up,uX,data2,qE⟩,z9,yd,n2,hd2⟩:=id hb;simp only at hc hd yd hd2;subst hc hd yd hd2;have e:vs.toArray++ws.toArray=(vs++ws).toArray:=by simp
 by_cases hw:ws=[]
 ·exact Vk #[_,ho,rfl] #[_,z9,rfl] VI Vt Wm Wq (Z9 _ _)
   (tuple_addW1 t b vs.toArray ws.toArray n n2 dd uX sl qE (by simpa using hv) (by simp[hw])) #[ho,z9,h1 hw]
 ·refine Vk #[_,ho,rfl] #[_,z9,rfl] VI Vt Wm Wq (Z9 _ _)
   (tuple_addW2 t b vs.toArray ws.toArray n n2 dd uX sl qE (by simpa using hv) (by simpa using hw) (by rw[E5,E5];exact hsz)) #[ho,z9,?_]
  rw[e];exact h2 hw
def b9(n d:Nat):Option Int->Nat
 | none=>d
 | some v=>if v<0 then(v+(n:Int)).toNat else min v.toNat n
theorem lW(n d:Nat):b9 n d none=d:=rfl
theorem kH(n d k:Nat):b9 n d (some (k:Int))=min k n:=by
 show(if(k:Int)<0 then((k:Int)+(n:Int)).toNat else min (k:Int).toNat n)=min k n
 rw[if_neg (),Q4]
theorem wm9(n d:Nat)(hd:d<=n)(o:Option Int):b9 n d o<=n:=by
 cases o with
 | none=>exact hd
 | some v =>
  show(if v<0 then(v+(n:Int)).toNat else min v.toNat n)<=n
  by_cases hv:v<0
  ·rw[if_pos hv];omega
  ·rw[if_neg hv];exact Nat.min_le_right _ _
theorem YV(v:Int)(n d:Nat):(if v<0 then max (v+(n:Int)) 0 else min v (n:Int))=((b9 n d (some v):Nat):Int):=by
 show(if v<0 then max (v+(n:Int)) 0 else min v (n:Int))=(((if v<0 then(v+(n:Int)).toNat else min v.toNat n):Nat):Int)
 by_cases hv:v<0
 ·simp only[if_pos hv];omega
 ·simp only[if_neg hv];omega
theorem v48(lo hi:Option Int)(n:Nat):Z3 lo hi 1 (n:Int)=(((b9 n 0 lo:Nat):Int),((b9 n n hi:Nat):Int)):=by
 have h1:¬ ((1:Int)<0):=()
 unfold Z3;simp only[h1,if_false];refine yP ?_ ?_
 ·cases lo with
  | none=>rfl
  | some v=>exact YV v n 0
 ·cases hi with
  | none=>rfl
  | some v=>exact YV v n n
theorem v25(i j:Nat):U9 (i:Int) (j:Int) 1=j-i:=by
 unfold U9;have h1:(1:Int)>0:=()
 simp only[h1,if_true,Int.ediv_one];split <;> omega
theorem uj8(p:IsPart v o)(h:Q o s):wpAny (model prog w) A (C11 v) Q E s:=by
 cases p with
 | none=>exact slicePart_none h
 | int i t=>exact slicePart_int h
theorem ue9{sl:Addr}{vl vu:Value}{lo hi:Option Int}{n:Nat}{Q:Int×Int×Nat->Shared->Prop}(hs:s.heap.IsSliceOf sl vl vu .none)(pl:IsPart vl lo)(pu:IsPart vu hi)
  (h:Q (((b9 n 0 lo:Nat):Int),1,b9 n n hi-b9 n 0 lo) s):wpAny (model prog w) A (A64 (.ref sl) (pure (n:Int))) Q E s:=by
 obtain⟨os,Gr,Aj,uP⟩:=id hs;unfold A64 C41;refine B5 (B5 (L4 Gr uP (x:=vl) rfl (B5 (L4 Gr uP (x:=vu) rfl (B5 (L4 Gr uP (x:=.none) rfl (C2 ?_)))))));refine B5 (slicePart_none ?_)
 show wpAny _ _ (if((1:Int)==0)=true then _ else _) _ _ s
 rw[if_neg ∅];refine B5 (uj8 pl (B5 (uj8 pu (B5 (C2 ?_)))))
 show wpAny _ _ (match Z3 lo hi 1 (n:Int) with|(lo,hi)=>pure (lo,(1:Int),U9 lo hi 1)) _ _ s
 rw[v48 lo hi n]
 show wpAny _ _ (pure (((b9 n 0 lo:Nat):Int),(1:Int),U9 ((b9 n 0 lo:Nat):Int) ((b9 n n hi:Nat):Int) 1)) _ _ s
 rw[v25];exact C2 h
theorem vl7(xs:Array Value)(i k:Nat):((D1 k).filterMap λ(m:Nat)=>xs[((i:Int)+(m:Int)*1).toNat]?).toArray=((xs.toList.drop i).take k).toArray:=by
 have e:(λ(m:Nat)=>xs[((i:Int)+(m:Int)*1).toNat]?)=λm=>xs[i+m]?:=by
  funext m
  have:((i:Int)+(m:Int)*1).toNat=i+m:=()
  rw[this]
 rw[e];have:=pick_run xs i k;rw[B68] at this;have e2:((λx=>xs[x]?)∘λx=>i+x)=λm=>xs[i+m]?:=rfl
 rw[e2] at this;rw[this]
theorem gp{t sl:Addr}{items:Array Value}{vl vu:Value}{lo hi:Option Int}{Q:Value->Shared->Prop}(ht:IsTup s.heap t items)(hs:s.heap.IsSliceOf sl vl vu .none)(pl:IsPart vl lo)(pu:IsPart vu hi)
  (hw:¬ (b9 items.size 0 lo=0/\b9 items.size items.size hi=items.size))
  (h:Q (.ref s.heap.objs.size) { s with heap:=s.heap.push { cls:=.type "tuple",data:=.seq ((items.toList.drop (b9 items.size 0 lo)).take (b9 items.size items.size hi-b9 items.size 0 lo)).toArray}})
  (hsz:items.size<=sizeLine):wpAny (model prog w) A (yM (.ref t) (.ref sl)) Q E s:=by
 have pL:sizeOk (.seq ((items.toList.drop (b9 items.size 0 lo)).take (b9 items.size items.size hi-b9 items.size 0 lo)).toArray):=by
  show((items.toList.drop (b9 items.size 0 lo)).take (b9 items.size items.size hi-b9 items.size 0 lo)).toArray.size<=sizeLine
  rw[E5,MX,MV,K8];omega
 have hj:b9 items.size items.size hi<=items.size:=wm9 _ _ (B8 _) hi;obtain⟨os,Gr,Aj,uP⟩:=id hs;have hTs:s.TypeIs (.ref sl) "slice" := #[os,Gr,Aj];unfold yM
 try with_reducible refine M8 ?_
 first|refine B5 (C2 ?_)|skip
 refine B5 (wpAny_sequenceKey ht.typeIs ∅ ?_);refine B5 (O7 (name:=C4 "__getitem__") ht.typeIs W4
  (P3 W4 ht.typeIs entry_tuple_getitem ?_ (args_tuple_getitem _ _)))
 show wpAny _ _ (A60 (.ref t) >>= _) _ _ s
 refine B5 (tupleItemsOf_ ht ?_);refine B5 (Cv hTs ?_);rw[if_pos ∅];refine B5 (ue9 hs pl pu ?_);have hno:¬ ((((b9 items.size 0 lo:Nat):Int)==0&&(1:Int)==1&&(b9 items.size items.size hi-b9 items.size 0 lo)==items.size)=true):=by
  intro q;rw[N8,N8] at q;have q1:((b9 items.size 0 lo:Nat):Int)=0:=eq_of_beq q.1.1;have q2:b9 items.size items.size hi-b9 items.size 0 lo=items.size:=eq_of_beq q.2;exact hw #[(),()]
 show wpAny _ _ (if(((b9 items.size 0 lo:Nat):Int)==0&&(1:Int)==1&&(b9 items.size items.size hi-b9 items.size 0 lo)==items.size)=true then _ else _) _ _ s
 rw[if_neg hno,vl7]
 first
  | exact B5 (m:=W0 _) (T7 (C2 ⟨_,rfl,C2 h⟩) pL)
  | exact B5 (m:=W0 _) (T7 (B5 (C2 (C2 ⟨_,rfl,C2 h⟩))) pL)
  | exact B5 (B5 (m:=W0 _) (T7 (C2 (C2 ⟨_,rfl,C2 h⟩)) pL))
  | exact B5 (B5 (m:=W0 _) (T7 (C2 ⟨_,rfl,C2 h⟩) pL))
end
end HT
namespace L2
open PySem PySem.Spec PyProof.Rows
abbrev TO:=St->Hp->(Option Int->Hp->Prop)->Prop
def PO(X:Cx)(e:Option Expr)(t:TO):Prop :=
 ∀(pins:List (Addr×Obj)) (s:Shared) (σ:St) (H:Hp) (Q:Option Int->Hp->Prop),Inv X pins σ H s->t σ H Q ->
  wpAny (model X.prog X.w) X.A (evalPart e X.env) (λu s'=>∃o H',Inv X pins σ H' s'/\IsPart u o/\Q o H') X.xe s
def ZA:TO:=λ_ H Q=>Q none H
def Xe(t:TE):TO:=λσ H Q=>t σ H λx H1=>∃i,x=.int i/\Q (some i) H1
theorem intsAre_of{ns:List Int}:∀{us:List Value},Vals (ns.map V.int) us->u_ us ns:=by
 induction ns with
 | nil=>intro us r;rw[Z0] at r;cases r;exact .nil
 | cons n ns ih =>
  intro us r;rw[C0] at r;cases r with
  | cons r1 r2 =>
   obtain⟨t,e⟩:=r1;subst e;exact .cons n t (ih r2)
section
variable{X:Cx}{e:Expr}{te:TE}{lo hi:Option Expr}{tl th:TO}{pos p2:Pos}
theorem wa5:PO X none ZA:=by
 intro pins s σ H Q I h;rw[Vs];exact C2 #[none,H,I,.none,h]
theorem wa4(h:PE X e te):PO X (some e) (Xe te):=by
 intro pins s σ H Q I hw;rw[evalPart_some]
 (refine a_ (h pins s σ H _ I hw) ?_;rintro u s1 ⟨x,H1,I1,r1,q1⟩)
 obtain⟨i,rfl,q⟩:=q1;obtain⟨t,rfl⟩:=r1;exact#[some i,H1,I1,.int i t,q]
def q_(X:Cx)(r:V->Option Int->Option Int->Hp->VK->Prop):Prop :=
 ∀(pins:List (Addr×Obj)) (s:Shared) (σ:St) (H:Hp) (x:V) (v vl vu:Value) (lo hi:Option Int) (sl:Addr) (Q:VK),Inv X pins σ H s->RelV x v->s.heap.IsSliceOf sl vl vu .none->IsPart vl lo->IsPart vu hi->r x lo hi H Q ->
  ∃T id,Ju (.type T) "__getitem__" = pure (some (.builtin id))/\s.TypeIs v T/\wpAny (model X.prog X.w) X.A (yM v (.ref sl)) (EP X pins σ Q) X.xe s
theorem q_.or{r r':V->Option Int->Option Int->Hp->VK->Prop}(h:q_ X r)(h':q_ X r'):q_ X (λx lo hi H Q=>r x lo hi H Q\/r' x lo hi H Q):=by
 intro pins s σ H x v vl vu lo hi sl Q I rx hs pl pu q
 rcases q with q|q
 ·exact h pins s σ H x v vl vu lo hi sl Q I rx hs pl pu q
 ·exact h' pins s σ H x v vl vu lo hi sl Q I rx hs pl pu q
def tSl(r:V->Option Int->Option Int->Hp->VK->Prop)(te:TE)(tl th:TO):TE:=λσ H Q=>te σ H λx H1=>tl σ H1 λl H2=>th σ H2 λu H3=>r x l u H3 Q
theorem vm0(hr:q_ X r)(he:PE X e te)(hl:PO X lo tl)(hu:PO X hi th):PE X (.Subscript e (.Slice lo hi none p2) pos) (tSl r te tl th):=by
 intro pins s σ H Q I h
 (refine Mm (a_ (he pins s σ H _ I h) ?_);rintro v s1 ⟨x,H1,I1,r1,q1⟩)
 (refine wpAny_Slice (a_ (hl pins s1 σ H1 _ I1 q1) ?_);rintro vl s2 ⟨l,H2,I2,pl,q2⟩;refine a_ (hu pins s2 σ H2 _ I2 q2) ?_;rintro vu s3 ⟨u,H3,I3,pu,q3⟩)
 rw[Vs];refine C2 ?_;have I4:Inv X pins σ H3 { s3 with heap:=s3.heap.push { cls:=.type "slice",data:=.fields [vl,vu,.none].toArray}}:=I3.kept (t':=s3.toks) λb ob q=>B6 _ q
 obtain⟨T,id,hT,ht,hg⟩:=hr pins { s3 with heap:=s3.heap.push { cls:=.type "slice",data:=.fields [vl,vu,.none].toArray}} σ H3 x v vl vu l u s3.heap.objs.size Q I4 r1 (B69 ..) pl pu q3
 show wpAny (model X.prog X.w) X.A (MJ e (.Slice lo hi none p2) v (.ref s3.heap.objs.size)) (EP X pins σ Q) X.xe { s3 with heap:=s3.heap.push { cls:=.type "slice",data:=.fields [vl,vu,.none].toArray}}
 exact US (ops:=[.ref s3.heap.objs.size,v]) ht hT hg (by with_unfolding_all rfl)
def nu(xs:List V)(lo hi:Option Int):List V:=(xs.drop (HT.b9 xs.length 0 lo)).take (HT.b9 xs.length xs.length hi-HT.b9 xs.length 0 lo)
theorem ui5(xs:List V)(lo hi:Option Int):(nu xs lo hi).length<=xs.length:=by
 unfold nu;rw[MX,MV];omega
def RI(K:W.Frag):V->Option Int->Option Int->Hp->VK->Prop:=λx lo hi H Q=>∃a xs,x=.ref a/\dS K H a xs /\
 ¬ (HT.b9 xs.length 0 lo=0/\HT.b9 xs.length xs.length hi=xs.length)/\∀p,H p=none->Q (.ref p) (upd H p (.tup (nu xs lo hi)))
theorem wm3:q_ X (RI X.K):=by
 intro pins s σ H x v vl vu lo hi sl Q I rx hs pl pu h;obtain⟨a,xs,rfl,hx,hw,q⟩:=h;cases rx;obtain⟨its,r,ht,hz⟩:=I.tuple hx;have hlen:its.toArray.size=xs.length:=by rw[E5];exact r.length.symm
 refine#["tuple",_,W4.lookup,ht.typeIs,?_];refine HT.gp ht hs pl pu (by rw[hlen];exact hw) ?_ (by rw[hlen];exact hz);rw[hlen];refine#[.ref s.heap.objs.size,_,I.laid (t':=s.toks) (o:=.tup (nu xs lo hi)) (λb ob q=>B6 _ q) (B8 _) ?_,rfl,q _ (I.az.fresh (B8 _))];exact#[D6 (ui5 xs lo hi) hz,_,(r.drop (HT.b9 xs.length 0 lo)).take (HT.b9 xs.length xs.length hi-HT.b9 xs.length 0 lo),nE.new _ _]
def x92(K:W.Frag):R2:=λx y H Q=>∃a b xs ys,x=.ref a/\y=.ref b/\dS K H a xs/\dS K H b ys/\xs≠[]/\xs.length+ys.length<=sizeLine /\
 (ys=[]->Q (.ref a) H)/\(ys≠[]->∀p,H p=none->Q (.ref p) (upd H p (.tup (xs++ys))))
theorem Vals.iz(r:Vals xs us):us=[]↔xs=[]:=by
 cases r with
 | nil=>simp
 | cons _ _=>simp
theorem pH:dy X (M0 .Add) (x92 X.K):=by
 intro pins s σ H x y v u Q I rx ry h;obtain⟨a,b,xs,ys,rfl,rfl,ha,hb,hx,hz,q1,q2⟩:=h;cases rx;cases ry;obtain⟨its,r1,p1,_⟩:=I.tuple ha;obtain⟨aW,r2,p2,_⟩:=I.tuple hb;refine HT.wY p1 p2 (λz=>hx (r1.iz.mp z)) (λz=>#[.ref a,H,I,rfl,q1 (r2.iz.mp z)]) (λz=>?_) (by rw[<- r1.length,<- r2.length];exact hz);refine#[.ref s.heap.objs.size,_,I.laid (t':=s.toks) (o:=.tup (xs++ys)) (λb ob q=>B6 _ q) (B8 _) ?_,rfl,q2 (λw=>z (r2.iz.mpr w)) _ (I.az.fresh (B8 _))];exact#[by rw[B4];exact hz,_,r1.append r2,nE.new _ _]
end
def iU(n:Nat)(i:Int):Option Nat:=if 0<=i then(if i<n then some i.toNat else none) else if -(n:Int)<=i then some (i+n).toNat else none
def da{α:Type}(xs:List α):Int->Option α
 | .ofNat j=>xs[j]?
 | i=>(iU xs.length i).bind λj=>xs[j]?
theorem CN{α:Type}(xs:List α)(i:Int):da xs i=(iU xs.length i).bind λj=>xs[j]?:=by
 cases i with
 | negSucc j=>rfl
 | ofNat j =>
  unfold iU;rw[if_pos (show(0:Int)<=.ofNat j from B67 j)];split
  ·rfl
  ·rename_i h
   exact L9 (B93 λk=>h (Int.ofNat_lt.mpr k))
theorem Zg{n:Nat}(h:iU n i=some j):seqIndex? i n=some j/\j<n/\-(n:Int)<=i/\i<n:=by
 unfold iU at h
 by_cases h0:0<=i
 ·rw[if_pos h0] at h
  by_cases h1:i<n
  ·rw[if_pos h1] at h
   have e:i.toNat=j:=E7 h;exact#[by rw[Vc h0 h1,e],(),(),h1]
  ·rw[if_neg h1] at h;cases h
 ·rw[if_neg h0] at h
  by_cases h1:-(n:Int)<=i
  ·rw[if_pos h1] at h
   have e:(i+n).toNat=j:=E7 h;exact#[by rw[Vj () h1,e],(),h1,()]
  ·rw[if_neg h1] at h;cases h
theorem Qu{α:Type}{xs:List α}{i:Int}{v:α}(h:da xs i=some v):∃j,seqIndex? i xs.length=some j/\xs[j]?=some v/\j<xs.length/\-(xs.length:Int)<=i/\i<xs.length:=by
 rw[CN] at h;cases e:iU xs.length i with
 | none=>rw[e] at h;cases h
 | some j =>
  rw[e] at h;obtain⟨h1,h2,h3,h4⟩:=Zg e;exact#[j,h1,h,h2,h3,h4]
theorem uB{α:Type}{xs:List α}{j:Nat}{v:α}(h:xs[j]?=some v):da xs (j:Int)=some v:=by
 have hj:j<xs.length:=(M4.mp h).1;have e:iU xs.length (j:Int)=some j:=by
  unfold iU;rw[if_pos (),if_pos ()];simp
 rw[CN,e];exact h
def YM(b:Expr):Prop:=∀o i,subscripted b false o i=operate [o,i] (yM o i)
def rh(X:Cx)(r:R2):Prop :=
 ∀(value slice:Expr) (pins:List (Addr×Obj)) (s:Shared) (σ:St) (H:Hp) (x y:V) (v u:Value) (Q:VK),Inv X pins σ H s->RelV x v->RelV y u->r x y H Q ->
  subscripted slice false v u=operate [v,u] (yM v u)->wpAny (model X.prog X.w) X.A (MJ value slice v u) (EP X pins σ Q) X.xe s
def yn(X:Cx)(id:String)(r:V->List V->Hp->VK->Prop):Prop :=
 ∀(pins:List (Addr×Obj)) (s:Shared) (σ:St) (H:Hp) (x:V) (xs:List V) (v:Value) (us:List Value) (Q:VK),Inv X pins σ H s->RelV x v->Vals xs us->r x xs H Q ->
  wpAny (model X.prog X.w) X.A (call (.builtin id) (v::us)) (EP X pins σ Q) X.xe s
section
variable{X:Cx}{a b:Expr}{ta tb:TE}{pos:Pos}
theorem rh.or{r r':R2}(h:rh X r)(h':rh X r'):rh X (λx y H Q=>r x y H Q\/r' x y H Q):=by
 intro value slice pins s σ H x y v u Q I rx ry q hs
 rcases q with q|q
 ·exact h value slice pins s σ H x y v u Q I rx ry q hs
 ·exact h' value slice pins s σ H x y v u Q I rx ry q hs
theorem yn.or{id:String}{r r':V->List V->Hp->VK->Prop}(h:yn X id r)(h':yn X id r'):yn X id (λx xs H Q=>r x xs H Q\/r' x xs H Q):=by
 intro pins s σ H x xs v us Q I rx rs q
 rcases q with q|q
 ·exact h pins s σ H x xs v us Q I rx rs q
 ·exact h' pins s σ H x xs v us Q I rx rs q
theorem xa2(hr:rh X r)(ha:PE X a ta)(hb:PE X b tb)(hs:YM b):PE X (.Subscript a b pos) (DN r ta tb):=by
 intro pins s σ H Q I h;exact Mm (AB ha hb I h λv u s2 x y H2 I2 rx ry q=>hr a b pins s2 σ H2 x y v u Q I2 rx ry q (hs _ _))
def Ec(K:W.Frag):R2:=λx y H Q=>∃p xs i v,x=.ref p/\y=.int i/\eG K H p xs/\da xs i=some v/\Q v H
def Ea(K:W.Frag):R2:=λx y H Q=>∃p xs i v,x=.ref p/\y=.int i/\dS K H p xs/\da xs i=some v/\Q v H
def Eb:R2:=λx y H Q=>∃z i c,x=.str z/\y=.int i/\z.length<=sizeLine/\da z.cps.toList i=some c/\Q (.str #[[c].toArray]) H
theorem wo:rh X (Ec X.K):=by
 intro value slice pins s σ H x y v u Q I rx ry h hs;obtain⟨p,xs,i,z,rfl,rfl,hq,he,q⟩:=h;cases rx;obtain⟨t,rfl⟩:=ry;obtain⟨its,r,pl,hz⟩:=I.list hq;obtain⟨j,h1,h2,h3,h4,h5⟩:=Qu he;obtain⟨w,ew,jq⟩:=r.get h2;have hl:=r.length;have hn:=gM;have fin:EP X pins σ Q w s:=#[z,H,I,jq,q]
 by_cases h0:0<=i
 ·have hj:i.toNat=j:=by
   rw[Vc h0 h5] at h1;exact E7 h1
  exact item_listR pl.isList h0 () (by rw[hj];simpa using ew) fin hs
 ·have hj:(i+(its.toArray.size:Int)).toNat=j:=by
   rw[Vj () h4] at h1;rw[E5,<- hl];exact E7 h1
  exact subscriptTail_builtinR (x:=w) pl.isList.typeIs VO.lookup
   (wpAny_getItem_list_neg (Q:=λr s'=>r=w/\EP X pins σ Q r s') pl.isList () (by rw[E5] <;> omega) () (by rw[hj];simpa using ew) #[rfl,fin]) hs
theorem zM:rh X (Ea X.K):=by
 intro value slice pins s σ H x y v u Q I rx ry h hs;obtain⟨p,xs,i,z,rfl,rfl,hq,he,q⟩:=h;cases rx;obtain⟨t,rfl⟩:=ry;obtain⟨its,r,pl,hz⟩:=I.tuple hq;obtain⟨j,h1,h2,h3,h4,h5⟩:=Qu he;obtain⟨w,ew,jq⟩:=r.get h2;have hl:=r.length;have hn:=gM;have fin:EP X pins σ Q w s:=#[z,H,I,jq,q];exact subscriptTail_builtinR (x:=w) pl.typeIs slot_tuple_getitem.lookup
  (getItem_tuple (j:=j) (Q:=λr s'=>r=w/\EP X pins σ Q r s') pl () () (by rw[E5,<- hl];exact h1) (by simpa using ew) #[rfl,fin]) hs
theorem wz8:rh X Eb:=by
 intro value slice pins s σ H x y v u Q I rx ry h hs;obtain⟨z,i,c,rfl,rfl,hz,he,q⟩:=h;obtain⟨t,rfl⟩:=rx;obtain⟨t',rfl⟩:=ry;obtain⟨j,h1,h2,h3,h4,h5⟩:=Qu he;have hl:z.cps.toList.length=z.length:=by simp[Mp]
 rw[hl] at h1 h4 h5;have hn:=gM;exact US (Ml s z t) slot_str_getitem.lookup (getItem_str (c:=c) (by
  have e1:decide (i < -(2^63:Int))=false:=decide_eq_false ();have e2:decide (i ≥ 2^63)=false:=decide_eq_false ();rw[e1,e2,MM]) (by rw[h1];simpa using h2) #[.str #[[c].toArray],H,I.tok _,#[_,rfl],q]) hs
def rIx(K:W.Frag):R2:=λx y H Q=>Ec K x y H Q\/Ea K x y H Q\/Eb x y H Q
theorem wz9:rh X (rIx X.K):=wo.or (zM.or wz8)
theorem v29(its:List Value)(n j:Nat)(u:Value):Jx (·.setIfInBounds j u) { cls:=.type "list",data:=.seq its.toArray n}={ cls:=.type "list",data:=.seq (its.set j u).toArray n}:=by
 simp[Jx]
theorem Inv.lst{pins:List (Addr×Obj)}{σ:St}{H:Hp}{s:Shared}{p:Addr}{xs:List V}(I:Inv X pins σ H s)(h:H p=some (.lst xs)) :
  ∃(its:List Value) (n:Nat),Vals xs its/\s.heap.get? p=some { cls:=.type "list",data:=.seq its.toArray n}/\xs.length<=sizeLine:=by
 obtain⟨z,its,n,r,e⟩:=I.az p _ h;exact#[its,n,r,e,z]
theorem Inv.zG{its gm:List Value}(I:Inv X pins σ H s)(h:H p=some (.lst xs))
  (ho:s.heap.get? p=some { cls:=.type "list",data:=.seq its.toArray n}) (hf:f { cls:=.type "list",data:=.seq its.toArray n}={ cls:=.type "list",data:=.seq gm.toArray n'}) (r:Vals ys gm) (hz:ys.length<=sizeLine) (t:Nat) :
  Inv X pins σ (upd H p (.lst ys)) { s with heap:=s.heap.update p f,toks:=t}:=by
 have e:(s.heap.update p f).get? p=some { cls:=.type "list",data:=.seq gm.toArray n'}:=by
  rw[B39 f ho (by rw[hf] <;> rfl),hf]
 refine I.write (x:=p) (e:=p) (by rw[h];trivial) (.inl rfl) (λb u hb q=>(B14 _ _ (D8 hb)).trans q) #[_,e] ?_;exact#[hz,gm,n',r,e]
def x91:V->V->V->Hp->(Hp->Prop)->Prop:=λo i v H Q=>∃p xs k j,o=.ref p/\i=.int k/\H p=some (.lst xs)/\iU xs.length k=some j/\Q (upd H p (.lst (xs.set j v)))
theorem set_list:rb X x91:=by
 intro pins s σ H o i v ov iv u Q I ro ri rv h;obtain⟨p,xs,k,j,rfl,rfl,hp,hj,q⟩:=h;cases ro;obtain⟨t,rfl⟩:=ri;obtain⟨its,n,r,ho,hz⟩:=I.lst hp;obtain⟨h1,h2,h3,h4⟩:=Zg hj;have hl:=r.length;have hn:=gM;have I':Inv X pins σ (upd H p (.lst (xs.set j v))) { s with heap:=s.heap.update p (Jx (·.setIfInBounds j u))} :=
  I.zG hp ho (v29 its n j u) (r.set rv j) (by rw[J5];exact hz) s.toks
 by_cases h0:0<=k
 ·have hk:k.toNat=j:=by
   rw[Vc h0 h4] at h1;exact E7 h1
  exact W.ki_setAt ho h0 () (by rw[E5,<- hl];exact h4) (by rw[hk];exact#[_,I',q])
 ·have hk:(k+(its.toArray.size:Int)).toNat=j:=by
   rw[Vj () h3] at h1;rw[E5,<- hl];exact E7 h1
  exact W.ki_setBack ho () (by rw[E5,<- hl];exact h3) () (by rw[hk];exact#[_,I',q])
theorem uq5(lo hi:Option Int)(n:Nat):(Y9 lo hi none n).1=((HT.b9 n 0 lo:Nat):Int)/\(Y9 lo hi none n).2.1=((HT.b9 n n hi:Nat):Int)/\(Y9 lo hi none n).2.2=1:=by
 refine#[?_,?_,rfl]
 ·cases lo with
  | none=>simp[Y9,HT.b9]
  | some i =>
   simp only[Y9,HT.b9,B94,show(1:Int)>0 by decide,if_true]
   by_cases h:i<0
   ·simp only[h,if_true] <;> omega
   ·simp only[h,if_false] <;> omega
 ·cases hi with
  | none=>simp[Y9,HT.b9]
  | some i =>
   simp only[Y9,HT.b9,B94,show(1:Int)>0 by decide,if_true]
   by_cases h:i<0
   ·simp only[h,if_true] <;> omega
   ·simp only[h,if_false] <;> omega
theorem um4(its:List Value)(lo hi:Option Int):Mh its.toArray lo hi none=((its.drop (HT.b9 its.length 0 lo)).take (HT.b9 its.length its.length hi-HT.b9 its.length 0 lo)).toArray:=by
 obtain⟨h1,h2,h3⟩:=uq5 lo hi its.toArray.size;unfold Mh;rw[h1,h2,h3];simp only[sliceRange_one,pick_run,E5] <;> rfl
def RJ(K:W.Frag):V->Option Int->Option Int->Hp->VK->Prop:=λx lo hi H Q=>∃a xs,x=.ref a/\eG K H a xs/\∀p,H p=none->Q (.ref p) (upd H p (.lst (nu xs lo hi)))
theorem vL:q_ X (RJ X.K):=by
 intro pins s σ H x v vl vu lo hi sl Q I rx hs pl pu h;obtain⟨a,xs,rfl,hx,q⟩:=h;cases rx;obtain⟨its,r,ht,hz⟩:=I.list hx;have hlen:=r.length;refine#["list",_,VO.lookup,ht.isList.typeIs,?_];refine wpAny_getItem_list_slice ht.isList hs pl pu .none (by simp) ?_ (by rw[E5] <;> omega);rw[um4,<- hlen];refine#[.ref s.heap.objs.size,_,I.laid (t':=s.toks) (o:=.lst (nu xs lo hi)) (λb ob q=>B6 _ q) (B8 _) ?_,rfl,q _ (I.az.fresh (B8 _))];exact#[D6 (ui5 xs lo hi) hz,_,0,(r.drop (HT.b9 xs.length 0 lo)).take (HT.b9 xs.length xs.length hi-HT.b9 xs.length 0 lo),D4 _ rfl]
def rR:V->Bool
 | .non=>true
 | .bl _=>true
 | .int _=>true
 | .str _=>true
 | _=>false
def wR:V->V->Bool
 | .non,.non=>true
 | .bl a,.bl b=>a==b
 | .bl a,.int b=>(if a then 1 else 0)==b
 | .int a,.bl b=>a==(if b then 1 else 0)
 | .int a,.int b=>a==b
 | .str a,.str b=>a==b
 | _,_=>false
theorem Xu(ry:RelV y u)(rx:RelV x v)(fy:rR y=true)(fx:rR x=true):Jw A s u v (wR y x):=by
 cases y with
 | non =>
  cases ry;cases x with
  | non=>cases rx;exact VE _
  | bl b=>cases rx;exact C78 b
  | int b=>obtain⟨t,rfl⟩:=rx;exact C89 b t
  | str b=>obtain⟨t,rfl⟩:=rx;exact C90 b t
  | _=>exact absurd (show false=true from fx) D2
 | bl a =>
  cases ry;cases x with
  | non=>cases rx;exact C79 a
  | bl b=>cases rx;exact C80 a b
  | int b=>obtain⟨t,rfl⟩:=rx;exact C91 a b t
  | str b=>obtain⟨t,rfl⟩:=rx;exact C92 a b t
  | _=>exact absurd (show false=true from fx) D2
 | int a =>
  obtain⟨t',rfl⟩:=ry;cases x with
  | non=>cases rx;exact C93 a t'
  | bl b=>cases rx;exact C94 a t' b
  | int b=>obtain⟨t,rfl⟩:=rx;exact D00 a t' b t
  | str b=>obtain⟨t,rfl⟩:=rx;exact B63 a t' b t
  | _=>exact absurd (show false=true from fx) D2
 | str a =>
  obtain⟨t',rfl⟩:=ry;cases x with
  | non=>cases rx;exact C95 a t'
  | bl b=>cases rx;exact C96 a t' b
  | int b=>obtain⟨t,rfl⟩:=rx;exact B64 a t' b t
  | str b=>obtain⟨t,rfl⟩:=rx;exact D01 a t' b t
  | _=>exact absurd (show false=true from fx) D2
 | _=>exact absurd (show false=true from fy) D2
def wU(x:V)(u:Value):Bool:=match u with
 | .none=>wR .non x
 | .bool b=>wR (.bl b) x
 | .int i _=>wR (.int i) x
 | .str z _=>wR (.str z) x
 | _=>false
theorem Xv(r:RelV y u)(f:rR y=true):wU x u=wR y x:=by
 cases y with
 | non=>cases r;rfl
 | bl b=>cases r;rfl
 | int i=>obtain⟨t,rfl⟩:=r;rfl
 | str z=>obtain⟨t,rfl⟩:=r;rfl
 | _=>exact absurd (show false=true from f) D2
theorem Qs:∀{xs:List V} {us:List Value},Vals xs us->xs.all rR=true->us.any (wU x)=xs.any λy=>wR y x
 | _,_,.nil,_=>rfl
 | y::xs,u::us,.cons r t,f=>by
  rw[U6,N8] at f;rw[P0,P0,Xv r f.1,Qs t f.2]
theorem QN(rx:RelV x v)(fx:rR x=true):∀{xs:List V} {us:List Value},Vals xs us->xs.all rR=true->∀u∈us,Jw A s u v (wU x u)
 | _,_,.nil,_=>λu hu=>by cases hu
 | y::xs,u::us,.cons r t,f=>λu' hu=>by
  rw[U6,N8] at f
  rcases E6.mp hu with rfl|hu
  ·rw[Xv r f.1];exact Xu r rx f.1 fx
  ·exact QN rx fx t f.2 u' hu
def BO(x:V)(xs:List V):Bool:=xs.any λy=>wR y x
def rIn(K:W.Frag)(neg:Bool):R2:=λx y H Q=>∃p xs,y=.ref p/\(eG K H p xs\/dS K H p xs)/\rR x=true/\xs.all rR=true/\Q (.bl (if neg then !BO x xs else BO x xs)) H
theorem va4:dy X (O6 .In) (rIn X.K false):=by
 intro pins s σ H x y v u Q I rx ry h;obtain⟨p,xs,rfl,hq,fx,fs,q⟩:=h;cases ry
 rcases hq with hq|hq
 ·obtain⟨its,r,pl,hz⟩:=I.list hq
  refine SeqAt.in_listAt (wU x) pl.isList (λw hw=>QN rx fx r fs w (by simpa using hw)) #[.bl _,H,I,rfl,?_];rw[show its.toArray.any (wU x)=its.any (wU x) by simp,Qs r fs];exact q
 ·obtain⟨its,r,pl,hz⟩:=I.tuple hq
  refine SeqAt.in_tupleAt (wU x) pl (λw hw=>QN rx fx r fs w (by simpa using hw)) #[.bl _,H,I,rfl,?_];rw[show its.toArray.any (wU x)=its.any (wU x) by simp,Qs r fs];exact q
theorem k9:bK X (.builtin "len") (λxs H Q=>∃p ys,xs=[.ref p]/\(eG X.K H p ys\/dS X.K H p ys)/\Q (.int ys.length) H):=by
 intro pins s σ H xs us Q I r h;obtain⟨p,ys,rfl,hq,q⟩:=h;obtain⟨u,rfl,rx⟩:=vals1 r;cases rx;have hn:=gM
 rcases hq with hq|hq
 ·obtain⟨its,r',pl,hz⟩:=I.list hq
  have hlen:=r'.length;exact Calls.call_len_list pl.isList (by simp only[E5] <;> omega) #[.int ys.length,H,I.tok _,#[s.toks+1,by rw[E5,hlen]],q]
 ·obtain⟨its,r',pl,hz⟩:=I.tuple hq
  have hlen:=r'.length;exact len_tuple pl (by simp only[E5] <;> omega) #[.int ys.length,H,I.tok _,#[s.toks+1,by rw[E5,hlen]],q]
theorem us3:bK X (.builtin "len") (λxs H Q=>∃z,xs=[.str z]/\z.length<=sizeLine/\Q (.int z.length) H):=by
 intro pins s σ H xs us Q I r h;obtain⟨z,rfl,hz,q⟩:=h;obtain⟨u,rfl,t,rfl⟩:=vals1 r;have hn:=gM;exact len_str () #[.int z.length,H,I.tok _,#[_,rfl],q]
theorem bK.or{f:Value}{r r':List V->Hp->VK->Prop}(h:bK X f r)(h':bK X f r'):bK X f (λxs H Q=>r xs H Q\/r' xs H Q):=by
 intro pins s σ H xs us Q I rs q
 rcases q with q|q
 ·exact h pins s σ H xs us Q I rs q
 ·exact h' pins s σ H xs us Q I rs q
theorem us2:bK X (.type "list") (λxs H Q=>∃p ys,xs=[.ref p]/\(eG X.K H p ys\/dS X.K H p ys)/\∀l,H l=none->Q (.ref l) (upd H l (.lst ys))):=by
 intro pins s σ H xs us Q I r h;obtain⟨p,ys,rfl,hq,q⟩:=h;obtain⟨u,rfl,rx⟩:=vals1 r;cases rx;have fin:∀(its:List Value),Vals ys its->ys.length<=sizeLine->∀(h':Heap) (c':Nat),(∀b o',s.heap.get? b=some o'->h'.get? b=some o') ->
   h'.get? s.heap.objs.size=some { cls:=.type "list",dict:=none,data:=.seq its.toArray c',slots:=[].toArray}->EP X pins σ Q (.ref s.heap.objs.size) { s with heap:=h'}:=λits r' hz h' c' kp e =>
  #[.ref s.heap.objs.size,_,I.laid (t':=s.toks) kp (B8 _) (show bh X.prog X.w _ h' _ (.lst ys) from #[hz,its,c',r',e]),rfl,q _ (I.az.fresh (B8 _))]
 rcases hq with hq|hq
 ·obtain⟨its,r',pl,hz⟩:=I.list hq
  have hlen:=r'.length;obtain⟨o,ho,hc,n,hd⟩:=pl.isList;exact call_list_seq p (.inl rfl) ho hc hd (λh' c' kp e=>fin its r' hz h' c' kp e) (by simp only[E5] <;> omega)
 ·obtain⟨its,r',pl,hz⟩:=I.tuple hq
  have hlen:=r'.length;obtain⟨o,ho,hc,n,hd⟩:=pl;exact call_list_seq p (.inr rfl) ho hc hd (λh' c' kp e=>fin its r' hz h' c' kp e) (by simp only[E5] <;> omega)
theorem uo5:bK X (.type "tuple") (λxs H Q=>∃p ys,xs=[.ref p]/\((eG X.K H p ys/\∀l,H l=none->Q (.ref l) (upd H l (.tup ys)))\/(dS X.K H p ys/\Q (.ref p) H))):=by
 intro pins s σ H xs us Q I r h;obtain⟨p,ys,rfl,h⟩:=h;obtain⟨u,rfl,rx⟩:=vals1 r;cases rx
 rcases h with⟨hq,q⟩|⟨hq,q⟩
 ·obtain⟨its,r',pl,hz⟩:=I.list hq
  have hlen:=r'.length;refine call_tuple_list pl.isList (λh' kp=>?_) (by simp only[E5] <;> omega);have I1:Inv X pins σ H { s with heap:=h'}:=I.kept (t':=s.toks) kp
  have I2:Inv X pins σ (upd H h'.objs.size (.tup ys)) { s with heap:=h'.push { cls:=.type "tuple",data:=.seq its.toArray}} :=
   I1.laid (t':=s.toks) (λb o e=>B6 _ e) (B8 _) (show bh X.prog X.w _ _ _ (.tup ys) from #[hz,its,r',nE.new _ _])
  exact#[.ref h'.objs.size,_,I2,rfl,q _ (I1.az.fresh (B8 _))]
 ·obtain⟨its,r',pl,hz⟩:=I.tuple hq
  exact call_tuple_same pl #[.ref p,H,I,rfl,q]
def DC(K:W.Frag)(T:String)(x:V)(H:Hp):Prop:=match x with
 | .str _=>T = "str"
 | .int _=>T = "int"
 | .ref p=>(T = "list" /\ ∃xs,eG K H p xs)\/(T = "tuple" /\ ∃o,K.lookup p=some o/\o.cls=.type "tuple" /\ o.dict=none) \/
   (T = "dict" /\ ((∃kvs,H p=some (.dK kvs))\/∃kvs,H p=some (.dT kvs)))\/(T = "set" /\ ∃S n,H p=some (.set S n))
 | _=>False
theorem wk5(I:Inv X pins σ H s)(r:RelV x v)(ty:DC X.K T x H) :
  s.TypeIs v T/\∀a,v=.ref a->∃ob,s.heap.get? a=some ob/\ob.dict=none:=by
 cases x with
 | str z =>
  obtain⟨t,rfl⟩:=r;cases(show T = "str" from ty);exact#[Ml s z t,λ_ e=>nomatch e]
 | int i =>
  obtain⟨t,rfl⟩:=r;cases(show T = "int" from ty);exact#[UY s i t,λ_ e=>nomatch e]
 | ref p =>
  cases r
  rcases ty with⟨rfl,xs,hq⟩|⟨rfl,o,hk,hc,hd⟩|⟨rfl,hk⟩|⟨rfl,S,n,hk⟩
  ·obtain⟨its,_,pl,_⟩:=I.list hq
   refine#[pl.isList.typeIs,λa e=>?_];cases e;obtain⟨o,n,e,c,hd,_⟩:=pl;exact#[o,e,hd]
  ·refine#[#[o,I.ie p o hk,hc],λa e=>?_]
   cases e;exact#[o,I.ie _ o hk,hd]
  ·have z:∃o,s.heap.get? p=some o/\o.ExactDict:=by
    rcases hk with⟨kvs,hk⟩|⟨kvs,hk⟩
    ·obtain⟨_,_,_,_,o,_,_,e,ex,_⟩:=I.az p _ hk
     exact#[o,e,ex]
    ·obtain⟨_,_,_,_,o,_,_,e,ex,_⟩:=I.az p _ hk
     exact#[o,e,ex]
   obtain⟨o,e,ex⟩:=z;refine#[#[o,e,ex.1],λa e2=>?_];cases e2;exact#[o,e,ex.2.1]
  ·obtain⟨o,_,_,_,e,ex,_⟩:=I.az p _ hk
   refine#[#[o,e,ex.1],λa e2=>?_];cases e2;exact#[o,e,ex.2.1]
 | _=>exact Q3 ty
def tBM(K:W.Frag)(T:String)(r:V->List V->Hp->VK->Prop)(to:TE)(t:TA):TE:=λσ H Q=>to σ H λx H1=>DC K T x H1/\t σ H1 λxs H2=>r x xs H2 Q
variable{o e:Expr}{es:List Expr}{to:TE}{t:TA}{name:Str}{apos aJ:Pos}{T id:String}{r:V->List V->Hp->VK->Prop}
theorem NX(pa:PlainAttrs T)(slot:Slot T name id)(hty:typeOf (.builtin id)=pure (.type "method_descriptor"))(hm:yn X id r)(ho:PE X o to)(ha:PA X (e::es) t)
  (cB:O1 o name X.env (eval o X.env)=eval o X.env:=by rfl)
  (gQ:((backTo aJ (C5 (e::es) X.env)).all (λx=>!x.1)&&(V8 aJ (P4 [] X.env)).all (λx=>x.1.isSome)
   && decide ((e::es).length+([]:List Keyword).length+(if([]:List Keyword).isEmpty then 0 else 1)<30))=true:=by rfl)
  (cA:(apos.endLine==aJ.line)=true:=by rfl) (hs:C5 (e::es) X.env=(false,eval e X.env)::C5 es X.env:=by rfl) (fM:(backTo aJ (C5 es X.env)).any (·.1)=false:=by rfl) :
  PE X (.Call (.Attribute o name apos) (e::es) [] aJ) (tBM X.K T r to t):=by
 intro pins s σ H Q I h
 (refine wpAny_Call_method_late cB gQ cA rfl (a_ (ho pins s σ H _ I h) ?_);rintro v s1 ⟨x,H1,I1,r1,ty,q1⟩)
 obtain⟨h1,h2⟩:=wk5 I1 r1 ty;refine#[T,id,pa,slot,hty,h1,h2,?_];have hA:=ha aJ pins s1 σ H1 _ I1 q1;rw[hs] at hA⊢;refine U1 (by show(false||(backTo aJ (C5 es X.env)).any (·.1))=false;rw[fM] <;> rfl) (Y6 ?_)
 (refine a_ hA ?_;rintro us s2 ⟨vs,H2,I2,r2,q2⟩;exact hm pins s2 σ H2 x vs v us Q I2 r1 r2 q2)
end
def MtM(X:Cx)(id:String)(r:V->List V->Hp->VK->Prop):Prop :=
 ∀(pins:List (Addr×Obj)) (s:Shared) (σ:St) (H:Hp) (x:V) (xs:List V) (v:Value) (us:List Value) (Q:VK),Inv X pins σ H s->RelV x v->Vals xs us->r x xs H Q ->
  wpAny (model X.prog X.w) X.A (call (.builtin id) (v::us)) (EP X pins σ Q) X.xe s
theorem Vals.one(h:Vals [x] us):∃u,us=[u]/\RelV x u:=by
 cases h with|cons r t=>cases t;exact#[_,rfl,r]
theorem Vals.two(h:Vals [x,y] us):∃u v,us=[u,v]/\RelV x u/\RelV y v:=by
 cases h with|cons r t=>cases t with|cons q t=>cases t;exact#[_,_,rfl,r,q]
theorem Vals.reverse{xs:List V}{us:List Value}(h:Vals xs us):Vals xs.reverse us.reverse:=by
 induction h with
 | nil=>exact .nil
 | cons r t ih=>rw[M_,M_];exact Vals.append ih (.cons r .nil)
theorem Vals.rep(h:Vals xs us):∀k:Nat,Vals (D0 k xs).flatten (D0 k us).flatten
 | 0=>.nil
 | k+1=>by
  rw[K3,K3,M6,M6];exact Vals.append h (Vals.rep h k)
theorem foldl_rep(its:List Value):∀(k:Nat) (acc:List Value),
  Va (λx1 x2=>x1++x2) acc.toArray (D0 k its.toArray)=(acc++(D0 k its).flatten).toArray
 | 0,acc=>by simp
 | k+1,acc=>by
  have e:acc.toArray++its.toArray=(acc++its).toArray:=by simp
  have e2:(acc++its)++(D0 k its).flatten=acc++(D0 (k+1) its).flatten:=by
   rw[K3,M6,E2]
  rw[<- e2,<- foldl_rep its k (acc++its),<- e,K3,VD]
section
variable{X:Cx}{pins:List (Addr×Obj)}{σ:St}{H:Hp}{s:Shared}{l b:Addr}{xs ys zs:List V}
theorem Inv.FK{its gm:List Value}(I:Inv X pins σ H s)(hH:H l=some (.lst xs))
  (e:s.heap.get? l=some { cls:=.type "list",data:=.seq its.toArray n}) (hf:f its.toArray=gm.toArray) (hv:Vals ys gm) (hz:ys.length<=sizeLine) :
  Inv X pins σ (upd H l (.lst ys)) { s with heap:=s.heap.update l (Jx f),toks:=t'}:=by
 have q:=D13 e f;rw[hf] at q;refine I.write (x:=l) (e:=l) (by rw[hH];exact trivial) (.inl rfl) (λb' u hb hu=>(B14 s.heap (Jx f) (D8 hb)).trans hu) #[_,q] ?_;exact#[hz,gm,_,hv,q]
theorem Inv.zH(I:Inv X pins σ H s)(hv:Vals ys its)(hz:ys.length<=sizeLine) :
  Inv X pins σ (upd H s.heap.objs.size (.lst ys)) { s with heap:=s.heap.push { cls:=.type "list",data:=.seq its.toArray},toks:=t'} :=
 I.laid (λ_ _ q=>B6 _ q) (B8 _) #[hz,its,0,hv,D4 _ rfl]
theorem Inv.fresh(I:Inv X pins σ H s):H s.heap.objs.size=none:=I.az.fresh (B8 _)
theorem Inv.qM(I:Inv X pins σ H s)(hH:H l=some (.lst xs)):xs.length<=sizeLine/\∃(its:List Value) (n:Nat),Vals xs its/\xs.length=its.length/\s.heap.get? l=some { cls:=.type "list",data:=.seq its.toArray n}:=by
 obtain⟨z,its,n,r,e⟩:=I.az l _ hH;exact#[z,its,n,r,r.length,e]
theorem ZZ(h:n<=sizeLine):W1 n=false:=by
 unfold W1;exact decide_eq_false ()
end
section
variable{X:Cx}
def w94:V->List V->Hp->VK->Prop:=λx vs H Q=>∃l xs y,x=.ref l/\vs=[y]/\H l=some (.lst xs)/\xs.length<sizeLine/\Q .non (upd H l (.lst (xs++[y])))
theorem ur3:MtM X "list.append" w94:=by
 intro pins s σ H x vs v us Q I rx rv h;obtain⟨l,xs,y,rfl,rfl,hH,hz,q⟩:=h;cases rx;obtain⟨u,rfl,ru⟩:=rv.one;obtain⟨z,its,n,r,hl,e⟩:=I.qM hH;refine AR F.slot_list_append #[_,e,rfl] F.entry_list_append (F.args_list_append_2 _ _) (PySem.list_append l its.toArray n u (by rw[E5];omega)) #[e,?_];refine#[.non,_,I.FK (gm:=its++[u]) hH e (by simp) (r.append (.cons ru .nil)) ?_,rfl,q];rw[B4,U8];omega
def w93:V->List V->Hp->VK->Prop:=λx vs H Q=>∃l b xs zs,x=.ref l/\vs=[.ref b]/\H l=some (.lst xs)/\H b=some (.lst zs)/\xs.length+zs.length<=sizeLine/\Q .non (upd H l (.lst (xs++zs)))
theorem vb2:MtM X "list.extend" w93:=by
 intro pins s σ H x vs v us Q I rx rv h;obtain⟨l,b,xs,zs,rfl,rfl,hH,hB,hz,q⟩:=h;cases rx;obtain⟨u,rfl,ru⟩:=rv.one;cases ru;obtain⟨z,its,n,r,hl,e⟩:=I.qM hH;obtain⟨z2,aW,n2,r2,x_,e2⟩:=I.qM hB;have hsz:its.toArray.size+aW.toArray.size<=sizeLine:=by rw[E5,E5];omega
 have sx:¬ (!its.toArray.isEmpty&&W1 (its.toArray.size+aW.toArray.size))=true:=by
  rw[ZZ hsz,Bool.and_false];exact D2
 refine AR F.slot_list_extend #[_,e,rfl] F.entry_list_extend (F.args_list_extend_2 _ _)
  (AutoSeq1.list_extend_list_list_0 l its.toArray n b aW.toArray n2 sx (by rw[E5];omega) ()) #[e,e2,?_]
 refine#[.non,_,I.FK (gm:=its++aW) hH e (by simp) (r.append r2) ?_,rfl,q];rw[B4];omega
def RM:R2:=λx y H Q=>∃l b xs zs,x=.ref l/\y=.ref b/\H l=some (.lst xs)/\H b=some (.lst zs)/\xs.length+zs.length<=sizeLine/\∀p,H p=none->Q (.ref p) (upd H p (.lst (xs++zs)))
theorem wq8:dy X (M0 .Add) RM:=by
 intro pins s σ H x y v u Q I rx ry h;obtain⟨l,b,xs,zs,rfl,rfl,hH,hB,hz,q⟩:=h;cases rx;cases ry;obtain⟨z,its,n,r,hl,e⟩:=I.qM hH;obtain⟨z2,aW,n2,r2,x_,e2⟩:=I.qM hB;refine PySem.P.add_list e e2 ?_ (by rw[E5,E5];omega);have ea:its.toArray++aW.toArray=(its++aW).toArray:=by simp
 rw[ea];exact#[.ref _,_,I.zH (t':=s.toks) (r.append r2) (by rw[B4];omega),rfl,q _ I.fresh]
def RK:R2:=λx y H Q=>∃l k xs,x=.ref l/\y=.int k/\H l=some (.lst xs)/\-(2^63)<=k/\k<2^63/\xs.length*k.toNat<=sizeLine /\
 ∀p,H p=none->Q (.ref p) (upd H p (.lst (D0 k.toNat xs).flatten))
theorem len_rep{α:Type}(xs:List α)(k:Nat):(D0 k xs).flatten.length=k*xs.length:=by
 induction k with
 | zero=>simp
 | succ k ih=>rw[K3,M6,B4,ih,Cy,P7]
theorem wq3:dy X (M0 .Mult) RK:=by
 intro pins s σ H x y v u Q I rx ry h;obtain⟨l,k,xs,rfl,rfl,hH,h1,h2,hz,q⟩:=h;cases rx;obtain⟨t,rfl⟩:=ry;obtain⟨z,its,n,r,hl,e⟩:=I.qM hH;have hlen:its.toArray.size*k.toNat<=sizeLine:=by rw[E5,<- hl];exact hz
 have TL:¬ its.toArray.size*k.toNat>(2^63-1) / 8:=by
  have:(sizeLine:Nat)<=(2^63-1) / 8:=∅
  omega
 have TJ:¬ (!Builtin.List.listFitsIndex k)=true:=by
  rw[fitsIndex_both h1 h2];exact D2
 have sx:¬ W1 (its.toArray.size*k.toNat)=true:=by
  rw[ZZ hlen];exact D2
 have su:Va (λx1 x2=>x1++x2) [].toArray (D0 (if its.toArray.isEmpty=true then 0 else k.toNat) its.toArray)=(D0 k.toNat its).flatten.toArray:=by
  have f0:∀m:Nat,Va (λx1 x2=>x1++x2) [].toArray (D0 m its.toArray)=(D0 m its).flatten.toArray:=λm=>by
   have:=foldl_rep its m [];rw[J6] at this;exact this
  rw[f0];cases its with
  | nil=>simp
  | cons a r'=>rw[if_neg (by simp)]
 refine wpAny_binaryOp_repeat_ref (T := "list") (U := "int") ∅ #[_,e,rfl] (λs'=>UY s' k t) noFill_list_mul F.fills_int_mul F.slot_int_rmul repeat_list F.slot_int_index.lookup
  (AR F.slot_int_rmul (UY s k t) F.entry_int_rmul (F.args_int_rmul_2 _ _) (int___rmul___int_list k t l its.toArray n)
   #[e,rfl,#[_,e,rfl],AR F.slot_list_mul #[_,e,rfl] F.entry_list_mul (F.args_list_mul_2 _ _) (B79 l its.toArray n k t TJ TL sx) #[e,?_]])
 rw[su];exact#[.ref _,_,I.zH (t':=s.toks) (r.rep k.toNat) (by rw[len_rep,MC];exact hz),rfl,q _ I.fresh]
end
end L2
namespace Att
open PySem PySem.W PySem.Calls PyProof.Rows
theorem uh8{P:Params}:∀(ns:List Int) (vs:List Value),WellAll P h vs (ns.map D14)->u_ vs ns:=by
 intro ns
 induction ns with
 | nil =>
  intro vs w;rw[Z0] at w;cases w;exact .nil
 | cons n ns ih =>
  intro vs w;rw[C0] at w;cases w with
  | cons a b =>
   cases a;exact .cons _ _ (ih _ b)
theorem v82{l:Ma}(hn:l.most=some n){P:Params}
  (wB:l.row.toRowW.claim.pre args=true) (FX:WellAll P h vals args) :
  ∃a vs ns,vals=[F4 a]/\args=[WData.list (ns.map D14)]/\h.get? a=some { cls:=.type "list",data:=.seq vs.toArray}/\u_ vs ns/\ns.length<=n:=by
 have hsh:WShape.hasAll [] args [.list .int]=true:=(pre_splitW wB).1;have hc:l.pre.holds [] { args:=args}=true:=(pre_splitW wB).2;obtain⟨d,r,rfl,h1,h2⟩:=hasAllW_cons hsh;obtain rfl:=hasAllW_nil h2;obtain⟨xs,rfl,h3⟩:=hasW_list h1;obtain⟨ns,rfl⟩:=items_int h3;have hlen:ns.length<=n:=by
  unfold Ma.pre at hc;have h4:(WTm.not (.lt (.lit (.int (n:Int))) (.len (.arg 0)))).holds [] { args:=[.list (ns.map .int)]}=true:=by
   have h4:=(holds_andW hc).1;rw[hn] at h4;exact h4
  have h5:=condW_of h4 (w_not (w_lt w_lit (w_len_list (w_arg rfl))));rw[B0] at h5;refine B93 λq=>?_
  have q':(n:Int)<((ns.length:Nat):Int):=()
  first
   | (rw[decide_eq_true q'] at h5;exact absurd h5 ∅)
   | (simp at h5;omega)
 cases FX with
 | cons w1 w2 =>
  cases w2;cases w1 with
  | list ho oZ=>exact#[_,_,ns,rfl,rfl,ho,uh8 ns _ oZ,hlen]
theorem v93(l:Ma)(args:List WData):l.row.toRowW.claim.post args (.bool true) args=true :=
 postW_of (r:=l.row.toRowW) (X:=(true==true))
  (show D02 [] (.bool true) .bool=true by first|rfl|decide|simp[D02,WShape.arms,WShape.armsAll])
  (show(WTm.eq .res (.lit (.bool true))).value [] { args:=args,res:=some (.bool true),after:=args}=some (.bool (true==true)) from w_eq_bool (w_res rfl) w_lit) rfl
theorem nB{l:Ma}{d:DefRec}
  (hn:l.most=some n) (GD:d.params.defaults=[])
  (call:∀(w:World) (s₀ s₁:Shared) (mg mb:Str->Option Value) (fa:Addr) (o:Obj) (pm cd doc:Value) (a:Addr) (vs:List Value) (ns:List Int),
   Ground q loose [] XP w s₀ mg mb s₁.heap->YP w s₁.heap ->
   s₁.heap.get? fa=some o->o.data=.func (docDef d.name d.params d.body d.scope pm cd doc)->s₁.heap.CodeRec cd d.name->mg d.name=some (.ref fa) ->
   s₁.heap.get? a=some { cls:=.type "list",data:=.seq vs.toArray}->u_ vs ns->ns.length<=n->s₁.gens=[].toArray ->
   rj (model l.prog w) AL (.call (.ref fa) #[[.ref a],[]]) (λr s'=>r=.ok (.ret (.bool true))/\OldK s₁.heap s'.heap/\s'.os=s₁.os/\xu s'.gens) s₁) :
  WalkO q loose XP YP l.row.toRowW d [] (λf vs=>U' f vs):=by
 intro w s₀ s₁ mg mb G Y fa o pm cd doc dV kV ho hd uQ hD LB hg args vals as wB uA6 hrd FX LC;obtain rfl:dV=.none:=Dflts.none hD GD;obtain rfl:kV=.none:=Dflts.noKw hD;obtain⟨a,vs,ns,rfl,rfl,zZ,hints,hlen⟩:=v82 hn wB FX;refine enter_call (Mx (call w s₀ s₁ mg mb fa o pm cd doc a vs ns G Y ho (fd_plain hd) uQ LB zZ hints hlen hg) λr s' hq=>?_);obtain⟨rfl,h2,h3,h4⟩:=hq;exact#[.inl #[.bool true,.bool true,[],rfl,λ_=>rfl,.bool true,v93 l _,λ_=>#[D06,λ_ hm=>(nomatch hm)]],h2,h3,h4]
end Att
namespace L2
open PySem PySem.Spec PyProof.Rows
theorem Ri:∀{vs:List Value} {ns:List Int},u_ vs ns->Vals (ns.map V.int) vs
 | _,_,.nil=>.nil
 | _,_,.cons n t h=>.cons #[t,rfl] (Ri h)
def Only(H:Hp):Prop:=∀b,H b=none\/∃o xs,H b=some (.dg o (.lst xs))
theorem vp8{P:Program}{w:World}{K:W.Frag}{s₁:Shared}{vs:List Value}
  (KX:K.In s₁.heap) (x6:s₁.heap.Ns J2 mg) (hb:s₁.heap.Ns Mn mb) (hbb:∀x:Str,x ≠ "__name__" -> mb x=Q6 x) (Tv:s₁.heap.NoLimit) (hg:s₁.gens=[].toArray)
  (ha:s₁.heap.get? a=some { cls:=.type "list",data:=.seq vs.toArray}) (hi:u_ vs ns) (hl:ns.length<=sizeLine) (hr:aM k AL)
  (F:∀base:Heap,K.In base->base.Ns J2 mg->bG P w K mg base CX k fa fd [x] sp) (GH:∀(s:Shared) (u:Value),AO s fd #[[u],[]] [(x,u)])
  (qO:∀H:Hp,Only H->eG K H a (ns.map V.int)->sp [.ref a] H (λv _=>v=.bl true) λ_ _ _=>False)
  (TR:∀H e s',CX [] H s₁ (λ_ _ _=>False) e s'->False) :
  rj (model P w) AL (.call (.ref fa) #[[.ref a],[]]) (λr s'=>r=.ok (.ret (.bool true))/\OldK s₁.heap s'.heap/\s'.os=s₁.os/\xu s'.gens) s₁:=by
 have rv:=Ri hi;have Ss:=hi.length;have core:∀H:Hp,Only H->eG K H a (ns.map V.int)->fR P w H s₁.heap->(∀b,H b≠none->b=a)->(H a≠none->K.lookup a=none) ->
   rj (model P w) AL (.call (.ref fa) #[[.ref a],[]]) (λr s'=>r=.ok (.ret (.bool true))/\OldK s₁.heap s'.heap/\s'.os=s₁.os/\xu s'.gens) s₁:=by
  intro H hO hS az hA hK;have pS:∀{b:Addr} {o:Obj},s₁.heap.get? b=some o->H b=none->(kU s₁.heap H).get? b=some o:=λe n=>vq1 e n
  have FE:∀{b:Addr} {o:Obj} {es:Array C61} {ep:Nat},s₁.heap.get? b=some o->o.data=.dict es ep->H b=none:=λ{b o es ep} e d=>by
   cases q:H b with
   | none=>rfl
   | some u =>
    have e':b=a:=hA b (by rw[q];simp);subst e';rw[ha] at e;cases e;have d':UT vs.toArray _=Data.dict es ep:=d;cases d'
  have Lo:∀{b:Addr} {m:Str->Option Value},s₁.heap.Ns b m->(kU s₁.heap H).Ns b m:=λ{b m} ⟨o,es,ep,e,d,r⟩=>#[o,es,ep,pS e (FE e d),d,r]
  have hKb:K.In (kU s₁.heap H):=λb o e=>pS (KX b o e) (by
   cases q:H b with
   | none=>rfl
   | some u =>
    have e':b=a:=hA b (by rw[q];simp);subst e';rw[hK (by rw[q];simp)] at e;cases e)
  have hM:Mod K mg (kU s₁.heap H):=#[hKb,Lo x6,#[mb,Lo hb,hbb],let ⟨mc,h1,h2⟩:=Tv;#[mc,Lo h1,h2]];have e0:jF P w K mg (kU s₁.heap H) AL [] s₁ H:=#[rfl,hM,λb o e=>wc3 e,C64 (ve4 _ _),trivial,λb hb=>absurd (show b∈([]:List Addr) from hb) (by simp),az,.of_eq hg];refine Mx ((F _ hKb (Lo x6)).run AL [] s₁ H #[[.ref a],[]] [.ref a] [.ref a] _ _ hr e0 (GH s₁ (.ref a)) (.cons rfl .nil) (qO H hO hS)) λr s' h=>?_
  cases r with
  | error e=>exact(TR H e s' h).elim
  | ok fl =>
   cases fl with
   | next=>exact Q3 h
   | brk=>exact Q3 h
   | cont=>exact Q3 h
   | ret u =>
    obtain⟨v,H',os,bare,un,Tj,r',q⟩:=h;have q':v=.bl true:=q;subst q';obtain rfl:u=Y4 true:=r';refine#[rfl,OldK.of_keep λb o e=>?_,os,bare];cases q:H b with
    | none=>exact un.keep b o e q (by intro z;exact absurd (show b∈([]:List Addr) from z) (by simp)) (by simp)
    | some u =>
     rcases hO b with z|⟨ob,xs,z⟩
     ·rw[q] at z;cases z
     ·have z2:=un.dF b ob ⟨_,by intro _ e;cases e⟩ z
      obtain⟨e1,_⟩:=az b _ z;obtain⟨e2,_⟩:=Tj b _ z2;rw[e] at e1;cases e1;exact e2
 cases hk:K.lookup a with
 | some o =>
  have e:=KX a o hk;rw[ha] at e;cases e;refine core (λ_=>none) (λ_=>.inl rfl) (.inr #[_,vs.toArray,_,hk,rfl,rfl,rfl,by rw[E5,Ss];exact hl,by simpa using rv]) (λb u z=>by have z':(none:Option HO)=some u:=z;cases z') (λb z=>absurd rfl z) λz=>absurd rfl z
 | none =>
  refine core (λb=>if b=a then some (.dg { cls:=.type "list",data:=.seq vs.toArray} (.lst (ns.map V.int))) else none) (λb=>?_) (.inl (.inr #[{ cls:=.type "list",data:=.seq vs.toArray},if_pos rfl])) (λb u z=>?_) (λb z=>?_) λ_=>hk
  ·by_cases hb:b=a
   ·exact .inr #[_,_,if_pos hb]
   ·exact .inl (if_neg hb)
  ·by_cases hb:b=a
   ·have z':=(if_pos hb).symm.trans z
    cases z';subst hb;exact#[ha,by rw[B0];exact hl,vs,_,rv,ha]
   ·have z':=(if_neg hb).symm.trans z
    cases z'
  ·by_cases hb:b=a
   ·exact hb
   ·exact absurd (if_neg hb) z
abbrev tX{K:W.Frag}{h:Heap}(_:K.In h):W.Frag:=K
theorem vn{l:W.OpenLaw}{n k:Nat}{q:Program}{loose:List Str}{XP:(Str->Option Value)->Heap->Prop}{YP:World->Heap->Prop}{d:DefRec}{K:Params->W.Frag}{CX:World->uo}{sp:World->Sp}{x:Str}
  (hn:l.most=some n) (pM:n<=sizeLine) (GD:d.params.defaults=[]) (hr:aM k AL)
  (hY:∀(w:World) (h:Heap),YP w h->(K w.params).In h)
  (F:∀(w:World) (mg:Str->Option Value) (fa:Addr) (h:Heap),(K w.params).In h->h.Ns J2 mg->mg d.name=some (.ref fa) ->
   ∃fd:vf,(∀(s:Shared) (u:Value),AO s fd #[[u],[]] [(x,u)]) /\
    ∀base:Heap,(K w.params).In base->base.Ns J2 mg->bG l.prog w (K w.params) mg base (CX w) k fa fd [x] (sp w))
  (qO:∀(w:World) (H:Hp) (a:Addr) (ns:List Int),ns.length<=n->Only H->eG (K w.params) H a (ns.map V.int)->sp w [.ref a] H (λv _=>v=.bl true) λ_ _ _=>False)
  (TR:∀(w:World) (H:Hp) (s:Shared) (e:Value) (s':Shared),CX w [] H s (λ_ _ _=>False) e s'->False) :
  W.WalkO q loose XP YP l.row.toRowW d [] (λf vs=>U' f vs):=by
 refine Att.nB hn GD λw s₀ s₁ mg mb fa o pm cd doc a vs ns G Y ho hd uQ LB zZ hints hlen hg=>?_
 have KX:=hY w _ Y;obtain⟨fd,hb,hF⟩:=F w mg fa _ KX G.T.g LB;exact vp8 KX G.T.g G.T.b G.T.builtins G.T.nolimit hg zZ hints (D6 hlen pM) hr hF hb (λH hO hS=>qO w H a ns hlen hO hS) λH e s'=>TR w H s₁ e s'
end L2
namespace L2
open PySem PySem.Spec PyProof.Rows
def inClass(s:Stmt)(j:Nat):Stmt:=match s with
 | .ClassDef _ _ _ body _ _ _ _ _ _ _=>body.getD j (.Pass #[0,0,0,0])
 | _=>.Pass #[0,0,0,0]
def rB(s:Stmt):Arguments:=match s with
 | .FunctionDef _ a _ _ _ _ _ _ _ _=>a
 | _=>{ posonlyargs:=[],args:=[],vararg:=none,kwonlyargs:=[],kw_defaults:=[],kwarg:=none,defaults:=[]}
def pB(s:Stmt):List Stmt:=match s with
 | .FunctionDef _ _ b _ _ _ _ _ _ _=>b
 | _=>[]
def bA(s:Stmt):Scope:=match s with
 | .FunctionDef _ _ _ _ _ _ sc _ _ _=>sc
 | _=>{ kind:=.function,names:=[],isGenerator:=false,isCoroutine:=false}
abbrev nZ:uo:=λ_ _ _ _ _ _=>False
abbrev E0:XK:=λ_ _ _=>False
theorem pG:Passes nZ X E0:=λ_ _ _ _ _ _ _ h=>h.elim
theorem JT(hr:aM k A):A.units+1<cLine:=C8 (Nat.add_le_add_left (by decide:1<=64) _) hr.units
theorem we4(I:Nat->Shared->Prop)
  (turn:∀n s,I n s->wpAny (model prog w) A (pyNext it) (λr s₁=>match r with
   | none=>R (.ok .next) s₁
   | some v=>wpAny (model prog w) A (MR target it v) (λ_ s₁=>wpAny (model prog w) A (assign target env v) (λ_ s₂ =>
     wpAny (model prog w) A (forIn ifs true λc r=>if r=true then do let ok <- isTrue c env (eval c env);pure (U0 ok) else pure (U0 r)) (λok s₃ =>
      if ok=true then wpAny (model prog w) A (eval elt env) (λx s₄ =>
       wpAny (model prog w) A (call (.builtin "list.append") [acc,x]) (λ_ s₅=>∃m,m<n/\I m s₅) (λ_ _=>False) s₄) (λ_ _=>False) s₃
      else∃m,m<n/\I m s₃) (λ_ _=>False) s₂) (λ_ _=>False) s₁) (λ_ _=>False) s₁) (λ_ _=>False) s)
  (n:Nat) (h:I n s) :
  rj (model prog w) A (.compLoop (.ListComp elt [#[target,iter,ifs,0]] scope pos) 0 it acc env) R s:=by
 refine codeAny_loop rfl I (λn s hI=>?_) n h
 show wpAny _ A ((compTurn (.ListComp elt [#[target,iter,ifs,0]] scope pos) 0 it acc env).onRaise (λx=>do noteFrame x env;theTreesLotGoes x)) _ _ s
 refine wpAny_noted ?_;rw[compTurn_list];refine B5 (MK (B5 (Q7 (turn n s hI) (λr s₁ h₁=>?_) λ_ _ h'=>h'.elim)));cases r with
 | none=>exact C2 h₁
 | some v =>
  refine B5 (Q7 h₁ (λ_ s₂ h₂=>?_) λ_ _ h'=>h'.elim);refine B5 (Q7 h₂ (λ_ s₂ h₂=>B5 (Q7 h₂ (λok s₃ h₃=>?_) λ_ _ h'=>h'.elim)) λ_ _ h'=>h'.elim);cases ok with
  | false=>exact C2 #[rfl,h₃]
  | true =>
   exact B5 (B5 (Q7 h₃ (λx s₄ h₄=>B5 (Q7 h₄ (λ_ s₅ h₅=>C2 (C2 #[rfl,h₅])) λ_ _ h'=>h'.elim)) λ_ _ h'=>h'.elim))
def ik(env:Env):List (Str×F7)->List (Str×Addr)->List (Str×Addr)
 | [],cs=>cs
 | (x,k)::r,cs=>ik env r (if(k == .free)=true then(x,(env.cells.lookup x).getD 0)::cs else cs)
theorem uv6{env:Env}(h:env.cells.lookup x=some c):cellOf env x=pure c:=by
 unfold cellOf;rw[h]
theorem ul2{scope:Scope}{env:Env}(h:∀y∈scope.names,y.2=.free->∃c,env.cells.lookup y.1=some c):closureFor scope env=pure (ik env scope.names []):=by
 have key:∀(l:List (Str×F7)) (cs:List (Str×Addr)),(∀y∈l,y.2=.free->∃c,env.cells.lookup y.1=some c) ->
   (forIn l cs λ(y:Str×F7) r=>if(y.2==F5)=true then do let c <- cellOf env y.1;pure (U0 ((y.1,c)::r)) else pure (U0 r):Sem (List (Str×Addr)))=pure (ik env l cs):=by
  intro l
  induction l with
  | nil=>intro cs _;rfl
  | cons y r ih =>
   intro cs hl;obtain⟨x,k⟩:=y;rw[JL]
   by_cases hk:k=.free
   ·subst hk
    obtain⟨c,hc⟩:=hl (x,.free) D3 rfl;have e:((F5==F5):Bool)=true:=rfl;simp only[e,if_true,uv6 hc,pure_bind];rw[ih _ λz hz=>hl z (C7 _ hz)]
    show _=pure (ik env r (if(F5==F5)=true then _ else _))
    rw[e,if_pos rfl,hc] <;> rfl
   ·have e:(k==F5)=false:=by simpa using hk
    simp only[e,L1,if_false,pure_bind];rw[ih _ λz hz=>hl z (C7 _ hz)]
    show _=pure (ik env r (if(k==F5)=true then _ else _))
    rw[e,if_neg D2]
 have e:closureFor scope env=((forIn scope.names ([]:List (Str×Addr)) λ(y:Str×F7) r=>if(y.2==F5)=true then do let c <- cellOf env y.1;pure (U0 ((y.1,c)::r)) else pure (U0 r):Sem (List (Str×Addr))) >>= λcs=>pure cs):=rfl;rw[e,key scope.names [] h];rfl
theorem ui7{env:Env}:∀{l:List (Str×F7)} {cs:List (Str×Addr)},(∀y∈l,y.2=.free->∃c,env.cells.lookup y.1=some c)->(∀x c,cs.lookup x=some c->env.cells.lookup x=some c) ->
  (ik env l cs).lookup x=some c->env.cells.lookup x=some c
 | [],_,_,h,e=>h x c e
 | (y,k)::r,cs,hl,h,e=>by
  refine ui7 (l:=r) (λz hz=>hl z (C7 _ hz)) (λx c e=>?_) e
  by_cases hk:k=.free
  ·subst hk
   obtain⟨d,hd⟩:=hl (y,.free) D3 rfl;rw[if_pos (show(F5==F5)=true from rfl),F6] at e;cases hx:x==y with
   | true=>rw[hx,hd] at e;cases e;rw[eq_of_beq hx];exact hd
   | false=>rw[hx] at e;exact h x c e
  ·rw[if_neg (by simpa using hk)] at e;exact h x c e
theorem QK:∀{l:List (Str×F7)} {cs:List (Str×Addr)},((∃c,cs.lookup x=some c)\/(x,F5)∈l)->∃c,(ik env l cs).lookup x=some c
 | [],_,h=>by
  rcases h with h|h
  ·exact h
  ·simp at h
 | (y,k)::r,cs,h=>by
  refine QK (l:=r) ?_
  rcases h with⟨c,h⟩|h
  ·left
   by_cases hk:(k==F5)=true
   ·rw[if_pos hk,F6]
    cases hx:x==y with
    | true=>exact#[_,rfl]
    | false=>exact#[c,h]
   ·rw[if_neg hk];exact#[c,h]
  ·rcases E6.mp h with e|h
   ·injection e with e1 e2
    subst e1;subst e2
    left
    rw[if_pos (show(F5==F5)=true from rfl),F6];simp
   ·exact .inr h
def lS(X:Cx)(N':List Str)(scope:Scope)(C:Addr)(s:Shared)(H:Hp)(fp:List Addr):Cx :=
 { X with N:=N',s₀:=s,H₀:=H,env:=UR scope (ik X.env scope.names []) C X.env,outer:=X.stack,ex:=fp,fn:=λ_=>false,pn:=[],xe:=λ_ _=>False}
structure jc(X:Cx)(N':List Str)(ix:List (Option Nat))(scope:Scope):Prop where
 kind:scope.kind=.function
 sg:∀y∈scope.names,y.2≠.cell
 names:∀y∈scope.names,y.2=.local->scope.names.lookup y.1=some .local
 frees:∀y∈scope.names,y.2=.free->X.env.kindOf y.1=some .cell\/X.env.kindOf y.1=some .free
 len:ix.length=N'.length
 at_:∀(i j:Nat) (x:Str),N'[i]?=some x->ix[i]?=some (some j)->X.N[j]?=some x/\scope.names.lookup x=some .free
def inner(ix:List (Option Nat))(σ:St):St:=ix.map λo=>o.bind λj=>(σ[j]?).bind id
def Pz(ix:List (Option Nat))(wi:TI)(g:TG)(tc:TT)(te:TE):TE:=λσ H Q=>wi σ H λJ H1=>∀D,H1 D=none->∃W:Nat->Nat->St->Hp->Prop,(∃m,W 0 m (inner ix σ) (upd H1 D (.lst [])))/\∀i m σi H,W i m σi H ->
 (J.stop i H/\Q (.ref D) H)\/(J.go i H/\∃N:St->Hp->Prop,(∀σ' H',N σ' H'->∃m',m'<m/\W (i+1) m' σ' H')/\∀x H',J.nQ i H x H'->g x σi H' λσ2 H2=>tc σ2 H2 λb H3 =>
  if b=true then te σ2 H3 λv H4=>∃ys,H4 D=some (.lst ys)/\ys.length<sizeLine/\N σ2 (upd H4 D (.lst (ys++[v]))) else N σ2 H3)
theorem u73{env:Env}{x:Str}:∀{names:List (Str×F7)},names.lookup x=some .free->(env.kindOf x=some .cell\/env.kindOf x=some .free) ->
  (names.map λ(n,k)=>if(k==F5&&env.scope.kind == .function&&env.kindOf n==some .cell) then(n,P6) else(n,k)).lookup x=some .cell \/
  (names.map λ(n,k)=>if(k==F5&&env.scope.kind == .function&&env.kindOf n==some .cell) then(n,P6) else(n,k)).lookup x=some .free
 | [],h,_=>by simp at h
 | (n,k)::r,h,ho=>by
  cases hx:x==n with
  | true =>
   simp only[F6,hx] at h;cases h
   by_cases hc:(F5==F5&&env.scope.kind == .function&&env.kindOf n==some .cell)=true
   ·left
    show J4 x ((if(F5==F5&&env.scope.kind == .function&&env.kindOf n==some .cell)=true then(n,P6) else(n,.free))::_)=_
    rw[if_pos hc];simp only[F6,hx]
   ·right
    show J4 x ((if(F5==F5&&env.scope.kind == .function&&env.kindOf n==some .cell)=true then(n,P6) else(n,.free))::_)=_
    rw[if_neg hc];simp only[F6,hx]
  | false =>
   simp only[F6,hx] at h;have ih:=u73 (env:=env) h ho
   show J4 x ((if(k==F5&&env.scope.kind == .function&&env.kindOf n==some .cell)=true then(n,P6) else(n,k))::_)=_ \/
    J4 x ((if(k==F5&&env.scope.kind == .function&&env.kindOf n==some .cell)=true then(n,P6) else(n,k))::_)=_
   by_cases hc:(k==F5&&env.scope.kind == .function&&env.kindOf n==some .cell)=true
   ·rw[if_pos hc];simp only[F6,hx];exact ih
   ·rw[if_neg hc];simp only[F6,hx];exact ih
theorem u74{env:Env}{x:Str}:∀{names:List (Str×F7)},(∀y∈names,y.2≠.cell) ->
  ((names.map λ(n,k)=>if(k==F5&&env.scope.kind == .function&&env.kindOf n==some .cell) then(n,P6) else(n,k)).lookup x=some .cell \/
  (names.map λ(n,k)=>if(k==F5&&env.scope.kind == .function&&env.kindOf n==some .cell) then(n,P6) else(n,k)).lookup x=some .free)->(x,F5)∈names
 | [],_,h=>by simp at h
 | (n,k)::r,hn,h=>by
  have h:J4 x ((if(k==F5&&env.scope.kind == .function&&env.kindOf n==some .cell)=true then(n,P6) else(n,k))::(r.map λ(n,k)=>if(k==F5&&env.scope.kind == .function&&env.kindOf n==some .cell) then(n,P6) else(n,k)))=some .cell \/
   J4 x ((if(k==F5&&env.scope.kind == .function&&env.kindOf n==some .cell)=true then(n,P6) else(n,k))::(r.map λ(n,k)=>if(k==F5&&env.scope.kind == .function&&env.kindOf n==some .cell) then(n,P6) else(n,k)))=some .free:=h
  cases hx:x==n with
  | true =>
   have e:x=n:=eq_of_beq hx;subst e
   by_cases hc:(k==F5&&env.scope.kind == .function&&env.kindOf x==some .cell)=true
   ·have hk:k=.free:=by
     simp only[N8,beq_iff_eq] at hc;exact hc.1.1
    subst hk;exact D3
   ·rw[if_neg hc] at h
    simp only[F6,hx,D07] at h
    rcases h with h|h
    ·exact absurd h (hn (x,k) D3)
    ·subst h;exact D3
  | false =>
   refine C7 _ (u74 (env:=env) (λy hy=>hn y (C7 _ hy)) ?_)
   by_cases hc:(k==F5&&env.scope.kind == .function&&env.kindOf n==some .cell)=true
   ·rw[if_pos hc] at h;simp only[F6,hx] at h;exact h
   ·rw[if_neg hc] at h;simp only[F6,hx] at h;exact h
def lj(X:Cx)(ifs:List Expr)(t:TT):Prop :=
 ∀(pins:List (Addr×Obj)) (s:Shared) (σ:St) (H:Hp) (Q:Bool->Hp->Prop),Inv X pins σ H s->t σ H Q ->
  wpAny (model X.prog X.w) X.A (forIn ifs true λc r=>if r=true then do let ok <- isTrue c X.env (eval c X.env);pure (U0 ok) else pure (U0 r)) (TP X pins σ Q) X.xe s
def Rx:TT:=λ_ H Q=>Q true H
section
variable{X:Cx}{pins:List (Addr×Obj)}{σ:St}{H:Hp}{s:Shared}
theorem vl6:lj X [] Rx:=λ_ _ _ H _ I h=>wpAny_tests_nil #[H,I,h]
theorem vl5(h:PT X c t):lj X [c] t:=λpins s σ H Q I hw=>wpAny_tests_one (h pins s σ H Q I hw)
theorem Inv.jh{h1:Heap}(I:Inv X pins σ H s)(B:jc X N' ix scope)(f:∀b∈fp,fS X pins H b)(dQ:∀b∈fp,b<s.heap.objs.size)
  (ns:h1.Ns s.heap.objs.size (λ_=>none)) (old:∀b o,s.heap.get? b=some o->h1.get? b=some o) :
  Inv (lS X N' scope s.heap.objs.size s H fp) [] (inner ix σ) H { s with heap:=h1,toks:=tk}:=by
 have gn:∀y∈scope.names,y.2=.free->∃c,X.env.cells.lookup y.1=some c:=λy hy e=>I.ok.has y.1 (B.frees y hy e)
 have hc:∀x c,(ik X.env scope.names []).lookup x=some c->X.env.cells.lookup x=some c:=λx c e=>ui7 gn (λ_ _ z=>by cases z) e
 have BE:∀b∈fp,b∉qU X.stack:=λb hb z=>by
  rcases E6.mp (I.ot b z) with e|e
  ·exact(f b hb).2.1 e
  ·exact(f b hb).2.2.1 e
 refine⟨⟨I.ok.mod,B.kind,I.ok.glob,I.ok.blt,B8 _,λx y c h1 h2=>I.ok.inj x y c (hc x c h1) (hc y c h2),λx hx=>?_,λx c h=>(by cases h),I.ok.hd,I.ok.frames,.inl rfl,λb hb=>#[I0 (dQ b hb),λx c e=>(f b hb).2.2.2.2.1 x c (hc x c e)],
   I.bs,D6 I.ok.sN I.sz,λb o e hb=>?_,BE,I.stack,I.pC⟩,rfl,I.bare,Un.kept old,⟨_,ns,λi x v h1 h2 h3=>?_⟩,λx c e=>?_,I.az.fresh (B8 _),λx c e=>I.fo x c (hc x c e),λp hp=>absurd (show p∈([]:List (Addr×Obj)) from hp) (by simp),I.az.kept old,?_⟩
 ·exact QK (.inr (u74 B.sg hx))
 ·rcases(f b hb).2.2.2.1 with z|z
  ·exact I.ok.sf b o e z
  ·exact absurd (C9 (D5 e) (D6 I.ok.sN z)) (Y1 _)
 ·have h2:(ix.map λo=>o.bind λj=>(σ[j]?).bind id)[i]?=some (some v):=h2
  rw[F0] at h2;cases ho:ix[i]? with
  | none=>rw[ho] at h2;cases h2
  | some o =>
   rw[ho] at h2;cases o with
   | none=>cases h2
   | some j =>
    have h2:(σ[j]?).bind id=some v:=E7 h2;have h2:σ[j]?=some (some v):=by
     cases hs:σ[j]? with
     | none=>rw[hs] at h2;cases h2
     | some w=>rw[hs] at h2;cases h2;rfl
    obtain⟨hN,hf⟩:=B.at_ i j x h1 ho
    have hk:=B.frees (x,.free) (Q8 hf) rfl;obtain⟨m,hn,hl⟩:=I.loc;obtain⟨u,r,lk⟩:=hl j x v hN h2 (hk.elim (λz=>.inr (.inl z)) λz=>.inr (.inr z));refine#[u,r,.inr ?_]
    rcases lk with⟨z,_⟩|⟨_,c,e,z⟩
    ·rcases hk with hk|hk
     ·exact absurd (hk.symm.trans z) ∅
     ·exact absurd (hk.symm.trans z) ∅
    ·obtain⟨c',e'⟩:=QK (env:=X.env) (cs:=[]) (.inr (Q8 hf))
     have ec:c'=c:=E7 ((hc x c' e').symm.trans e);subst ec;refine#[u73 hf hk,c',e',?_];obtain⟨o,ho,hd⟩:=z;exact#[o,old _ _ ho,hd]
 ·obtain⟨v,o,ho,hd⟩:=I.cell x c (hc x c e)
  exact#[v,o,old _ _ ho,hd]
 ·show(inner ix σ).length=N'.length
  unfold inner;rw[B0];exact B.len
theorem YT{elt tg iter:Expr}{ifs:List Expr}{scope:Scope}{pos:Pos}{N':List Str}{ix:List (Option Nat)}{g:TG}{tc:TT}{te:TE}{J:It}{fp:List Addr}{it:Addr}{tn:Nat->Heap->Prop}(B:jc X N' ix scope)
  (hg:∀C s H fp,PG (lS X N' scope C s H fp) tg g) (hi:∀C s H fp,lj (lS X N' scope C s H fp) ifs tc) (he:∀C s H fp,PE (lS X N' scope C s H fp) elt te) (hc:X.calm=true)
  (I:Inv X pins σ H s) (T:Turn X.prog X.w X.K tg J fp it tn) (st:tn 0 s.heap) (f:∀b∈fp,fS X pins H b) {Q:VK} {E:Value->Shared->Prop}
  (w:∃W:Nat->Nat->St->Hp->Prop,(∃m,W 0 m (inner ix σ) (upd H s.heap.objs.size (.lst [])))/\∀i m σi H,W i m σi H ->
   (J.stop i H/\Q (.ref s.heap.objs.size) H)\/(J.go i H/\∃N:St->Hp->Prop,(∀σ' H',N σ' H'->∃m',m'<m/\W (i+1) m' σ' H')/\∀x H',J.nQ i H x H'->g x σi H' λσ2 H2=>tc σ2 H2 λb H3 =>
    if b=true then te σ2 H3 λv H4=>∃ys,H4 s.heap.objs.size=some (.lst ys)/\ys.length<sizeLine/\N σ2 (upd H4 s.heap.objs.size (.lst (ys++[v]))) else N σ2 H3))
  {RR:Value->Addr->Result->Shared->Prop} (hRR:∀C H' s' m,Inv X pins σ H' s'->fS X pins H' C->s'.heap.Ns C m->Q (.ref s.heap.objs.size) H'->RR (.ref s.heap.objs.size) C (.ok .next) s') :
  wpAny (model X.prog X.w) X.A (newList []) (λacc s₃=>wpAny (model X.prog X.w) X.A (newFunctionEnv scope X.env.globals (ik X.env scope.names []) [] X.env.qual none .none (some X.env)) (λHe s₄ =>
   rj (model X.prog X.w) X.A (.compStart (.ListComp elt [#[tg,iter,ifs,0]] scope pos) 0 (.ref it) acc { He with scope:=relabel scope X.env}) (RR acc He.locals) s₄) E s₃) E s:=by
 obtain⟨W,⟨m0,w0⟩,turn⟩:=w;have uV:∀b∈fp,b<s.heap.objs.size:=λb hb=>by
  obtain⟨o,ho,_⟩:=T.obj 0 _ st b hb;exact D5 ho
 have I3:Inv X pins σ (upd H s.heap.objs.size (.lst [])) { s with heap:=s.heap.push { cls:=.type "list",data:=.seq ([]:List Value).toArray},toks:=s.toks}:=I.zH .nil (J8 _)
 have rL:∀b∈fp,(upd H s.heap.objs.size (.lst [])) b=none:=λb hb=>by rw[cq (I0 (uV b hb))];exact(f b hb).1
 have f3:∀b∈fp,fS X pins (upd H s.heap.objs.size (.lst [])) b:=λb hb=>#[rL b hb,(f b hb).2]
 refine T7 (wpAny_newFunctionEnv B.sg (by intro y hy;simp at hy) (λh₁ x6₁ zT₁=>?_) B.kind);dsimp only at x6₁ zT₁⊢;generalize hH3:s.heap.push { cls:=.type "list",data:=.seq ([]:List Value).toArray}=h3 at x6₁ zT₁ I3⊢;obtain⟨s3,e3⟩:∃s3:Shared,s3={ s with heap:=h3}:=#[_,rfl]
 obtain rfl:h3=s3.heap:=by rw[e3]
 have I3:Inv X pins σ (upd H s.heap.objs.size (.lst [])) s3:=by
  have e:s3={ s with heap:=s3.heap,toks:=s.toks}:=e3
  rw[e];exact I3
 have eT:s3.toks=s.toks:=by rw[e3]
 have eS:({ s with heap:=h₁,toks:=s.toks+([]:List (Str×Value)).length}:Shared)={ s3 with heap:=h₁,toks:=s3.toks+([]:List (Str×Value)).length}:=by rw[e3]
 rw[eS];have hz3:s3.heap.objs.size=s.heap.objs.size+1:=by rw[<- hH3];exact N7 _ _
 have old:∀b o,s3.heap.get? b=some o->h₁.get? b=some o:=λb o e=>zT₁.extBut b o (I0 (D5 e)) (B6 _ e)
 have Lc:tn 0 s3.heap:=T.keep _ _ _ st λb hb o e=>by rw[<- hH3];exact B6 _ e
 have st4:tn 0 h₁:=T.keep _ _ _ Lc λb _ o e=>old b o e
 have I4:=I3.jh (tk:=s3.toks+([]:List (Str×Value)).length) B f3 (λb hb=>C9 (uV b hb) (by rw[hz3];exact X4 _)) (show h₁.Ns s3.heap.objs.size (λ_=>none) from x6₁) old;generalize LI:lS X N' scope s3.heap.objs.size s3 (upd H s.heap.objs.size (.lst [])) fp=X' at I4;have eX:X'.prog=X.prog/\X'.w=X.w/\X'.K=X.K/\X'.A=X.A/\X'.calm=X.calm/\X'.env=UR scope (ik X.env scope.names []) s3.heap.objs.size X.env/\X'.ex=fp/\X'.outer=X.stack/\X'.s₀=s3/\X'.H₀=upd H s.heap.objs.size (.lst [])/\X'.pn=[]/\X'.xe=(λ_ _=>False):=by
  rw[<- LI];exact#[rfl,rfl,rfl,rfl,rfl,rfl,rfl,rfl,rfl,rfl,rfl,rfl]
 have hg':PG X' tg g:=LI▸hg _ _ _ _;have hi':lj X' ifs tc:=LI▸hi _ _ _ _;have he':PE X' elt te:=LI▸he _ _ _ _;obtain⟨e1,e2,e3,e4,e5,e6,e7,e8,e9,e10,e11,LQ⟩:=eX;have ou:∀{H':Hp},(∀b∈fp,H' b=none)->∀b∈fp,fS X' [] H' b:=λ{H'} hn b hb=>by
  have q:=I4.ok.Uc b (by rw[e7];exact hb);refine#[hn b hb,q.1,?_,.inl (by rw[e7];exact hb),q.2,λp hp=>?_]
  ·exact I4.ok.sG b (by rw[e7];exact hb)
  ·rw[e11] at hp;simp at hp
 have loop:rj (model X.prog X.w) X.A (.compLoop (.ListComp elt [#[tg,iter,ifs,0]] scope pos) 0 (.ref it) (.ref s.heap.objs.size) (UR scope (ik X.env scope.names []) s3.heap.objs.size X.env))
   (RR (.ref s.heap.objs.size) s3.heap.objs.size) { s3 with heap:=h₁,toks:=s3.toks+([]:List (Str×Value)).length}:=by
  refine we4 (λn s'=>∃i σi Hi,Inv X' [] σi Hi s'/\tn i s'.heap/\(∀b∈fp,Hi b=none)/\W i n σi Hi) ?_ m0 #[0,_,_,I4,st4,rL,w0];rintro n s5 ⟨i,σ5,H5,I5,BF,LN,w5⟩
  rcases turn i n σ5 H5 w5 with⟨stop,qn⟩|⟨go,N,hN,step⟩
  ·have d:=T.done X' e1 e2 e3 (by rw[e5];exact hc) i [] s5 σ5 H5 (λ_ _=>False) I5 (ou LN) BF stop
   rw[e4] at d
   (refine a_ d ?_;rintro r s6 ⟨hr,I6⟩)
   subst hr;have u:=I6.base;rw[e7,e9,e10] at u;have u:Un (qU X'.outer) fp (upd H s.heap.objs.size (.lst [])) H5 s3.heap s6.heap:=u;rw[e8] at u;have ok6:=I6.az;rw[e1,e2] at ok6;have I7:Inv X pins σ H5 s6:=I3.Hg (ch:=fp) (by have:=I6.os;rw[e9] at this;exact this) u ok6 I6.bare λb hb=>#[(f b hb).2.2.2.1,(f b hb).2.1,(f b hb).2.2.2.2.1,(f b hb).2.2.2.2.2]
   have gn:=I6.free;obtain⟨m,hm,_⟩:=I6.loc;rw[e6] at gn hm;exact hRR _ H5 s6 m I7 (I3.kY (B8 _) gn) hm qn
  ·have d:=T.item X' e1 e2 e3 (by rw[e5];exact hc) i [] s5 σ5 H5 (λ_ _=>False) I5 (ou LN) BF go
   rw[e4] at d
   (refine a_ d ?_;rintro r s6 ⟨u,hr,h6⟩)
   subst hr
   (refine a_ h6 ?_;rintro _ s7 ⟨x,H7,I7,r7,y7,Rz,fr7⟩)
   have I7':=I7.pinned (ou fr7) (T.obj _ _ Rz);have a:=hg' _ s7 σ5 H7 x u _ I7' r7 (step x H7 y7);rw[e1,e2,e4,e6,LQ] at a
   (refine a_ a ?_;rintro _ s8 ⟨σ8,H8,I8,q8⟩)
   have t:=hi' _ s8 σ8 H8 _ I8 q8;rw[e1,e2,e4,e6,LQ] at t;have again:∀{σ9:St} {H9:Hp} {s9:Shared},Inv X' ([]++De fp s7.heap) σ9 H9 s9->N σ9 H9->∃m,m<n/\∃i σi Hi,Inv X' [] σi Hi s9/\tn i s9.heap/\(∀b∈fp,Hi b=none)/\W i m σi Hi:=λ{σ9 H9 s9} I9 n9=>by
    obtain⟨m',hm,w9⟩:=hN σ9 H9 n9;refine#[m',hm,i+1,σ9,H9,I9.f_,T.keep _ _ _ Rz λb hb o e=>(I9.pin (b,o) (L8 _ (L8 _ (K' hb e)))).1,λb hb=>?_,w9];obtain⟨o,e,d⟩:=T.obj _ _ Rz b hb;exact(I9.pin (b,o) (L8 _ (L8 _ (K' hb e)))).2.1
   (refine a_ t ?_;rintro ok s9 ⟨H9,I9,q9⟩)
   cases ok with
   | false =>
    rw[if_neg D2] at q9⊢;exact again I9 q9
   | true =>
    rw[if_pos rfl] at q9⊢;have v:=he' _ s9 σ8 H9 _ I9 q9;rw[e1,e2,e4,e6,LQ] at v
    (refine a_ v ?_;rintro y s10 ⟨z,H10,I10,r10,ys,hD,hz,q10⟩)
    have ap:=ur3 _ s10 σ8 H10 (.ref s.heap.objs.size) [z] (.ref s.heap.objs.size) [y] (λ_ H'=>N σ8 H') I10 rfl (.cons r10 .nil) #[_,ys,z,rfl,rfl,hD,hz,q10];rw[e1,e2,e4,LQ] at ap
    (refine a_ ap ?_;rintro _ s11 ⟨_,H11,I11,_,q11⟩;exact again I11 q11)
 exact codeAny_compStart_list loop (T.self _ _ _ _ _ st4 loop)
variable{elt tg iter:Expr}{ifs:List Expr}{scope:Scope}{pos:Pos}{N':List Str}{ix:List (Option Nat)}{wi:TI}{g:TG}{tc:TT}{te:TE}
theorem wb4(B:jc X N' ix scope)(hc:X.calm=true)(hw:PI X tg iter wi)
  (hg:∀C s H fp,PG (lS X N' scope C s H fp) tg g) (hi:∀C s H fp,lj (lS X N' scope C s H fp) ifs tc) (he:∀C s H fp,PE (lS X N' scope C s H fp) elt te)
  (hs:∀x,V7 iter X.env x=pure x:=by intro _;rfl) :
  PE X (.ListComp elt [#[tg,iter,ifs,0]] scope pos) (Pz ix wi g tc te):=by
 intro pins s σ H Q I h;rw[eval_ListComp];refine wpAny_comprehension_free (use:=none) rfl hs (ul2 λy hy e=>I.ok.has y.1 (B.frees y hy e)) B.kind B.names ?_;refine a_ (hw pins s σ H _ I h) λv s1 h1=>a_ h1 λLx s2 h2=>?_
 obtain⟨it,fp,tn,J,H2,e,I2,T,lH,f2,q2⟩:=h2;subst e;refine YT B hg hi he hc I2 T lH f2 (Q:=Q) (q2 _ I2.fresh) λC H' s' m I' fC hm q=>?_
 refine#[m,hm,λh' sb=>#[.ref s2.heap.objs.size,H',?_,rfl,q]];exact I'.turned (t':=s'.toks) (it:=C) (λb o hb e=>sb.extBut b o hb e) fC.1 fC.2.1 fC.2.2.2.1 fC.2.2.2.2.1 fC.2.2.2.2.2
def x87(i:Nat)(t:TE):TS:=λD σ H=>t σ H λx H1=>D.nx (σ.set i (some x)) H1
theorem wa0{py qD:Pos}(B:jc X N' ix scope)(hc:X.calm=true)(hN:X.N.Nodup)(hy:X.N[i]?=some y)(hl:Loc X.env.scope y)(hw:PI X tg iter wi)
  (hg:∀C s H fp,PG (lS X N' scope C s H fp) tg g) (hi:∀C s H fp,lj (lS X N' scope C s H fp) ifs tc) (he:∀C s H fp,PE (lS X N' scope C s H fp) elt te)
  (SX:V2 (.ListComp elt [#[tg,iter,ifs,0]] scope pos) (some (.Name y py)) qD.line X.env=pure true:=by rfl)
  (hf:X.fn y=true\/X.env.scope.names.lookup y=some .local:=by first|exact .inl rfl|exact .inr rfl|assumption)
  (hs:∀x,V7 iter X.env x=pure x:=by intro _;rfl) :
  PS X (.Assign [.Name y py] (.ListComp elt [#[tg,iter,ifs,0]] scope pos) qD) (x87 i (Pz ix wi g tc te)):=by
 intro pins s σ H D I h;rw[exec_Assign_Name_used _ _ _ _ SX];refine B5 (MK (B5 ?_))
 show wpAny _ X.A (do let _ <- comprehension (.ListComp elt [⟨tg,iter,ifs,0⟩] scope pos) scope X.env _ (newList []) false (eval iter X.env) (some (assign (.Name y py) X.env))) _ _ s
 refine B5 (Q7 (wpAny_comprehension_free (use:=some (assign (.Name y py) X.env)) (Q:=λ_ s'=>SP X pins D .next s') rfl hs (ul2 λy hy e=>I.ok.has y.1 (B.frees y hy e)) B.kind B.names
  (a_ (hw pins s σ H _ I h) λv s1 h1=>a_ h1 λLx s2 h2=>?_)) (λ_ s' hq=>C2 (C2 hq)) λ_ _ e=>e)
 obtain⟨it,fp,tn,J,H2,e,I2,T,lH,f2,q2⟩:=h2;subst e;refine YT B hg hi he hc I2 T lH f2 (Q:=λx H1=>D.nx (σ.set i (some x)) H1) (q2 _ I2.fresh) λC H' s' m I' fC hm q=>?_
 show wpAny _ _ (assign (.Name y py) X.env (.ref s2.heap.objs.size)) _ _ _
 (refine wpAny_assign_Name (uq3 I' hN hy hl (v:=.ref s2.heap.objs.size) rfl (?_) hf);rintro D_ I'' ⟨a,Gd,ha⟩)
 have hCa:C≠a:=by
  rcases ha with z|z
  ·rw[z];exact fC.2.1
  ·intro e;exact fC.2.2.2.2.1 _ _ z e.symm
 refine#[m,hm.sameBut Gd hCa,λh' sb=>#[_,H',?_,q]];exact I''.turned (t':=D_.toks) (it:=C) (λb o hb e=>sb.extBut b o hb e) fC.1 fC.2.1 fC.2.2.2.1 fC.2.2.2.2.1 fC.2.2.2.2.2
end
section
variable{X:Cx}{pos:Pos}
def T_(K:W.Frag)(n:Nat)(t:yk):TG:=λv σ H Q=>∃a xs,v=.ref a/\eG K H a xs/\xs.length=n/\t xs σ H Q
theorem wa9(hc:X.calm=true)(h:yl X es t)
  (hn:(R5 es X.env).length=n:=by rfl) (oW:(R5 es X.env).findIdx? (·.1)=none:=by rfl):PG X (.Tuple es k pos) (T_ X.K n t):=by
 intro pins s σ H v u Q I r hw;obtain⟨a,xs,e1,hq,hl,hw⟩:=hw;subst e1;cases r;obtain⟨its,rv,ht,hz⟩:=I.list hq;rw[C42];refine B5 (MK ?_);unfold unpack;have hsz:(R5 es X.env).length=its.toArray.size:=by simp[hn,<- hl,rv.length]
 rw[hsz,oW];refine B5 (M8 (W.kun_itemsOf (I.ok.hd hc) ht.isList λh' hx=>?_));have I1:Inv X pins σ H { s with heap:=h'}:=I.kept (t':=s.toks) λb o e=>hx b o (I0 (D5 e)) e
 exact h pins _ σ H xs _ Q I1 (by simpa using rv) hw
theorem x98(h:PG X tg t)(h':PG X tg t'):PG X tg (λv σ H Q=>t v σ H Q\/t' v σ H Q):=by
 intro pins s σ H v u Q I r q
 rcases q with q|q
 ·exact h pins s σ H v u Q I r q
 ·exact h' pins s σ H v u Q I r q
def SN(K:W.Frag)(tl:TE):TI:=λσ H R=>tl σ H λx H1=>∃a,x=.ref a/\(((∃xs,eG K H1 a xs)/\R (UH K a) H1)\/((∃xs,dS K H1 a xs)/\R (UG K a) H1))
theorem wo3(hl:PE X l tl):PI X tg l (SN X.K tl):=by
 intro pins s σ H R I h
 (refine a_ (hl pins s σ H _ I h) ?_;rintro v s1 ⟨x,H1,I1,r1,q1⟩)
 obtain⟨a,e,⟨⟨xs,hq⟩,q⟩|⟨⟨xs,hq⟩,q⟩⟩:=q1
 ·subst e
  cases r1;obtain⟨its,rv,p,hz⟩:=I1.list hq;refine T8 p.isList ?_;refine#[s1.heap.objs.size,[s1.heap.objs.size],_,_,H1,rfl,I1.kept (t':=s1.toks) λb o e=>B6 _ e,v68 a _,#[_,D4 _ rfl,rfl,rfl],λb hb=>?_,q];have e:b=s1.heap.objs.size:=by simpa using hb
  subst e;exact I1.kY (B8 _) (I1.az.fresh (B8 _))
 ·subst e
  cases r1;obtain⟨its,rv,p,hz⟩:=I1.tuple hq;refine X9 (show s1.heap.IsTuple a its.toArray from p) ?_;refine#[s1.heap.objs.size,[s1.heap.objs.size],_,_,H1,rfl,I1.kept (t':=s1.toks) λb o e=>B6 _ e,v18 a _,#[_,D4 _ rfl,rfl,rfl],λb hb=>?_,q];have e:b=s1.heap.objs.size:=by simpa using hb
  subst e;exact I1.kY (B8 _) (I1.az.fresh (B8 _))
theorem uj4:∀{bs:List Bool} {us:List Value},Vals (bs.map V.bl) us->us=bs.map Y4
 | [],_,.nil=>rfl
 | b::bs,_,.cons r t=>by cases r;rw[uj4 t];rfl
theorem vr7(hc:X.calm=true):bK X (.builtin "all") (λxs H Q=>∃(p:Addr) (bs:List Bool),xs=[.ref p]/\eG X.K H p (bs.map V.bl)/\Q (.bl (bs.all id)) H):=by
 intro pins s σ H xs us Q I r h;obtain⟨p,bs,rfl,hq,q⟩:=h;obtain⟨u,rfl,rx⟩:=vals1 r;cases rx;obtain⟨its,r',pl,hz⟩:=I.list hq;have e:=uj4 r';subst e;have hl:=pl.isList;have dQ:p<s.heap.objs.size:=by obtain⟨_,e,_⟩:=hl;exact D5 e
 refine call_all_walk (T8 hl ?_);refine#[s.heap.objs.size,[s.heap.objs.size,p],[s.heap.objs.size],(bs.map Y4).toArray.size,_,_,λi=>(bs[i]?).getD true,rfl,Walks.list (A:=X.A.in1) (I.ok.hd hc) _ p (I0 dQ) (bs.map Y4).toArray,
  #[#[_,D4 _ rfl,rfl,rfl],hl.push _],λi v s' Q' E' hP hQ=>?_,λh' tk hk=>?_]
 ·have hP:(bs.map Y4)[i]?=some v:=by simpa using hP
  rw[F0] at hP;cases hb:bs[i]? with
  | none=>rw[hb] at hP;cases hP
  | some b =>
   rw[hb] at hP;cases hP;simp only[hb,B95] at hQ;exact T6 hQ
 ·have e:((D1 (bs.map Y4).toArray.size).all λi=>(bs[i]?).getD true)=bs.all id:=by
   rw[E5,B0,T9,M9,M9]
   constructor
   ·intro h b hb
    obtain⟨i,hi,e⟩:=Wc.mp hb;have:=h i (K0.mpr hi);rw[B7 hi,e] at this;exact this
   ·intro h i hi
    have hi:=K0.mp hi;rw[B7 hi];exact h _ (N0 hi)
  rw[e];refine#[.bl _,H,?_,rfl,q];exact I.kept λb x e=>hk b x (λhm=>by rw[J9.mp hm] at e;exact Y1 _ (D5 e)) (B6 _ e)
theorem vr6(hc:X.calm=true):bK X (.builtin "sum") (λxs H Q=>∃(p:Addr) (ns:List Int),xs=[.ref p]/\eG X.K H p (ns.map V.int)/\Q (.int ns.sum) H):=by
 intro pins s σ H xs us Q I r h;obtain⟨p,ns,rfl,hq,q⟩:=h;obtain⟨u,rfl,rx⟩:=vals1 r;cases rx;obtain⟨its,r',pl,hz⟩:=I.list hq;obtain⟨m,F⟩:=I.fr;have hi:u_ its ns:=intsAre_of r';obtain⟨ys,hx⟩:=hi.allInts.items;have kT:s.heap.IsList p (UQ ys):=hx▸pl.isList;refine sum_intListG (I.ok.hd hc) kT λh' tk t' hk=>?_
 have e1:ns=ys.toList.map (·.1):=by
  rw[<- Vr,<- hx];exact(show numsOf its.toArray.toList=ns from hi.numsOf).symm
 have e2:preSum (numAt ys) ys.size=ns.sum:=by
  rw[preSum_eq,B17 (by simp),e1]
 rw[e2];exact#[.int ns.sum,H,I.kept hk,#[_,rfl],q]
def we5(K:W.Frag)(H:Hp):V->String->Prop
 | .non,n=>n = "NoneType"
 | .bl _,n=>n = "bool"
 | .int _,n=>n = "int"
 | .str _,n=>n = "str"
 | .ref a,n=>(n = "list" /\ ((∃xs,H a=some (.lst xs))\/∃o xs,H a=some (.dg o (.lst xs))))\/(n = "tuple" /\ ∃xs,H a=some (.tup xs))\/(n = "dict" /\ ∃xs,H a=some (.dK xs))
 | _,_=>False
def qC(n T:String):Bool:=n==T||(n == "bool" && T == "int")
theorem xI{K:W.Frag}{n T:String}(hn:n = "NoneType" \/ n = "bool" \/ n = "int" \/ n = "str" \/ n = "list" \/ n = "tuple" \/ n = "dict")(hT:T = "int" \/ T = "str" \/ T = "bool" \/ T = "list" \/ T = "tuple" \/ T = "dict"):W.kitOne K (.type n) (.type T)=some (qC n T):=by
 rcases hn with rfl|rfl|rfl|rfl|rfl|rfl|rfl <;> rcases hT with rfl|rfl|rfl|rfl|rfl|rfl <;> rfl
theorem uv7:bK X (.builtin "isinstance") (λxs H Q=>∃x n T,xs=[x,.ty T]/\we5 X.K H x n/\(T = "int" \/ T = "str" \/ T = "bool" \/ T = "list" \/ T = "tuple" \/ T = "dict")/\Q (.bl (qC n T)) H):=by
 intro pins s σ H xs us Q I r h;obtain⟨x,n,T,rfl,hk,hT,q⟩:=h;obtain⟨u,w,rfl,rx,rt⟩:=vals2 r;cases rt;have fin:∀tk,EP X pins σ Q (.bool (qC n T)) { s with toks:=tk}:=λtk=>#[.bl (qC n T),H,I.tok tk,rfl,q]
 cases x with
 | non=>cases(show n = "NoneType" from hk);exact xQ I rx .non (xI (by simp) hT) fin
 | bl b=>cases(show n = "bool" from hk);exact xQ I rx (.bl b) (xI (by simp) hT) fin
 | int i=>cases(show n = "int" from hk);exact xQ I rx (.int i) (xI (by simp) hT) fin
 | str i=>cases(show n = "str" from hk);exact xQ I rx (.str i) (xI (by simp) hT) fin
 | ref a =>
  rcases(show(n = "list" /\ ((∃xs,H a=some (.lst xs))\/∃o xs,H a=some (.dg o (.lst xs))))\/(n = "tuple" /\ ∃xs,H a=some (.tup xs))\/(n = "dict" /\ ∃xs,H a=some (.dK xs)) from hk) with⟨e,⟨xs,h1⟩|⟨o,xs,h1⟩⟩|⟨e,xs,h1⟩|⟨e,xs,h1⟩
  ·cases e;exact xQ I rx (.lst h1) (xI (by simp) hT) fin
  ·cases e;exact xQ I rx (.dg h1) (xI (by simp) hT) fin
  ·cases e;exact xQ I rx (.tup h1) (xI (by simp) hT) fin
  ·cases e;exact xQ I rx (.dK h1) (xI (by simp) hT) fin
 | _=>exact(show False from hk).elim
end
end L2
namespace L2
open PySem
def XH(a C:Addr)(dx:Option Addr)(h:Heap):Prop:=∃o vs,h.get? a=some o/\o.cls=.ref C/\o.dict=dx/\o.data=.fields vs
def pU(H:Hp):Option Addr->List (Str×V)->Prop
 | none,ys=>ys=[]
 | some d,ys=>∃o,H d=some (.dg o (.xd ys))
end L2
namespace L3
open PySem L2
inductive D where
 | non|bl (b:Bool)|int (i:Int)|str (x:Str)|tup (xs:List D)|ref (a:Addr)|ty (n:String)
inductive DO where
 | lst (xs:List D)|qV (xs:List D)|bN (kvs:List (Key×D))|GZ (kvs:List (List Key×D))|pQ (kvs:List ((List Key×List Key)×D))|ins (C:Addr) (fs:List (Str×D))|exc (C:Addr) (fs:List (Str×D))|o6 (o:Obj) (kvs:List (Key×D))|tb (qn:Str) (bm:Addr)
abbrev Gp:=Addr->Option DO
def aG(G:Gp)(a:Addr)(o:DO):Gp:=λb=>if b=a then some o else G b
theorem aC:aG G a o a=some o:=by unfold aG;rw[if_pos rfl]
theorem av(h:b≠a):aG G a o b=G b:=by unfold aG;rw[if_neg h]
theorem h9:aG (aG G a o) a u=aG G a u:=by
 funext b;unfold aG;split <;> rfl
theorem aU{G:Gp}{a b:Addr}{o:DO}(h:G a=some o)(h':G b=none):a≠b:=by
 intro e;subst e;rw[h] at h';cases h'
theorem GO{G:Gp}{a b:Addr}{o:DO}(h':G b=none)(h:G a=some o):b≠a:=D8 (aU h h')
structure Le(H H':Hp):Prop where
 fg:∀b xs,H b=some (.tup xs)->H' b=some (.tup xs)
 dF:∀b o (u:NK),H b=some (.dg o u.1)->H' b=some (.dg o u.1)
theorem Le.refl(H:Hp):Le H H:=#[λ_ _ h=>h,λ_ _ _ h=>h]
theorem Le.trans{H H1 H2:Hp}(a:Le H H1)(b:Le H1 H2):Le H H2:=#[λc xs h=>b.fg c xs (a.fg c xs h),λc o u h=>b.dF c o u (a.dF c o u h)]
theorem Le.DX(l:Le H H')(h:dS K H a xs):dS K H' a xs:=by
 rcases h with(h|⟨o,h⟩)|h
 ·exact .inl (.inl (l.fg _ _ h))
 ·exact .inl (.inr ⟨o,l.dF _ _ ⟨_,by intro _ e;cases e⟩ h⟩)
 ·exact .inr h
theorem Le.fresh(h:H p=none):Le H (upd H p o) :=
 ⟨λb xs q=>by rw[cq (vE q h)];exact q,λb o u q=>by rw[cq (vE q h)];exact q⟩
mutual
def ae(K:W.Frag)(H:Hp):D->V->Prop
 | .non,v=>v=.non
 | .bl b,v=>v=.bl b
 | .int i,v=>v=.int i
 | .str x,v=>v=.str x
 | .ref a,v=>v=.ref a
 | .ty n,v=>v=.ty n
 | .tup ds,v=>∃a xs,v=.ref a/\dS K H a xs/\af K H ds xs
def af(K:W.Frag)(H:Hp):List D->List V->Prop
 | [],xs=>xs=[]
 | d::ds,xs=>∃x r,xs=x::r/\ae K H d x/\af K H ds r
end
section
variable{K:W.Frag}{H H':Hp}
mutual
theorem ae.le(l:Le H H'):∀{d:D} {v:V},ae K H d v->ae K H' d v
 | .non,_,h=>by simpa[ae] using h
 | .bl _,_,h=>by simpa[ae] using h
 | .int _,_,h=>by simpa[ae] using h
 | .str _,_,h=>by simpa[ae] using h
 | .ref _,_,h=>by simpa[ae] using h
 | .ty _,_,h=>by simpa[ae] using h
 | .tup ds,_,h=>by
  rw[ae] at h⊢;obtain⟨a,xs,e,s,r⟩:=h;exact#[a,xs,e,l.DX s,af.le l r]
theorem af.le(l:Le H H'):∀{ds:List D} {xs:List V},af K H ds xs->af K H' ds xs
 | [],_,h=>by simpa[af] using h
 | d::ds,_,h=>by
  rw[af] at h⊢;obtain⟨x,r,e,h1,h2⟩:=h;exact#[x,r,e,ae.le l h1,af.le l h2]
end
theorem af.nil:af K H [] []:=by rw[af]
theorem af.cons{d:D}{ds:List D}{x:V}{xs:List V}(h:ae K H d x)(t:af K H ds xs):af K H (d::ds) (x::xs):=by
 rw[af];exact#[x,xs,rfl,h,t]
theorem af.aR{xs:List V}(h:af K H [] xs):xs=[]:=by rw[af] at h;exact h
theorem af.aj{d:D}{ds:List D}{xs:List V}(h:af K H (d::ds) xs):∃x r,xs=x::r/\ae K H d x/\af K H ds r:=by rw[af] at h;exact h
theorem af.length:∀{ds:List D} {xs:List V},af K H ds xs->ds.length=xs.length
 | [],_,h=>by rw[h.aR];rfl
 | _::_,_,h=>by obtain⟨x,r,e,_,t⟩:=h.aj;rw[e,C1,C1,t.length]
theorem af.get:∀{ds:List D} {xs:List V} {i:Nat} {d:D},af K H ds xs->ds[i]?=some d->∃x,xs[i]?=some x/\ae K H d x
 | [],_,_,_,_,e=>by simp at e
 | _::_,_,0,_,h,e=>by
  obtain⟨x,r,rfl,h1,t⟩:=h.aj;simp at e;subst e;exact#[x,rfl,h1]
 | _::_,_,i+1,d,h,e=>by
  obtain⟨x,r,rfl,h1,t⟩:=h.aj;obtain⟨y,h2,h3⟩:=af.get (i:=i) t (by simpa using e);exact#[y,by simpa using h2,h3]
theorem af.of:∀{ds:List D} {xs:List V},ds.length=xs.length->(∀(i:Nat) d x,ds[i]?=some d->xs[i]?=some x->ae K H d x)->af K H ds xs
 | [],[],_,_=>.nil
 | [],_::_,h,_=>by simp at h
 | _::_,[],h,_=>by simp at h
 | d::ds,x::xs,h,f=>.cons (f 0 d x rfl rfl) (af.of (by simpa using h) λi d x a b=>f (i+1) d x (by simpa using a) (by simpa using b))
theorem af.append:∀{ds es:List D} {xs ys:List V},af K H ds xs->af K H es ys->af K H (ds++es) (xs++ys)
 | [],_,_,_,h,t=>by rw[h.aR];exact t
 | _::_,_,_,_,h,t=>by
  obtain⟨x,r,rfl,h1,h2⟩:=h.aj;exact .cons h1 (h2.append t)
theorem af.set(q:ae K H d x):∀{ds:List D} {xs:List V} (i:Nat),af K H ds xs->af K H (ds.set i d) (xs.set i x)
 | [],_,_,h=>by rw[h.aR];exact .nil
 | _::_,_,0,h=>by
  obtain⟨x,r,rfl,h1,h2⟩:=h.aj;exact .cons q h2
 | _::_,_,i+1,h=>by
  obtain⟨x,r,rfl,h1,h2⟩:=h.aj;exact .cons h1 (h2.set q i)
theorem af.take:∀{ds:List D} {xs:List V} (n:Nat),af K H ds xs->af K H (ds.take n) (xs.take n)
 | _,_,0,_=>by simpa using af.nil
 | [],_,_+1,h=>by rw[h.aR];exact .nil
 | _::_,_,n+1,h=>by
  obtain⟨x,r,rfl,h1,h2⟩:=h.aj;exact .cons h1 (h2.take n)
theorem af.drop:∀{ds:List D} {xs:List V} (n:Nat),af K H ds xs->af K H (ds.drop n) (xs.drop n)
 | _,_,0,h=>by simpa using h
 | [],_,_+1,h=>by rw[h.aR];exact .nil
 | _::_,_,n+1,h=>by
  obtain⟨x,r,rfl,h1,h2⟩:=h.aj;exact h2.drop n
theorem af.reverse:∀{ds:List D} {xs:List V},af K H ds xs->af K H ds.reverse xs.reverse
 | [],_,h=>by rw[h.aR];exact .nil
 | _::_,_,h=>by
  obtain⟨x,r,rfl,h1,h2⟩:=h.aj;rw[M_,M_];exact h2.reverse.append (.cons h1 .nil)
theorem af.rep(h:af K H ds xs):∀k:Nat,af K H (D0 k ds).flatten (D0 k xs).flatten
 | 0=>.nil
 | k+1=>by rw[K3,K3,M6,M6];exact h.append (h.rep k)
def ay{κ:Type}(K:W.Frag)(H:Hp)(ps:List (κ×D))(qs:List (κ×V)):Prop:=ps.map (·.1)=qs.map (·.1)/\af K H (ps.map (·.2)) (qs.map (·.2))
theorem ay.le{κ:Type}(l:Le H H'){ps:List (κ×D)}{qs:List (κ×V)}(h:ay K H ps qs):ay K H' ps qs:=#[h.1,af.le l h.2]
end
def Ux(H:Hp)(qn:Str)(ps:Array Value):Prop:=TriplesOk ps.toList/\∀pos cv,codeAmong pos ps.toList=some cv->∃(c:Addr) (o:Obj) (vs:Array Value) (t:Tok),cv=.ref c/\o.data=.fields vs/\vs[1]?=some (.str qn t)/\H c=some (.dg o (.ext λh=>h.get? c=some o))
def Vi(H:Hp)(bm:Addr):Prop:=∃o:Obj,H bm=some (.dg o (.ext λh=>h.get? bm=some o))/\o.cls=.type "module" /\ o.dict=some Mn/\o.data=.plain
def px(K:W.Frag)(H:Hp)(a:Addr):DO->Prop
 | .lst ds=>∃xs,H a=some (.lst xs)/\af K H ds xs
 | .qV ds=>∃o xs,H a=some (.dg o (.lst xs))/\af K H ds xs
 | .bN kvs=>∃ys,H a=some (.dK ys)/\ay K H kvs ys
 | .GZ kvs=>∃ys,H a=some (.dT ys)/\ay K H kvs ys
 | .pQ kvs=>∃ys,H a=some (.dN K ys)/\ay K H kvs ys
 | .ins C fs=>∃dx ys,H a=some (.ins C dx ys)/\ay K H fs ys
 | .exc C fs=>∃dx ys,H a=some (.ext (XH a C dx))/\pU H dx ys/\ay K H fs ys
 | .o6 o kvs=>∃ys,H a=some (.dg o (.dK ys))/\ay K H kvs ys
 | .tb qn bm=>∃ps,H a=some (.xR ps)/\Ux H qn ps/\Vi H bm
theorem _root_.L2.pU.le{H H':Hp}(l:Le H H'){dx:Option Addr}{ys:List (Str×V)}(h:pU H dx ys):pU H' dx ys:=by
 cases dx with
 | none=>exact h
 | some d=>obtain⟨o,e⟩:=h;exact#[o,l.dF _ _ #[_,by intro _ e;cases e] e]
def b_(K:W.Frag)(G:Gp)(H:Hp):Prop:=∀a o,G a=some o->px K H a o
section
variable{K:W.Frag}{G:Gp}{H H':Hp}{a p:Addr}{o:DO}
theorem px.some(h:px K H a o):∃u,H a=some u:=by
 cases o with
 | lst ds=>obtain⟨xs,e,_⟩:=h;exact#[_,e]
 | qV ds=>obtain⟨_,xs,e,_⟩:=h;exact#[_,e]
 | bN ds=>obtain⟨xs,e,_⟩:=h;exact#[_,e]
 | GZ ds=>obtain⟨xs,e,_⟩:=h;exact#[_,e]
 | pQ ds=>obtain⟨xs,e,_⟩:=h;exact#[_,e]
 | ins C ds=>obtain⟨_,xs,e,_⟩:=h;exact#[_,e]
 | exc C ds=>obtain⟨_,xs,e,_⟩:=h;exact#[_,e]
 | o6 o ds=>obtain⟨xs,e,_⟩:=h;exact#[_,e]
 | tb qn bm=>obtain⟨_,e,_⟩:=h;exact#[_,e]
theorem px.eN(h:px K H a o)(l:Le H H')(e:H' a=H a):px K H' a o:=by
 cases o with
 | lst ds=>obtain⟨xs,q,r⟩:=h;exact#[xs,e.trans q,af.le l r]
 | qV ds=>obtain⟨o,xs,q,r⟩:=h;exact#[o,xs,e.trans q,af.le l r]
 | bN ds=>obtain⟨xs,q,r⟩:=h;exact#[xs,e.trans q,r.le l]
 | GZ ds=>obtain⟨xs,q,r⟩:=h;exact#[xs,e.trans q,r.le l]
 | pQ ds=>obtain⟨xs,q,r⟩:=h;exact#[xs,e.trans q,r.le l]
 | ins C ds=>obtain⟨dx,xs,q,r⟩:=h;exact#[dx,xs,e.trans q,r.le l]
 | exc C ds=>obtain⟨dx,xs,q,z,r⟩:=h;exact#[dx,xs,e.trans q,z.le l,r.le l]
 | o6 o ds=>obtain⟨xs,q,r⟩:=h;exact#[xs,e.trans q,r.le l]
 | tb qn bm=>obtain⟨ps,q,⟨r1,r2⟩,o,b1,b2⟩:=h;exact#[ps,e.trans q,#[r1,λpos cv z=>let ⟨c,o,vs,t,z1,z2,z3,z4⟩:=r2 pos cv z;#[c,o,vs,t,z1,z2,z3,l.dF _ _ #[_,by intro _ e;cases e] z4]],o,l.dF _ _ #[_,by intro _ e;cases e] b1,b2]
theorem b_.fresh(c:b_ K G H)(h:H p=none):G p=none:=by
 cases e:G p with
 | none=>rfl
 | some o=>obtain⟨u,q⟩:=(c p o e).some;rw[h] at q;cases q
theorem b_.eN(c:b_ K G H)(l:Le H H')(e:∀a o,G a=some o->H' a=H a):b_ K G H':=λa o q=>(c a o q).eN l (e a o q)
theorem b_.side(c:b_ K G H)(h:H p=none):b_ K G (upd H p u):=c.eN (Le.fresh h) λa o q=>by
 obtain⟨u,e⟩:=(c a o q).some;exact cq (vE e h)
theorem b_.put{u:HO}(c:b_ K G H)(l:Le H (upd H p u))(n:px K (upd H p u) p o):b_ K (aG G p o) (upd H p u):=λb q e=>by
 by_cases hb:b=p
 ·subst hb;rw[aC] at e;cases e;exact n
 ·rw[av hb] at e
  exact(c b q e).eN l (cq hb)
theorem Le.lst{xs ys:List V}(h:H p=some (.lst xs)):Le H (upd H p (.lst ys)) :=
  ⟨fun b zs q => by by_cases e : b = p
                    · subst e;rw[h] at q;cases q
                    · rw[cq e];exact q,
   fun b o u q => by by_cases e : b = p
                     · subst e;rw[h] at q;cases q
                     · rw[cq e];exact q⟩
theorem Le.dK(h:H p=some (.dK xs)):Le H (upd H p (.dK ys)) :=
  ⟨fun b zs q => by by_cases e : b = p
                    · subst e;rw[h] at q;cases q
                    · rw[cq e];exact q,
   fun b o u q => by by_cases e : b = p
                     · subst e;rw[h] at q;cases q
                     · rw[cq e];exact q⟩
theorem Le.ins{C dx C' sH:Addr}{xs ys:List (Str×V)}(h:H p=some (.ins C dx xs)):Le H (upd H p (.ins C' sH ys)) :=
  ⟨fun b zs q => by by_cases e : b = p
                    · subst e;rw[h] at q;cases q
                    · rw[cq e];exact q,
   fun b o u q => by by_cases e : b = p
                     · subst e;rw[h] at q;cases q
                     · rw[cq e];exact q⟩
theorem b_.cL(c:b_ K G H)(h:H p=none)(r:af K H ds xs):b_ K (aG G p (.lst ds)) (upd H p (.lst xs)) :=
 c.put (Le.fresh h) #[xs,f',af.le (Le.fresh h) r]
theorem b_.kP(c:b_ K G H)(h:H p=some (.lst ys))(r:af K H ds xs):b_ K (aG G p (.lst ds)) (upd H p (.lst xs)) :=
 c.put (Le.lst h) #[xs,f',af.le (Le.lst h) r]
end
abbrev gD:=List (Option D)
def bL(K:W.Frag)(H:Hp)(σd:gD)(σ:St):Prop:=σd.length=σ.length/\∀(i:Nat) d,σd[i]?=some (some d)->∃v,σ[i]?=some (some v)/\ae K H d v
theorem bL.le{K:W.Frag}{H H':Hp}{σd:gD}{σ:St}(h:bL K H σd σ)(l:Le H H'):bL K H' σd σ :=
 #[h.1,λi d e=>let ⟨v,a,b⟩:=h.2 i d e;#[v,a,ae.le l b]]
theorem bL.set(h:bL K H σd σ)(i:Nat)(r:ae K H d v):bL K H (σd.set i (some d)) (σ.set i (some v)):=by
 refine#[by rw[J5,J5];exact h.1,λj e q=>?_];rw[B86] at q;split at q
 ·rename_i TC;subst TC
  split at q
  ·rename_i hl;cases q
   exact#[v,by rw[Wn (by rw[<- h.1];exact hl)],r]
  ·cases q
 ·rename_i TC
  obtain⟨w,a,b⟩:=h.2 j e q;exact#[w,by rw[Wd TC];exact a,b]
abbrev DK:=D->Gp->Prop
abbrev bw:=gD->Gp->DK->Prop
abbrev iq:=gD->Gp->(Bool->Gp->Prop)->Prop
abbrev dz:=gD->Gp->(List D->Gp->Prop)->Prop
structure j' where
 nx:gD->Gp->Prop
 rt:DK
 bk:gD->Gp->Prop:=λ_ _=>False
 ct:gD->Gp->Prop:=λ_ _=>False
abbrev fz:=j'->gD->Gp->Prop
def i'(K:W.Frag)(H:Hp)(q:DK)(Q:VK):Prop:=∀d G' v H',ae K H' d v->b_ K G' H'->Le H H'->q d G'->Q v H'
def UN(K:W.Frag)(H:Hp)(q:Bool->Gp->Prop)(Q:Bool->Hp->Prop):Prop:=∀b G' H',b_ K G' H'->Le H H'->q b G'->Q b H'
def UO(K:W.Frag)(H:Hp)(q:List D->Gp->Prop)(Q:List V->Hp->Prop):Prop:=∀ds G' vs H',af K H' ds vs->b_ K G' H'->Le H H'->q ds G'->Q vs H'
def ll(K:W.Frag)(H:Hp)(q:gD->Gp->Prop)(Q:St->Hp->Prop):Prop:=∀σd G' σ H',bL K H' σd σ->b_ K G' H'->Le H H'->q σd G'->Q σ H'
theorem i'.le{K:W.Frag}{H H1:Hp}{q:DK}{Q:VK}(f:i' K H q Q)(l:Le H H1):i' K H1 q Q:=λd G v H' r c l'=>f d G v H' r c (l.trans l')
theorem ll.le{K:W.Frag}{H H1:Hp}{q:gD->Gp->Prop}{Q:St->Hp->Prop}(f:ll K H q Q)(l:Le H H1):ll K H1 q Q:=λd G v H' r c l'=>f d G v H' r c (l.trans l')
structure xq(K:W.Frag)(H:Hp)(d:j')(D:Ends):Prop where
 nx:ll K H d.nx D.nx
 rt:i' K H d.rt D.rt
 bk:ll K H d.bk D.bk
 ct:ll K H d.ct D.ct
theorem xq.le{K:W.Frag}{H H1:Hp}{d:j'}{D:Ends}(f:xq K H d D)(l:Le H H1):xq K H1 d D:=#[f.nx.le l,f.rt.le l,f.bk.le l,f.ct.le l]
def aI(K:W.Frag)(t:bw):TE:=λσ H Q=>∃σd G q,bL K H σd σ/\b_ K G H/\t σd G q/\i' K H q Q
def eB(K:W.Frag)(t:iq):TT:=λσ H Q=>∃σd G q,bL K H σd σ/\b_ K G H/\t σd G q/\UN K H q Q
def dE(K:W.Frag)(t:dz):TA:=λσ H Q=>∃σd G q,bL K H σd σ/\b_ K G H/\t σd G q/\UO K H q Q
def dD(K:W.Frag)(t:fz):TS:=λD σ H=>∃σd G d,bL K H σd σ/\b_ K G H/\t d σd G/\xq K H d D
abbrev R3:=D->D->Gp->DK->Prop
def oQ(K:W.Frag)(r:R3):R2:=λx y H Q=>∃d e G q,ae K H d x/\ae K H e y/\b_ K G H/\r d e G q/\i' K H q Q
abbrev U3:=D->Gp->DK->Prop
def v_(K:W.Frag)(r:U3):V->Hp->VK->Prop:=λx H Q=>∃d G q,ae K H d x/\b_ K G H/\r d G q/\i' K H q Q
abbrev C3:=List D->Gp->DK->Prop
def FO(K:W.Frag)(r:C3):List V->Hp->VK->Prop:=λxs H Q=>∃ds G q,af K H ds xs/\b_ K G H/\r ds G q/\i' K H q Q
def ni(i:Nat):bw:=λσ G q=>match σ[i]? with|some (some d)=>q d G|_=>False
def dC(d:D):bw:=λ_ G q=>q d G
def Av(r:R3)(ta tb:bw):bw:=λσ G q=>ta σ G λx G1=>tb σ G1 λy G2=>r x y G2 q
def LR(r:U3)(ta:bw):bw:=λσ G q=>ta σ G λx G1=>r x G1 q
def nk:dz:=λ_ G q=>q [] G
def lQ(ta:bw)(tr:dz):dz:=λσ G q=>ta σ G λx G1=>tr σ G1 λxs G2=>q (x::xs) G2
def sJ(t:dz):bw:=λσ G q=>t σ G λxs G1=>xs.length<=sizeLine/\q (.tup xs) G1
def sL(t:dz):bw:=λσ G q=>t σ G λxs G1=>xs.length<=sizeLine/\∀p,G1 p=none->q (.ref p) (aG G1 p (.lst xs))
def dB(t:bw):iq:=λσ G q=>t σ G λx G1=>match x with|.bl c=>q c G1|_=>False
def Az(t u:iq):iq:=λσ G q=>t σ G λc G1=>if c=true then u σ G1 q else q false G1
def Uk(t u:iq):iq:=λσ G q=>t σ G λc G1=>if c=true then q true G1 else u σ G1 q
def Aw(t:iq):iq:=λσ G q=>t σ G λc G1=>q (!c) G1
def NI(ta tb:bw):bw:=λσ G q=>ta σ G λx G1=>match x with|.bl c=>if c=true then tb σ G1 q else q (.bl false) G1|_=>False
def Au(ta tb:bw):bw:=λσ G q=>ta σ G λx G1=>match x with|.bl c=>if c=true then q (.bl true) G1 else tb σ G1 q|_=>False
def NN(ta:bw):bw:=λσ G q=>ta σ G λx G1=>match x with|.bl c=>q (.bl (!c)) G1|_=>False
def Ul(t:iq)(ta tb:bw):bw:=λσ G q=>t σ G λc G1=>if c=true then ta σ G1 q else tb σ G1 q
section
variable{K:W.Frag}{σ:St}{H:Hp}{Q:VK}
theorem wd1(h:aI K (ni i) σ H Q):DG i σ H Q:=by
 obtain⟨σd,G,q,rs,c,t,f⟩:=h;unfold ni at t;split at t
 ·rename_i d e
  obtain⟨v,hv,r⟩:=rs.2 i d e;exact#[v,hv,f d G v H r c (Le.refl H) t]
 ·exact t.elim
theorem CT(r:∀H,ae K H d v)(h:aI K (dC d) σ H Q):tC v σ H Q:=by
 obtain⟨σd,G,q,rs,c,t,f⟩:=h;exact f d G v H (r H) c (Le.refl H) t
theorem Kh(h:aI K (Av r ta tb) σ H Q):DN (oQ K r) (aI K ta) (aI K tb) σ H Q:=by
 obtain⟨σd,G,q,rs,c,t,f⟩:=h;exact#[σd,G,_,rs,c,t,λd G1 v H1 r1 c1 l1 t1=>#[σd,G1,_,rs.le l1,c1,t1,λe G2 u H2 r2 c2 l2 t2=>#[d,e,G2,q,ae.le l2 r1,r2,c2,t2,f.le (l1.trans l2)]]]
theorem wy4(h:aI K (LR r ta) σ H Q):tUn (v_ K r) (aI K ta) σ H Q:=by
 obtain⟨σd,G,q,rs,c,t,f⟩:=h;exact#[σd,G,_,rs,c,t,λd G1 v H1 r1 c1 l1 t1=>#[d,G1,q,r1,c1,t1,f.le l1]]
theorem Zi{Q:List V->Hp->Prop}(h:dE K nk σ H Q):vJ σ H Q:=by
 obtain⟨σd,G,q,rs,c,t,f⟩:=h;exact f [] G [] H .nil c (Le.refl H) t
theorem vp0{ta:bw}{tr:dz}{Q:List V->Hp->Prop}(h:dE K (lQ ta tr) σ H Q):PB (aI K ta) (dE K tr) σ H Q:=by
 obtain⟨σd,G,q,rs,c,t,f⟩:=h;exact#[σd,G,_,rs,c,t,λd G1 v H1 r1 c1 l1 t1=>#[σd,G1,_,rs.le l1,c1,t1,λds G2 vs H2 r2 c2 l2 t2=>f (d::ds) G2 (v::vs) H2 (.cons (ae.le l2 r1) r2) c2 (l1.trans l2) t2]]
theorem wd3(h:aI K (sJ ta) σ H Q):DH (dE K ta) σ H Q:=by
 obtain⟨σd,G,q,rs,c,t,f⟩:=h;refine#[σd,G,_,rs,c,t,λds G1 vs H1 r1 c1 l1 t1=>#[by rw[<- r1.length];exact t1.1,λp hp=>?_]];refine f (.tup ds) G1 (.ref p) _ ?_ (c1.side hp) (l1.trans (Le.fresh hp)) t1.2;rw[ae];exact#[p,vs,rfl,dS.of f',af.le (Le.fresh hp) r1]
theorem wd8(h:aI K (sL ta) σ H Q):DQ (dE K ta) σ H Q:=by
 obtain⟨σd,G,q,rs,c,t,f⟩:=h;refine#[σd,G,_,rs,c,t,λds G1 vs H1 r1 c1 l1 t1=>#[by rw[<- r1.length];exact t1.1,λp hp=>?_]];exact f (.ref p) _ (.ref p) _ (by rw[ae]) (c1.cL hp r1) (l1.trans (Le.fresh hp)) (t1.2 p (c1.fresh hp))
theorem ae.bU(h:ae K H (.bl c) v):v=.bl c:=by rw[ae] at h;exact h
theorem vp5{t u:iq}{Q:Bool->Hp->Prop}(h:eB K (Az t u) σ H Q):DV (eB K t) (eB K u) σ H Q:=by
 obtain⟨σd,G,q,rs,c,t,f⟩:=h;refine#[σd,G,_,rs,c,t,λb G1 H1 c1 l1 t1=>?_];cases b with
 | true=>rw[if_pos rfl] at t1⊢;exact#[σd,G1,q,rs.le l1,c1,t1,λb G2 H2 c2 l2 t2=>f b G2 H2 c2 (l1.trans l2) t2]
 | false=>rw[if_neg D2] at t1⊢;exact f _ _ _ c1 l1 t1
theorem wd7{t u:iq}{Q:Bool->Hp->Prop}(h:eB K (Uk t u) σ H Q):tOr (eB K t) (eB K u) σ H Q:=by
 obtain⟨σd,G,q,rs,c,t,f⟩:=h;refine#[σd,G,_,rs,c,t,λb G1 H1 c1 l1 t1=>?_];cases b with
 | false=>rw[if_neg D2] at t1⊢;exact#[σd,G1,q,rs.le l1,c1,t1,λb G2 H2 c2 l2 t2=>f b G2 H2 c2 (l1.trans l2) t2]
 | true=>rw[if_pos rfl] at t1⊢;exact f _ _ _ c1 l1 t1
theorem vo2{t:iq}{Q:Bool->Hp->Prop}(h:eB K (Aw t) σ H Q):DP (eB K t) σ H Q:=by
 obtain⟨σd,G,q,rs,c,t,f⟩:=h;exact#[σd,G,_,rs,c,t,λb G1 H1 c1 l1 t1=>f _ _ _ c1 l1 t1]
theorem wy7(h:aI K (Ul t ta tb) σ H Q):tIf (eB K t) (aI K ta) (aI K tb) σ H Q:=by
 obtain⟨σd,G,q,rs,c,t,f⟩:=h;refine#[σd,G,_,rs,c,t,λb G1 H1 c1 l1 t1=>?_];cases b with
 | true=>rw[if_pos rfl] at t1⊢;exact#[σd,G1,q,rs.le l1,c1,t1,f.le l1]
 | false=>rw[if_neg D2] at t1⊢;exact#[σd,G1,q,rs.le l1,c1,t1,f.le l1]
end
def NM:fz:=λE σ G=>E.nx σ G
def Go(k:gD->Gp->Prop)(σ:gD)(G:Gp):Prop:=k σ G
def ij(t u:fz):fz:=λE σ G=>t { E with nx:=Go (u E)} σ G
def AZ(te:bw):fz:=λE σ G=>te σ G λ_ G1=>E.nx σ G1
def nj(te:bw):fz:=λE σ G=>te σ G E.rt
def NP:fz:=λE _ G=>E.rt .non G
def Ax(c:iq)(t u:fz):fz:=λE σ G=>c σ G λb G1=>if b=true then t E σ G1 else u E σ G1
abbrev pq:=D->gD->Gp->(gD->Gp->Prop)->Prop
abbrev pj:=List D->gD->Gp->(gD->Gp->Prop)->Prop
def lowG(K:W.Frag)(t:pq):TG:=λv σ H Q=>∃d σd G q,ae K H d v/\bL K H σd σ/\b_ K G H/\t d σd G q/\ll K H q Q
def JU(K:W.Frag)(t:pj):yk:=λvs σ H Q=>∃ds σd G q,af K H ds vs/\bL K H σd σ/\b_ K G H/\t ds σd G q/\ll K H q Q
def rS(i:Nat):pq:=λd σ G q=>q (σ.set i (some d)) G
def zL:pj:=λds σ G q=>ds=[]/\q σ G
def NU(t:pq)(u:pj):pj:=λds σ G q=>match ds with|d::r=>t d σ G λσ' G'=>u r σ' G' q|[]=>False
abbrev pV:=D->D->D->Gp->(Gp->Prop)->Prop
def Qb(K:W.Frag)(t:pV):xj:=λo i v H Q=>∃d e x G q,ae K H d o/\ae K H e i/\ae K H x v/\b_ K G H/\t d e x G q/\∀G' H',b_ K G' H'->Le H H'->q G'->Q H'
def zK(to ti:bw)(t:pV):pq:=λd σ G q=>to σ G λo G1=>ti σ G1 λi G2=>t o i d G2 λG3=>q σ G3
def i5(te:bw)(g:pq):fz:=λE σ G=>te σ G λx G1=>g x σ G1 E.nx
section
variable{K:W.Frag}{σ:St}{H:Hp}{E:Ends}
theorem vo3(h:dD K NM E σ H):Xc E σ H:=by
 obtain⟨σd,G,d,rs,c,t,f⟩:=h;exact f.nx _ _ _ _ rs c (Le.refl H) t
theorem wd4(h:dD K (ij t u) E σ H):DI (dD K t) (dD K u) E σ H:=by
 obtain⟨σd,G,d,rs,c,t,f⟩:=h;exact#[σd,G,_,rs,c,t,λσd' G' σ' H' RH c' l' t'=>#[σd',G',d,RH,c',t',f.le l'],f.rt,f.bk,f.ct]
theorem vo9(h:dD K (AZ te) E σ H):Xa (aI K te) E σ H:=by
 obtain⟨σd,G,d,rs,c,t,f⟩:=h;exact#[σd,G,_,rs,c,t,λx G1 v H1 r1 c1 l1 t1=>f.nx _ _ _ _ (rs.le l1) c1 l1 t1]
theorem wd5(h:dD K (nj te) E σ H):DJ (aI K te) E σ H:=by
 obtain⟨σd,G,d,rs,c,t,f⟩:=h;exact#[σd,G,_,rs,c,t,f.rt]
theorem vn8(h:dD K NP E σ H):Xf E σ H:=by
 obtain⟨σd,G,d,rs,c,t,f⟩:=h;exact f.rt .non _ .non _ (by rw[ae]) c (Le.refl H) t
theorem wd9(h:dD K (Ax tc t u) E σ H):DR (eB K tc) (dD K t) (dD K u) E σ H:=by
 obtain⟨σd,G,d,rs,c,t,f⟩:=h;refine#[σd,G,_,rs,c,t,λb G1 H1 c1 l1 t1=>?_];cases b with
 | true=>rw[if_pos rfl] at t1⊢;exact#[σd,G1,d,rs.le l1,c1,t1,f.le l1]
 | false=>rw[if_neg D2] at t1⊢;exact#[σd,G1,d,rs.le l1,c1,t1,f.le l1]
theorem vc4(h:lowG K (rS i) v σ H Q):NT i v σ H Q:=by
 obtain⟨d,σd,G,q,r,rs,c,t,f⟩:=h;exact f _ _ _ _ (rs.set i r) c (Le.refl H) t
theorem vo6(h:JU K zL vs σ H Q):GQ vs σ H Q:=by
 obtain⟨ds,σd,G,q,r,rs,c,⟨e,t⟩,f⟩:=h;subst e;exact#[r.aR,f _ _ _ _ rs c (Le.refl H) t]
theorem vc5(h:JU K (NU t u) vs σ H Q):WO (lowG K t) (JU K u) vs σ H Q:=by
 obtain⟨ds,σd,G,q,r,rs,c,t,f⟩:=h;cases ds with
 | nil=>exact t.elim
 | cons d ds =>
  obtain⟨x,xs,rfl,r1,r2⟩:=r.aj;exact#[x,xs,rfl,d,σd,G,_,r1,rs,c,t,λσd' G' σ' H' RH c' l' t'=>#[ds,σd',G',q,af.le l' r2,RH,c',t',f.le l']]
theorem vo5(h:lowG K (zK to ti t) v σ H Q):GP (aI K to) (aI K ti) (Qb K t) v σ H Q:=by
 obtain⟨d,σd,G,q,r,rs,c,t,f⟩:=h;exact#[σd,G,_,rs,c,t,λo G1 vo H1 r1 c1 l1 t1=>#[σd,G1,_,rs.le l1,c1,t1,λi G2 vi H2 r2 c2 l2 t2=>#[o,i,d,G2,_,ae.le l2 r1,r2,ae.le (l1.trans l2) r,c2,t2,λG3 H3 c3 l3 t3 =>
  f _ _ _ _ (rs.le (l1.trans (l2.trans l3))) c3 (l1.trans (l2.trans l3)) t3]]]
theorem we3(h:dD K (i5 te g) E σ H):zr (aI K te) (lowG K g) E σ H:=by
 obtain⟨σd,G,d,rs,c,t,f⟩:=h;exact#[σd,G,_,rs,c,t,λx G1 v H1 r1 c1 l1 t1=>#[x,σd,G1,_,r1,rs.le l1,c1,t1,f.nx.le l1]]
end
def yX(c:iq)(tb:fz)(E:j'):Nat->gD->Gp->Prop
 | 0,_,_=>False
 | n+1,σ,G=>c σ G λb G1=>if b=true then tb { E with nx:=yX c tb E n,ct:=yX c tb E n,bk:=E.nx} σ G1 else E.nx σ G1
def PX(c:iq)(tb:fz):fz:=λE σ G=>∃n,yX c tb E n σ G
theorem vb8(h:dD K (PX c tb) E σ H):Yw (eB K c) (dD K tb) E σ H:=by
 obtain⟨σd,G,d,rs,cc,⟨n,t⟩,f⟩:=h;refine#[λm σ' H'=>∃σd' G',Le H H'/\bL K H' σd' σ'/\b_ K G' H'/\yX c tb d m σd' G',#[n,σd,G,Le.refl H,rs,cc,t],?_];rintro m σ1 H1 ⟨σd1,G1,l1,RG,c1,t1⟩;cases m with
 | zero=>exact t1.elim
 | succ m =>
  refine#[σd1,G1,_,RG,c1,t1,λb G2 H2 c2 l2 t2=>?_];cases b with
  | true =>
   rw[if_pos rfl] at t2⊢;refine#[λσ' H'=>∃σd' G',Le H H'/\bL K H' σd' σ'/\b_ K G' H'/\yX c tb d m σd' G',λσ' H' w=>#[m,W7 m,w],σd1,G2,_,RG.le l2,c2,t2,?_,?_,?_,?_]
   ·exact λσd3 G3 σ3 H3 RF c3 l3 t3=>#[σd3,G3,l1.trans (l2.trans l3),RF,c3,t3]
   ·exact f.rt.le (l1.trans l2)
   ·exact f.nx.le (l1.trans l2)
   ·exact λσd3 G3 σ3 H3 RF c3 l3 t3=>#[σd3,G3,l1.trans (l2.trans l3),RF,c3,t3]
  | false =>
   rw[if_neg D2] at t2⊢;exact f.nx _ _ _ _ (RG.le l2) c2 (l1.trans l2) t2
structure IT where
 items:List D
 ok:Gp->Prop
structure gB(K:W.Frag)(H0:Hp)(it:IT)(J:It):Prop where
 go:∀(i:Nat) G H,Le H0 H->b_ K G H->it.ok G->i<it.items.length->J.go i H
 stop:∀(i:Nat) G H,Le H0 H->b_ K G H->it.ok G->it.items.length<=i->J.stop i H
 nQ:∀(i:Nat) G H x H',Le H0 H->b_ K G H->it.ok G->i<it.items.length->J.nQ i H x H'->b_ K G H'/\Le H H'/\∃d,it.items[i]?=some d/\ae K H' d x
abbrev pW:=gD->Gp->(IT->Gp->Prop)->Prop
def kQ(K:W.Frag)(t:pW):TI:=λσ H R=>∃σd G r,bL K H σd σ/\b_ K G H/\t σd G r/\∀it J G' H',gB K H' it J->b_ K G' H'->Le H H'->r it G'->R J H'
def forL(ok:Gp->Prop)(g:pq)(tb:fz)(E:j'):List D->gD->Gp->Prop
 | [],σ,G=>ok G/\E.nx σ G
 | x::r,σ,G=>ok G/\g x σ G λσ1 G1=>tb { E with nx:=forL ok g tb E r,ct:=forL ok g tb E r,bk:=E.nx} σ1 G1
def sM(wi:pW)(g:pq)(tb:fz):fz:=λE σ G=>wi σ G λit G1=>forL it.ok g tb E it.items σ G1
theorem we0(h:dD K (sM wi g tb) E σ H):DS (kQ K wi) (lowG K g) (dD K tb) E σ H:=by
 obtain⟨σd,G,d,rs,cc,t,f⟩:=h;refine#[σd,G,_,rs,cc,t,λit J G1 H1 ir c1 l1 t1=>?_];refine#[λi m σ' H'=>∃σd' G',Le H1 H'/\bL K H' σd' σ'/\b_ K G' H'/\i+m=it.items.length/\forL it.ok g tb d (it.items.drop i) σd' G',#[it.items.length,σd,G1,Le.refl _,rs.le l1,c1,(),by rw[C21];exact t1],?_];rintro i m σ2 H2 ⟨σd2,G2,l2,r8,c2,e2,t2⟩
 by_cases hi:i<it.items.length
 ·rw[N5 hi] at t2
  obtain⟨vW,t2⟩:=t2;refine .inr #[ir.go i G2 H2 l2 c2 vW hi,λσ' H'=>∃σd' G',Le H1 H'/\bL K H' σd' σ'/\b_ K G' H'/\forL it.ok g tb d (it.items.drop (i+1)) σd' G',?_,?_]
  ·rintro σ' H' ⟨σd',G',a1,a2,a3,a4⟩
   exact#[m-1,(),σd',G',a1,a2,a3,(),a4]
  ·intro x H3 y
   obtain⟨c3,l3,e,he,r3⟩:=ir.nQ i G2 H2 x H3 l2 c2 vW hi y;rw[B7 hi] at he;cases he;refine#[_,σd2,G2,_,r3,r8.le l3,c3,t2,λσd4 G4 σ4 H4 BH c4 l4 t4=>?_];have BN:Le H1 H4:=l2.trans (l3.trans l4);have key:ll K H4 (forL it.ok g tb d (it.items.drop (i+1))) (λσ' H'=>∃σd' G',Le H1 H'/\bL K H' σd' σ'/\b_ K G' H'/\forL it.ok g tb d (it.items.drop (i+1)) σd' G') :=
    λσd5 G5 σ5 H5 rs5 c5 l5 t5=>#[σd5,G5,BN.trans l5,rs5,c5,t5]
   exact#[σd4,G4,_,BH,c4,t4,key,f.rt.le (l1.trans BN),f.nx.le (l1.trans BN),key]
 ·rw[U2 ()] at t2
  exact .inl #[ir.stop i G2 H2 l2 c2 t2.1 (),f.nx _ _ _ _ r8 c2 (l1.trans l2) t2.2]
theorem af.at_{K:W.Frag}{H:Hp}{ds:List D}{xs:List V}{i:Nat}{x:V}(h:af K H ds xs)(e:xs[i]?=some x):∃d,ds[i]?=some d/\ae K H d x:=by
 have hl:i<ds.length:=by rw[h.length];exact(M4.mp e).1
 obtain⟨y,hy,r⟩:=h.get (B7 hl);rw[e] at hy;cases hy;exact#[_,B7 hl,r]
theorem vd8{K:W.Frag}{H0:Hp}{a:Addr}{ds:List D}{xs:List V}(s:dS K H0 a xs)(r:af K H0 ds xs):gB K H0 #[ds,λ_=>True] (UG K a) where
 go:=λi G H l c _ hi=>#[xs,xs[i]'(by rw[<- r.length];exact hi),l.DX s,B7 _]
 stop:=λi G H l c _ hi=>#[xs,l.DX s,by rw[<- r.length];exact hi]
 nQ:=λi G H x H' l c _ hi y=>by
  obtain⟨e,y⟩:=y;subst e;have hx:=y xs (l.DX s);obtain⟨d,hd,rd⟩:=(af.le l r).at_ hx
  exact#[c,Le.refl _,d,hd,rd]
def bt:Option DO->Option (List D)
 | some (.lst xs)=>some xs
 | some (.qV xs)=>some xs
 | _=>none
theorem d_(c:b_ K G H)(h:bt (G a)=some ds):∃xs,eG K H a xs/\af K H ds xs:=by
 cases e:G a with
 | none=>rw[e] at h;cases h
 | some o =>
  rw[e] at h;have q:=c a o e;cases o with
  | lst xs=>cases h;obtain⟨ys,q,r⟩:=q;exact#[ys,.inl (.inl q),r]
  | qV xs=>cases h;obtain⟨o,ys,q,r⟩:=q;exact#[ys,.inl (.inr #[o,q]),r]
  | bN _=>cases h
  | GZ _=>cases h
  | pQ _=>cases h
  | ins _ _=>cases h
  | exc _ _=>cases h
  | o6 _ _=>cases h
  | tb _ _=>cases h
theorem v36{K:W.Frag}{H0:Hp}{a:Addr}{ds:List D}:gB K H0 #[ds,λG=>bt (G a)=some ds] (UH K a) where
 go:=λi G H l c ok hi=>by
  obtain⟨xs,s,r⟩:=d_ c ok;exact#[xs,xs[i]'(by rw[<- r.length];exact hi),s,B7 _]
 stop:=λi G H l c ok hi=>by
  obtain⟨xs,s,r⟩:=d_ c ok;exact#[xs,s,by rw[<- r.length];exact hi]
 nQ:=λi G H x H' l c ok hi y=>by
  obtain⟨e,y⟩:=y;subst e;obtain⟨xs,s,r⟩:=d_ c ok;obtain⟨d,hd,rd⟩:=r.at_ (y xs s)
  exact#[c,Le.refl _,d,hd,rd]
def cn(lo:Int)(n:Nat):List D:=(D1 n).map λ(i:Nat)=>.int (lo+i)
theorem uh7:gB K H0 #[cn lo n,λ_=>True] (Hx lo n) where
 go:=λi G H l c _ hi=>by
  have:i<n:=by simpa[cn] using hi
  exact this
 stop:=λi G H l c _ hi=>by
  have:n<=i:=by simpa[cn] using hi
  exact this
 nQ:=λi G H x H' l c _ hi y=>by
  obtain⟨e,y⟩:=y;subst e;subst y;refine#[c,Le.refl _,.int (lo+i),?_,by rw[ae]];have:i<n:=by simpa[cn] using hi
  simp[cn,this]
abbrev fY:=List D->Gp->DK->Prop
def lR(K:W.Frag)(S:fY):Sp:=λvs H Q _=>∃ds G R,af K H ds vs/\b_ K G H/\S ds G R/\i' K H R Q
def j5(S:fY)(j4:List D)(t:dz):bw:=λσ G q=>t σ G λds G1=>∃R,S (ds++j4) G1 R/\∀d G',R d G'->q d G'
def A_(C:Addr)(m:Str)(S:fY)(j4:List D)(ta:bw)(t:dz):bw:=λσ G q=>ta σ G λx G1=>match x with
 | .ref a=>(match G1 a with
  | some (.ins C' fs)=>C'=C/\fs.lookup m=none/\t σ G1 λds G2=>∃R,S (.ref a::(ds++j4)) G2 R/\∀d G',R d G'->q d G'
  | _=>False)
 | _=>False
def CO(C:Addr)(S:fY)(j4:List D)(t:dz):bw:=λσ G q=>t σ G λds G1=>∀x,G1 x=none ->
 ∃R,S (.ref x::(ds++j4)) (aG G1 x (.ins C [])) R/\∀d G',R d G'->d=.non/\q (.ref x) G'
def putD(f:Str)(v:D):List (Str×D)->List (Str×D)
 | []=>[(f,v)]
 | (g,u)::r=>if g=f then(g,v)::r else(g,u)::putD f v r
def Ay(C:Addr)(ta:bw)(f:Str):bw:=λσ G q=>ta σ G λx G1=>match x with
 | .ref a=>(match G1 a with
  | some (.ins C' fs)=>C'=C/\(match fs.lookup f with|some d=>q d G1|none=>False)
  | _=>False)
 | _=>False
def NQ(C:Addr)(ta tv:bw)(f:Str):fz:=λE σ G=>tv σ G λy G1=>ta σ G1 λx G2=>match x with
 | .ref a=>(match G2 a with
  | some (.ins C' fs)=>C'=C/\fs.length<1000/\E.nx σ (aG G2 a (.ins C (putD f y fs)))
  | _=>False)
 | _=>False
def NJ(C:Addr)(ta tv:bw)(r:R3)(f:Str):fz:=λE σ G=>ta σ G λx G1=>match x with
 | .ref a=>(match G1 a with
  | some (.ins C' fs)=>C'=C/\(match fs.lookup f with
   | some d=>tv σ G1 λy G2=>r d y G2 λz G3=>(match G3 a with
    | some (.ins Mj iE)=>Mj=C/\iE.length<1000/\E.nx σ (aG G3 a (.ins C (putD f z iE)))
    | _=>False)
   | none=>False)
  | _=>False)
 | _=>False
section
variable{K:W.Frag}{σ:St}{H:Hp}{Q:VK}{E:Ends}
theorem vp1(hd:∀H,af K H j4 eE)(h:aI K (j5 S j4 t) σ H Q):W_ (lR K S) eE XE (dE K t) σ H Q:=by
 obtain⟨σd,G,q,rs,c,t,f⟩:=h;exact#[σd,G,_,rs,c,t,λds G1 vs H1 r1 c1 l1 ⟨R,s1,t1⟩=>#[_,G1,R,r1.append (hd H1),c1,s1,λd G2 v H2 r2 c2 l2 t2=>f d G2 v H2 r2 c2 (l1.trans l2) (t1 d G2 t2)]]
theorem ae.fh:ae K H (.ref a) (.ref a):=by rw[ae]
theorem ae.ai{a:Addr}{v:V}(h:ae K H (.ref a) v):v=.ref a:=by rw[ae] at h;exact h
theorem ay.lookup_none{κ:Type}[BEq κ]{k:κ}:∀{ps:List (κ×D)} {qs:List (κ×V)},ay K H ps qs->ps.lookup k=none->qs.lookup k=none
 | [],qs,h,_=>by
  cases qs with
  | nil=>rfl
  | cons _ _=>have:=h.1;simp at this
 | (g,d)::ps,qs,h,e=>by
  cases qs with
  | nil=>have:=h.1;simp at this
  | cons q qs =>
   obtain⟨g',v⟩:=q;have h1:=h.1;simp only[C0,V1] at h1;obtain⟨rfl,h1⟩:=h1;obtain⟨x,r,e2,_,h2⟩:=(show af K H (d::ps.map (·.2)) (v::qs.map (·.2)) from h.2).aj;cases e2;rw[F6] at e⊢;cases hk:k==g with
   | true=>rw[hk] at e;cases e
   | false=>rw[hk] at e;exact ay.lookup_none #[h1,h2] e
theorem ay.lookup{κ:Type}[BEq κ]{k:κ}{d:D}:∀{ps:List (κ×D)} {qs:List (κ×V)},ay K H ps qs->ps.lookup k=some d->∃v,qs.lookup k=some v/\ae K H d v
 | [],qs,h,e=>by cases e
 | (g,d')::ps,qs,h,e=>by
  cases qs with
  | nil=>have:=h.1;simp at this
  | cons q qs =>
   obtain⟨g',v⟩:=q;have h1:=h.1;simp only[C0,V1] at h1;obtain⟨rfl,h1⟩:=h1;obtain⟨x,r,e2,r1,h2⟩:=(show af K H (d'::ps.map (·.2)) (v::qs.map (·.2)) from h.2).aj;cases e2;rw[F6] at e⊢;cases hk:k==g with
   | true=>rw[hk] at e;cases e;exact#[v,rfl,r1]
   | false=>rw[hk] at e;exact ay.lookup #[h1,h2] e
theorem ay.nil{κ:Type}:ay (κ:=κ) K H [] []:=#[rfl,.nil]
theorem ay.cons{κ:Type}{k:κ}{d:D}{v:V}{ps:List (κ×D)}{qs:List (κ×V)}(r:ae K H d v)(h:ay K H ps qs):ay K H ((k,d)::ps) ((k,v)::qs) :=
 #[by simp[h.1],.cons r h.2]
theorem ay.aj{κ:Type}{k:κ}{d:D}{ps:List (κ×D)}{qs:List (κ×V)}(h:ay K H ((k,d)::ps) qs):∃v r,qs=(k,v)::r/\ae K H d v/\ay K H ps r:=by
 cases qs with
 | nil=>have:=h.1;simp at this
 | cons q qs =>
  obtain⟨g',v⟩:=q;have h1:=h.1;simp only[C0,V1] at h1;obtain⟨rfl,h1⟩:=h1;obtain⟨x,r,e2,r1,h2⟩:=(show af K H (d::ps.map (·.2)) (v::qs.map (·.2)) from h.2).aj;cases e2;exact#[v,qs,rfl,r1,h1,h2]
theorem ay.aR{κ:Type}{qs:List (κ×V)}(h:ay K H [] qs):qs=[]:=by
 cases qs with
 | nil=>rfl
 | cons _ _=>have:=h.1;simp at this
theorem ay.cJ{f:Str}{d:D}{v:V}(r:ae K H d v):∀{ps:List (Str×D)} {qs:List (Str×V)},ay K H ps qs->ay K H (putD f d ps) (L2.cJ f v qs)
 | [],qs,h=>by rw[h.aR];exact ay.cons r ay.nil
 | (g,d')::ps,qs,h=>by
  obtain⟨u,qs',rfl,r1,h2⟩:=h.aj
  show ay K H (if g=f then(g,d)::ps else(g,d')::putD f d ps) (if g=f then(g,v)::qs' else(g,u)::L2.cJ f v qs')
  split
  ·exact ay.cons r h2
  ·exact ay.cons r1 (ay.cJ r h2)
theorem ay.length{κ:Type}{ps:List (κ×D)}{qs:List (κ×V)}(h:ay K H ps qs):ps.length=qs.length:=by
 have:=h.2.length;simpa using this
theorem ZW(hd:∀H,af K H j4 eE)(h:aI K (A_ C m S j4 ta t) σ H Q):PD C m (lR K S) eE XE (aI K ta) (dE K t) σ H Q:=by
 obtain⟨σd,G,q,rs,c,t,f⟩:=h;refine#[σd,G,_,rs,c,t,λx G1 v H1 r1 c1 l1 t1=>?_];split at t1
 ·rename_i a
  split at t1
  ·rename_i C' fs e
   obtain⟨rfl,n,t1⟩:=t1;obtain⟨dx,ys,e2,rf⟩:=c1 _ _ e;refine#[a,dx,ys,r1.ai,e2,rf.lookup_none n,σd,G1,_,rs.le l1,c1,t1,λds G2 vs H2 r2 c2 l2 ⟨R,s2,t2⟩=>?_];exact#[_,G2,R,.cons (ae.le l2 r1) (r2.append (hd H2)),c2,s2,λd G3 v H3 r3 c3 l3 t3=>f d G3 v H3 r3 c3 (l1.trans (l2.trans l3)) (t2 d G3 t3)]
  ·exact t1.elim
 ·exact t1.elim
theorem b_.zN(c:b_ K G H)(h:H x=none)(h':H dx=none)(ne:dx≠x):b_ K (aG G x (.ins C [])) (upd (upd H dx (.own x)) x (.ins C dx []))/\Le H (upd (upd H dx (.own x)) x (.ins C dx [])):=by
 have c1:=c.side (u:=.own x) h';have hx:upd H dx (.own x) x=none:=by rw[cq (D8 ne)];exact h
 exact#[c1.put (Le.fresh hx) #[dx,[],f',ay.nil],(Le.fresh h').trans (Le.fresh hx)]
theorem vo4(hd:∀H,af K H j4 eE)(h:aI K (CO C S j4 t) σ H Q):Xb C (lR K S) eE XE (dE K t) σ H Q:=by
 obtain⟨σd,G,q,rs,c,t,f⟩:=h;refine#[σd,G,_,rs,c,t,λds G1 vs H1 r1 c1 l1 t1 x dx hx hdx ne=>?_];obtain⟨R,s1,t1⟩:=t1 x (c1.fresh hx);obtain⟨c2,l2⟩:=c1.zN (C:=C) hx hdx ne;refine#[_,_,R,.cons ae.fh ((af.le l2 r1).append (hd _)),c2,s1,λd G3 v H3 r3 c3 l3 t3=>?_];obtain⟨rfl,t4⟩:=t1 d G3 t3;exact#[by rw[ae] at r3;exact r3,f _ _ _ _ ae.fh c3 (l1.trans (l2.trans l3)) t4]
theorem we1{C:Addr}{ta:bw}{f:Str}(cl:ja K C)(na:bJ K C f)(h:aI K (Ay C ta f) σ H Q):DT K (aI K ta) f σ H Q:=by
 obtain⟨σd,G,q,rs,c,t,fu⟩:=h;refine#[σd,G,_,rs,c,t,λx G1 v H1 r1 c1 l1 t1=>?_];split at t1
 ·rename_i a
  split at t1
  ·rename_i C' fs e
   obtain⟨rfl,t1⟩:=t1;obtain⟨dx,ys,e2,rf⟩:=c1 _ _ e;split at t1
   ·rename_i d el
    obtain⟨w,ew,jq⟩:=rf.lookup el;exact#[a,_,dx,ys,w,r1.ai,e2,cl,na,ew,fu d G1 w H1 jq c1 l1 t1]
   ·exact t1.elim
  ·exact t1.elim
 ·exact t1.elim
theorem vn7{C:Addr}{ta tv:bw}{f:Str}(cl:ja K C)(na:bJ K C f)(h:dD K (NQ C ta tv f) E σ H):DZ K (aI K ta) (aI K tv) f E σ H:=by
 obtain⟨σd,G,d,rs,c,t,fu⟩:=h;refine#[σd,G,_,rs,c,t,λy G1 v H1 r1 c1 l1 t1=>#[σd,G1,_,rs.le l1,c1,t1,λx G2 w H2 r2 c2 l2 t2=>?_]];split at t2
 ·rename_i a
  split at t2
  ·rename_i C' fs e
   obtain⟨rfl,hl,t2⟩:=t2;obtain⟨dx,ys,e2,rf⟩:=c2 _ _ e;refine#[a,_,dx,ys,r2.ai,e2,cl,na,by rw[<- rf.length];exact hl,?_];have l3:=Le.ins (C':=C') (sH:=dx) (ys:=L2.cJ f v ys) e2;exact fu.nx _ _ _ _ (rs.le (l1.trans (l2.trans l3))) (c2.put (o:=.ins C' (putD f y fs)) l3 #[dx,_,f',ay.le l3 (rf.cJ (ae.le l2 r1))]) (l1.trans (l2.trans l3)) t2
  ·exact t2.elim
 ·exact t2.elim
theorem vp3{C:Addr}{ta tv:bw}{r:R3}{f:Str}(cl:ja K C)(na:bJ K C f)(h:dD K (NJ C ta tv r f) E σ H):Zt K (aI K ta) (aI K tv) (oQ K r) f E σ H:=by
 obtain⟨σd,G,d,rs,c,t,fu⟩:=h;refine#[σd,G,_,rs,c,t,λx G1 v H1 r1 c1 l1 t1=>?_];split at t1
 ·rename_i a
  split at t1
  ·rename_i C' fs e
   obtain⟨rfl,t1⟩:=t1;obtain⟨dx,ys,e2,rf⟩:=c1 _ _ e;split at t1
   ·rename_i d0 el
    obtain⟨w,ew,jq⟩:=rf.lookup el;refine#[a,_,dx,ys,w,r1.ai,e2,cl,na,ew,σd,G1,_,rs.le l1,c1,t1,λy G2 u H2 r2 c2 l2 t2=>?_];refine#[d0,y,G2,_,ae.le l2 jq,r2,c2,t2,λz G3 vz H3 r3 c3 l3 t3=>?_];split at t3
    ·rename_i Mj iE e'
     obtain⟨rfl,hl,t3⟩:=t3;obtain⟨sH,xx,e3,rf'⟩:=c3 _ _ e';refine#[sH,xx,e3,by rw[<- rf'.length];exact hl,?_];have l4:=Le.ins (C':=Mj) (sH:=sH) (ys:=L2.cJ f vz xx) e3;have BN:=l1.trans (l2.trans (l3.trans l4));exact fu.nx _ _ _ _ (rs.le BN) (c3.put (o:=.ins Mj (putD f z iE)) l4 #[sH,_,f',ay.le l4 (rf'.cJ r3)]) BN t3
    ·exact t3.elim
   ·exact t1.elim
  ·exact t1.elim
 ·exact t1.elim
theorem xb1{te:bw}{Q:Bool->Hp->Prop}(h:eB K (dB te) σ H Q):tB (aI K te) σ H Q:=by
 obtain⟨σd,G,q,rs,c,t,f⟩:=h;refine#[σd,G,_,rs,c,t,λx G1 v H1 r1 c1 l1 t1=>?_];split at t1
 ·rename_i k
  exact#[k,r1.bU,f _ _ _ c1 l1 t1]
 ·exact t1.elim
theorem vp4(h:aI K (NI ta tb) σ H Q):WY (aI K ta) (aI K tb) σ H Q:=by
 obtain⟨σd,G,q,rs,c,t,f⟩:=h;refine#[σd,G,_,rs,c,t,λx G1 v H1 r1 c1 l1 t1=>?_];split at t1
 ·rename_i k
  refine#[k,r1.bU,?_];cases k with
  | true=>rw[if_pos rfl] at t1⊢;exact#[σd,G1,q,rs.le l1,c1,t1,f.le l1]
  | false=>rw[if_neg D2] at t1⊢;exact f _ _ _ _ (by rw[ae]) c1 l1 t1
 ·exact t1.elim
theorem wd6(h:aI K (Au ta tb) σ H Q):DL (aI K ta) (aI K tb) σ H Q:=by
 obtain⟨σd,G,q,rs,c,t,f⟩:=h;refine#[σd,G,_,rs,c,t,λx G1 v H1 r1 c1 l1 t1=>?_];split at t1
 ·rename_i k
  refine#[k,r1.bU,?_];cases k with
  | false=>rw[if_neg D2] at t1⊢;exact#[σd,G1,q,rs.le l1,c1,t1,f.le l1]
  | true=>rw[if_pos rfl] at t1⊢;exact f _ _ _ _ (by rw[ae]) c1 l1 t1
 ·exact t1.elim
theorem vo1(h:aI K (NN ta) σ H Q):Xd (aI K ta) σ H Q:=by
 obtain⟨σd,G,q,rs,c,t,f⟩:=h;refine#[σd,G,_,rs,c,t,λx G1 v H1 r1 c1 l1 t1=>?_];split at t1
 ·rename_i k
  exact#[k,r1.bU,f _ _ _ _ (by rw[ae]) c1 l1 t1]
 ·exact t1.elim
def wW(i:Nat)(te:bw)(r:R3):fz:=λE σ G=>match σ[i]? with
 | some (some x)=>te σ G λy G1=>r x y G1 λz G2=>E.nx (σ.set i (some z)) G2
 | _=>False
theorem we2(h:dD K (wW i te r) E σ H):DU i (aI K te) (oQ K r) E σ H:=by
 obtain⟨σd,G,d,rs,c,t,fu⟩:=h;unfold wW at t;split at t
 ·rename_i x e
  obtain⟨v,hv,r1⟩:=rs.2 i x e;refine#[v,hv,σd,G,_,rs,c,t,λy G1 u H1 r2 c1 l1 t1=>?_];exact#[x,y,G1,_,ae.le l1 r1,r2,c1,t1,λz G2 vz H2 r3 c2 l2 t2=>fu.nx _ _ _ _ ((rs.le (l1.trans l2)).set i r3) c2 (l1.trans l2) t2]
 ·exact t.elim
abbrev Ck:=gD->Gp->(Option Int->Gp->Prop)->Prop
def qN(K:W.Frag)(t:Ck):TO:=λσ H Q=>∃σd G q,bL K H σd σ/\b_ K G H/\t σd G q/\∀o G' H',b_ K G' H'->Le H H'->q o G'->Q o H'
def Qv:Ck:=λ_ G q=>q none G
def JQ(t:bw):Ck:=λσ G q=>t σ G λx G1=>match x with|.int i=>q (some i) G1|_=>False
theorem v32{Q:Option Int->Hp->Prop}(h:qN K Qv σ H Q):ZA σ H Q:=by
 obtain⟨σd,G,q,rs,c,t,f⟩:=h;exact f _ _ _ c (Le.refl H) t
theorem vo0{t:bw}{Q:Option Int->Hp->Prop}(h:qN K (JQ t) σ H Q):Xe (aI K t) σ H Q:=by
 obtain⟨σd,G,q,rs,c,t,f⟩:=h;refine#[σd,G,_,rs,c,t,λx G1 v H1 r1 c1 l1 t1=>?_];split at t1
 ·rename_i k
  rw[ae] at r1;exact#[k,r1,f _ _ _ c1 l1 t1]
 ·exact t1.elim
abbrev Hv:=D->Option Int->Option Int->Gp->DK->Prop
def JV(K:W.Frag)(r:Hv):V->Option Int->Option Int->Hp->VK->Prop:=λx l u H Q=>∃d G q,ae K H d x/\b_ K G H/\r d l u G q/\i' K H q Q
def LS(r:Hv)(te:bw)(tl th:Ck):bw:=λσ G q=>te σ G λx G1=>tl σ G1 λl G2=>th σ G2 λu G3=>r x l u G3 q
theorem wy5(h:aI K (LS r te tl th) σ H Q):tSl (JV K r) (aI K te) (qN K tl) (qN K th) σ H Q:=by
 obtain⟨σd,G,q,rs,c,t,f⟩:=h;exact#[σd,G,_,rs,c,t,λx G1 v H1 r1 c1 l1 t1=>#[σd,G1,_,rs.le l1,c1,t1,λo G2 H2 c2 l2 t2=>#[σd,G2,_,rs.le (l1.trans l2),c2,t2,λu G3 H3 c3 l3 t3 =>
  #[x,G3,q,ae.le (l2.trans l3) r1,c3,t3,f.le (l1.trans (l2.trans l3))]]]]
def LU(r:C3)(t:dz):bw:=λσ G q=>t σ G λds G1=>r ds G1 q
theorem XA(h:aI K (LU r t) σ H Q):Ry (FO K r) (dE K t) σ H Q:=by
 obtain⟨σd,G,q,rs,c,t,f⟩:=h;exact#[σd,G,_,rs,c,t,λds G1 vs H1 r1 c1 l1 t1=>#[ds,G1,q,r1,c1,t1,f.le l1]]
abbrev M3:=D->List D->Gp->DK->Prop
def wb(K:W.Frag)(r:M3):V->List V->Hp->VK->Prop:=λx xs H Q=>∃d ds G q,ae K H d x/\af K H ds xs/\b_ K G H/\r d ds G q/\i' K H q Q
def ko(G:Gp)(T:String):D->Prop
 | .str _=>T = "str"
 | .int _=>T = "int"
 | .ref a=>match G a with
  | some (.lst _)=>T = "list"
  | some (.qV _)=>T = "list"
  | some (.bN _)=>T = "dict"
  | _=>False
 | _=>False
def Ce(T:String)(r:M3)(to:bw)(t:dz):bw:=λσ G q=>to σ G λx G1=>ko G1 T x/\t σ G1 λds G2=>r x ds G2 q
def Um(T:String)(r:M3)(to:bw):bw:=λσ G q=>to σ G λx G1=>ko G1 T x/\r x [] G1 q
theorem Qc(ty:∀G H x v,b_ K G H->ae K H x v->ko G T x->DC K T v H)(h:aI K (Ce T r to t) σ H Q):tBM K T (wb K r) (aI K to) (dE K t) σ H Q:=by
 obtain⟨σd,G,q,rs,c,t,f⟩:=h;exact#[σd,G,_,rs,c,t,λx G1 v H1 r1 c1 l1 ⟨y,t1⟩=>#[ty G1 H1 x v c1 r1 y,σd,G1,_,rs.le l1,c1,t1,λds G2 vs H2 r2 c2 l2 t2=>#[x,ds,G2,q,ae.le l2 r1,r2,c2,t2,f.le (l1.trans l2)]]]
end
end L3
namespace L3
open PySem PySem.Spec PyProof.Rows L2
section
variable{X:Cx}
theorem dA(h:PE X e t)(w:∀σ H Q,t' σ H Q->t σ H Q):PE X e t':=λpins s σ H Q I q=>h pins s σ H Q I (w _ _ _ q)
theorem PK(h:PT X e t)(w:∀σ H Q,t' σ H Q->t σ H Q):PT X e t':=λpins s σ H Q I q=>h pins s σ H Q I (w _ _ _ q)
theorem Xl(h:PW X e t)(w:∀σ H Q,t' σ H Q->t σ H Q):PW X e t':=λwh pins s σ H Q I q=>h wh pins s σ H Q I (w _ _ _ q)
theorem Xj(h:PA X e t)(w:∀σ H Q,t' σ H Q->t σ H Q):PA X e t':=λpos pins s σ H Q I q=>h pos pins s σ H Q I (w _ _ _ q)
theorem oi(h:PS X e t)(w:∀D σ H,t' D σ H->t D σ H):PS X e t':=λpins s σ H D I q=>h pins s σ H D I (w _ _ _ q)
theorem YD(h:nX X e t)(w:∀D σ H,t' D σ H->t D σ H):nX X e t':=λpins s σ H D I q=>h pins s σ H D I (w _ _ _ q)
theorem PJ(h:PG X e t)(w:∀v σ H Q,t' v σ H Q->t v σ H Q):PG X e t':=λpins s σ H v u Q I r q=>h pins s σ H v u Q I r (w _ _ _ _ q)
theorem YB(h:yl X e t)(w:∀v σ H Q,t' v σ H Q->t v σ H Q):yl X e t':=λpins s σ H v u Q I r q=>h pins s σ H v u Q I r (w _ _ _ _ q)
theorem w03(h:rb X t)(w:∀o i v H Q,t' o i v H Q->t o i v H Q):rb X t':=λpins s σ H o i v ov iv u Q I r1 r2 r3 q=>h pins s σ H o i v ov iv u Q I r1 r2 r3 (w _ _ _ _ _ q)
theorem xD(h:PI X tg e t)(w:∀σ H R,t' σ H R->t σ H R):PI X tg e t':=λpins s σ H R I q=>h pins s σ H R I (w _ _ _ q)
theorem rV(h:dy X f r)(w:∀x y H Q,r' x y H Q->r x y H Q):dy X f r':=λpins s σ H x y v u Q I a b q=>h pins s σ H x y v u Q I a b (w _ _ _ _ q)
theorem YE(h:xh X f r)(w:∀x H Q,r' x H Q->r x H Q):xh X f r':=λpins s σ H x v Q I a q=>h pins s σ H x v Q I a (w _ _ _ q)
theorem nV(h:bK X f r)(w:∀x H Q,r' x H Q->r x H Q):bK X f r':=λpins s σ H x v Q I a q=>h pins s σ H x v Q I a (w _ _ _ q)
theorem Qq{id:String}{r r':V->List V->Hp->VK->Prop}(h:yn X id r)(w:∀x xs H Q,r' x xs H Q->r x xs H Q):yn X id r':=λpins s σ H x xs v us Q I a b q=>h pins s σ H x xs v us Q I a b (w _ _ _ _ q)
theorem wj7(h:rh X r)(w:∀x y H Q,r' x y H Q->r x y H Q):rh X r':=λva sl pins s σ H x y v u Q I a b q=>h va sl pins s σ H x y v u Q I a b (w _ _ _ _ q)
theorem YC(h:q_ X r)(w:∀x l u H Q,r' x l u H Q->r x l u H Q):q_ X r':=by
 intro pins s σ H x lo hi
 intros
 apply h <;> first|assumption|(apply w;assumption)
theorem Xk(h:PO X e t)(w:∀σ H Q,t' σ H Q->t σ H Q):PO X e t':=by
 intro pins s σ H Q I q;exact h pins s σ H Q I (w _ _ _ q)
theorem w04(h:lj X e t)(w:∀σ H Q,t' σ H Q->t σ H Q):lj X e t':=λpins s σ H Q I q=>h pins s σ H Q I (w _ _ _ q)
end
def E3(X:Cx)(e:Expr)(t:bw):Prop:=PE X e (aI X.K t)
def T3(X:Cx)(e:Expr)(t:iq):Prop:=PT X e (eB X.K t)
def W3(X:Cx)(e:Expr)(t:iq):Prop:=PW X e (eB X.K t)
def A3(X:Cx)(es:List Expr)(t:dz):Prop:=PA X es (dE X.K t)
def S3(X:Cx)(st:Stmt)(t:fz):Prop:=PS X st (dD X.K t)
def qZ(X:Cx)(vK:List Stmt)(t:fz):Prop:=nX X vK (dD X.K t)
def J3(X:Cx)(e:Expr)(t:pq):Prop:=PG X e (lowG X.K t)
def LY(X:Cx)(es:List Expr)(t:pj):Prop:=yl X es (JU X.K t)
def I3(X:Cx)(tg e:Expr)(t:pW):Prop:=PI X tg e (kQ X.K t)
def O3(X:Cx)(e:Option Expr)(t:Ck):Prop:=PO X e (qN X.K t)
def xo(X:Cx)(es:List Expr)(t:iq):Prop:=lj X es (eB X.K t)
abbrev gF(X:Cx)(f:Value->Value->Sem Value)(r:R3):Prop:=dy X f (oQ X.K r)
abbrev Call3(X:Cx)(f:Value)(r:C3):Prop:=bK X f (FO X.K r)
section
variable{X:Cx}{a b c e o:Expr}{es:List Expr}{pos apos aJ p p2:Pos}{ta tb tc te:bw}{t u:iq}{ts us:dz}
theorem ev(i:Nat)(hN:X.N[i]?=some x:=by rfl)(hv:LX X.env.scope x:=by first|exact AK rfl|exact yL (AK rfl)|exact yL (yL rfl))(hd:(x==("__debug__" :Str))=false:=by decide)
  (uQ:(x==("__classdict__" :Str))=false:=by decide):E3 X (.Name x pos) (ni i):=dA (wo7 hN hv hd uQ) λ_ _ _=>wd1
theorem aA{i j pos}:E3 X (.Constant (.int i) j pos) (dC (.int i)):=dA wp3 λ_ _ _=>CT λ_=>by rw[ae]
theorem jz{i j pos}:E3 X (.Constant (.bool i) j pos) (dC (.bl i)):=dA xa3 λ_ _ _=>CT λ_=>by rw[ae]
theorem aZ{x j pos}:E3 X (.Constant (.str x) j pos) (dC (.str x)):=dA wo9 λ_ _ _=>CT λ_=>by rw[ae]
theorem x19(hg:Gl X x)(hm:X.mg x=some w)(r:RelV v w)(rd:∀H,ae X.K H d v)(hd:(x==("__debug__" :Str))=false:=by decide):E3 X (.Name x pos) (dC d) :=
 dA (wb2 hg hm r hd) λ_ _ _=>CT rd
theorem aP(ho:gF X (M0 op) r)(ha:E3 X a ta)(hb:E3 X b tb):E3 X (.BinOp a op b pos) (Av r ta tb):=dA (xa1 ho ha hb) λ_ _ _=>Kh
theorem qW(ho:xh X (Co op) (v_ X.K r))(ha:E3 X a ta):E3 X (.UnaryOp op a pos) (LR r ta):=dA (x99 ho ha) λ_ _ _=>wy4
theorem qw(ho:gF X (O6 op) r)(ha:E3 X a ta)(hb:E3 X b tb)(hm:CA op b=false):E3 X (.Compare a [op] [b] pos) (Av r ta tb):=dA (wb5 ho ha hb hm) λ_ _ _=>Kh
theorem bO(ho:gF X (O6 op) r)(ha:E3 X a ta)(hb:E3 X b tb)(hm:CA op b=false):T3 X (.Compare a [op] [b] pos) (dB (Av r ta tb)) :=
 PK (w96 ho ha hb hm) λσ H Q h=>by
  obtain⟨σd,G,q,rs,c,t,f⟩:=h;exact Kh (K:=X.K) #[σd,G,_,rs,c,t,λx G1 v H1 r1 c1 l1 t1=>by
   split at t1
   ·rename_i k
    exact#[k,r1.bU,f _ _ _ c1 l1 t1]
   ·exact t1.elim]
theorem rT(h:E3 X e te)(he:∀whole,isTrue e X.env whole=(do let v <- whole;vd e.pos;holding [v] (truthy v)):=by intro _;rfl):T3 X e (dB te):=PK (wn3 h he) λ_ _ _=>xb1
theorem Df(ha:T3 X a t):W3 X (.BoolOp .And [a] pos) t:=w95 ha
theorem zc(ha:T3 X a t):W3 X (.BoolOp .Or [a] pos) t:=wn1 ha
theorem w_and{rest:List Expr}(ha:T3 X a t)(hb:W3 X (.BoolOp .And (b::rest) pos) u):W3 X (.BoolOp .And (a::b::rest) pos) (Az t u):=Xl (wn2 ha hb) λ_ _ _=>vp5
theorem w_or{rest:List Expr}(ha:T3 X a t)(hb:W3 X (.BoolOp .Or (b::rest) pos) u):W3 X (.BoolOp .Or (a::b::rest) pos) (Uk t u):=Xl (x94 ha hb) λ_ _ _=>wd7
theorem rE(h:W3 X e t):T3 X e t:=PW.pt h
theorem Bf(ha:T3 X a t):T3 X (.UnaryOp .Not a pos) (Aw t):=PK (wn4 ha) λ_ _ _=>vo2
theorem y_{op}(h:E3 X a ta):E3 X (.BoolOp op [a] pos) ta:=wp0 h
theorem Ba{rest:List Expr}(ha:E3 X a ta)(hb:E3 X (.BoolOp .And (b::rest) pos) tb):E3 X (.BoolOp .And (a::b::rest) pos) (NI ta tb):=dA (wp5 ha hb) λ_ _ _=>vp4
theorem Ug{rest:List Expr}(ha:E3 X a ta)(hb:E3 X (.BoolOp .Or (b::rest) pos) tb):E3 X (.BoolOp .Or (a::b::rest) pos) (Au ta tb):=dA (xa0 ha hb) λ_ _ _=>wd6
theorem JR(ha:E3 X a ta):E3 X (.UnaryOp .Not a pos) (NN ta):=dA (wp1 ha) λ_ _ _=>vo1
theorem qX(hc:T3 X c t)(ha:E3 X a ta)(hb:E3 X b tb):E3 X (.IfExp c a b pos) (Ul t ta tb):=dA (vm2 hc ha hb) λ_ _ _=>wy7
theorem lu:A3 X [] nk:=Xj XG λ_ _ _=>Zi
theorem nS(ha:E3 X e te)(hr:A3 X es ts)(hs:C5 (e::es) X.env=(false,eval e X.env)::C5 es X.env:=by rfl):A3 X (e::es) (lQ te ts):=Xj (Zo ha hr hs) λ_ _ _=>vp0
theorem bD{x1}(h:A3 X es ts):E3 X (.Tuple es x1 pos) (sJ ts):=dA (wo8 h) λ_ _ _=>wd3
theorem dU(h:A3 X es ts):E3 X (.List es pos) (sL ts):=dA (wp2 h) λ_ _ _=>wd8
theorem bR(hr:rh X (oQ X.K r))(ha:E3 X a ta)(hb:E3 X b tb)(hs:YM b:=by exact λ_ _=>rfl):E3 X (.Subscript a b pos) (Av r ta tb):=dA (xa2 hr ha hb hs) λ_ _ _=>Kh
theorem Qh:O3 X none Qv:=Xk wa5 λ_ _ _=>v32
theorem Bq(h:E3 X e te):O3 X (some e) (JQ te):=Xk (wa4 h) λ_ _ _=>vo0
theorem wV{r:Hv}{lo hi:Option Expr}{tl th:Ck}(hr:q_ X (JV X.K r))(he:E3 X e te)(hl:O3 X lo tl)(hu:O3 X hi th):E3 X (.Subscript e (.Slice lo hi none p2) pos) (LS r te tl th):=dA (vm0 hr he hl hu) λ_ _ _=>wy5
end
section
variable{X:Cx}{a b c e o value:Expr}{es:List Expr}{st:Stmt}{vK DW:List Stmt}{pos pos' qD jm:Pos}{te ta tv:bw}{t:iq}{s1 s2:fz}{g:pq}
theorem cU:qZ X [] NM:=YD w99 λ_ _ _=>vo3
theorem au(h1:S3 X st s1)(h2:qZ X vK s2):qZ X (st::vK) (ij s1 s2):=YD (vl0 h1 h2) λ_ _ _=>wd4
theorem aE(h1:S3 X st s1):qZ X [st] s1:=w98 h1
theorem dW(he:E3 X e te)(hs:V2 e none pos.line X.env=pure false:=by rfl):S3 X (.Expr e pos) (AZ te):=oi (wa2 he hs) λ_ _ _=>vo9
theorem bj(he:E3 X e te):S3 X (.Return (some e) pos) (nj te):=oi (wn7 he) λ_ _ _=>wd5
theorem wm8:S3 X (.Return none pos) NP:=oi wa1 λ_ _ _=>vn8
theorem aT(hc:T3 X c t)(ha:qZ X vK s1)(hb:qZ X DW s2):S3 X (.If c vK DW pos) (Ax t s1 s2):=oi (x95 hc ha hb) λ_ _ _=>wd9
def x28:fz:=λ_ _ _=>False
theorem QB:S3 X st x28:=oi vl2 λ_ _ _ h=>by obtain⟨_,_,_,_,_,h,_⟩:=h;exact h.elim
theorem c8(i:Nat)(hN:X.N.Nodup)(hi:X.N[i]?=some x:=by rfl)(hx:Loc X.env.scope x:=by first|exact AK rfl|exact yL rfl)(hf:X.fn x=true\/X.env.scope.names.lookup x=some .local:=by first|exact .inl rfl|exact .inr rfl|assumption):J3 X (.Name x pos) (rS i) :=
 PJ (wa8 hN hi hx hf) λ_ _ _ _=>vc4
theorem Bn:LY X [] zL:=YB wa7 λ_ _ _ _=>vo6
theorem qx{t:pq}{u:pj}(h1:J3 X e t)(h2:LY X es u)(hs:(R5 (e::es) X.env).map (·.2)=assign e X.env::(R5 es X.env).map (·.2):=by rfl):LY X (e::es) (NU t u):=YB (vl9 h1 h2 hs) λ_ _ _ _=>vc5
theorem xB{i:Expr}{to ti:bw}{t:pV}(ho:E3 X o to)(hi:E3 X i ti)(hs:rb X (Qb X.K t))
  (ha:∀v,assign (.Subscript o i pos) X.env v=(do
   let ov <- holding [v] (eval o X.env)
   let iv <- holding [v,ov] (eval i X.env)
   vd pos
   holding [v,ov,iv] (Mc ov iv v)
   release [v,ov,iv] []):=by intro _;rfl):J3 X (.Subscript o i pos) (zK to ti t):=PJ (wo6 ho hi hs ha) λ_ _ _ _=>vo5
theorem vw(he:E3 X e te)(hg:J3 X tg g)(hs:swapsWithSole [tg] e pos.line X.env=pure false:=by rfl)(hw:swappedStores [tg] e X.env=pure none:=by rfl)
  (h1:(R5 [tg] X.env).map (·.2)=[assign tg X.env]:=by rfl):S3 X (.Assign [tg] e pos) (i5 te g):=oi (wo1 he hg hs hw h1) λ_ _ _=>we3
theorem aQ(i:Nat)(hN:X.N.Nodup)(he:E3 X e te)(hi:X.N[i]?=some x:=by rfl)(hx:Loc X.env.scope x:=by first|exact AK rfl|exact yL rfl)(hs:V2 e (some (.Name x pos')) pos.line X.env=pure false:=by rfl)
  (hf:X.fn x=true\/X.env.scope.names.lookup x=some .local:=by first|exact .inl rfl|exact .inr rfl|assumption):S3 X (.Assign [.Name x pos'] e pos) (i5 te (rS i)) :=
 oi (wn6 hN hi hx he hs hf) λD σ H h=>by
  obtain⟨σd,G,q,rs,c,t,f⟩:=h;exact#[σd,G,_,rs,c,t,λx G1 v H1 r1 c1 l1 t1=>f.nx _ _ _ _ ((rs.le l1).set i r1) c1 l1 t1]
theorem JY(i:Nat)(hN:X.N.Nodup)(he:E3 X e te)(ho:gF X (AQ op) r)(hi:X.N[i]?=some x:=by rfl)(hx:Loc X.env.scope x:=by first|exact AK rfl|exact yL rfl)
  (hf:X.fn x=true\/X.env.scope.names.lookup x=some .local:=by first|exact .inl rfl|exact .inr rfl|assumption):S3 X (.AugAssign (.Name x pos') op e pos) (wW i te r):=oi (wo0 hN hi hx he ho hf) λ_ _ _=>we2
theorem QC(hc:T3 X c t)(hb:qZ X body s1)(hp:ME (model X.prog X.w) X.A X.env X.xe:=by exact C12):S3 X (.While c body [] pos) (PX t s1):=oi (vl1 hp hc hb) λ_ _ _=>vb8
theorem lB(hi:I3 X tg iter wi)(hg:J3 X tg g)(hb:qZ X body s1)(hc:X.calm=true:=by rfl)(hp:ME (model X.prog X.w) X.A X.env X.xe:=by exact C12)
  (hs:∀x,V7 iter X.env x=pure x:=by intro _;rfl):S3 X (.For tg iter body [] pos) (sM wi g s1):=oi (wn8 hp hc hi hg hb hs) λ_ _ _=>we0
theorem iI(cl:ja X.K C)(na:bJ X.K C f)(he:E3 X e te)(hb:O1 e f X.env (eval e X.env)=eval e X.env:=by rfl):E3 X (.Attribute e f pos) (Ay C te f):=dA (wp4 he hb) λ_ _ _=>we1 cl na
theorem xC(cl:ja X.K C)(na:bJ X.K C f)(ha:E3 X o ta)(hv:E3 X value tv)(hs:V2 value (some (.Attribute o f pos')) pos.line X.env=pure false:=by rfl):S3 X (.Assign [.Attribute o f pos'] value pos) (NQ C ta tv f) :=
 oi (wn9 ha hv hs) λ_ _ _=>vn7 cl na
theorem Ko(cl:ja X.K C)(na:bJ X.K C f)(ha:E3 X o ta)(hv:E3 X value tv)(ho:gF X (AQ op) r):S3 X (.AugAssign (.Attribute o f jm) op value pos) (NJ C ta tv r f) :=
 oi (v91 ha hv ho) λ_ _ _=>vp3 cl na
end
theorem vc1{K:W.Frag}{σ:L2.St}{H:Hp}{ta:dz}{R:It->Hp->Prop}(h:kQ K (λσ G r=>ta σ G λds G1=>match ds with|[.int j]=>(-(2^62)<=j/\j<2^62)/\r #[cn 0 j.toNat,λ_=>True] G1|_=>False) σ H R):WR (dE K ta) σ H R:=by
 obtain⟨σd,G,q,rs,c,t,f⟩:=h;refine#[σd,G,_,rs,c,t,λds G1 vs H1 r1 c1 l1 t1=>?_];split at t1
 ·rename_i j
  obtain⟨x,r,rfl,rx,rr⟩:=r1.aj;rw[ae] at rx;subst rx;rw[rr.aR];exact#[j,rfl,t1.1.1,t1.1.2,f _ _ _ _ uh7 c1 l1 t1.2]
 ·exact t1.elim
theorem vc0{K:W.Frag}{σ:L2.St}{H:Hp}{ta:dz}{R:It->Hp->Prop}(h:kQ K (λσ G r=>ta σ G λds G1=>match ds with|[.int i,.int j]=>(-(2^62)<=i/\i<2^62/\-(2^62)<=j/\j<2^62)/\r #[cn i (j-i).toNat,λ_=>True] G1|_=>False) σ H R):WS (dE K ta) σ H R:=by
 obtain⟨σd,G,q,rs,c,t,f⟩:=h;refine#[σd,G,_,rs,c,t,λds G1 vs H1 r1 c1 l1 t1=>?_];split at t1
 ·rename_i i j
  obtain⟨x,r,rfl,rx,rr⟩:=r1.aj;obtain⟨y,r',rfl,ry,jJ⟩:=rr.aj;rw[ae] at rx ry;subst rx ry;rw[jJ.aR];exact#[i,j,rfl,t1.1,f _ _ _ _ uh7 c1 l1 t1.2]
 ·exact t1.elim
def Xh(ta:dz):pW:=λσ G r=>ta σ G λds G1=>match ds with|[.int j]=>(-(2^62)<=j/\j<2^62)/\r #[cn 0 j.toNat,λ_=>True] G1|_=>False
def Xi(ta:dz):pW:=λσ G r=>ta σ G λds G1=>match ds with|[.int i,.int j]=>(-(2^62)<=i/\i<2^62/\-(2^62)<=j/\j<2^62)/\r #[cn i (j-i).toNat,λ_=>True] G1|_=>False
section
variable{X:Cx}{a b e o tg:Expr}{es:List Expr}{p pos apos aJ:Pos}{ta:bw}{ts:dz}
theorem uA(hg:Gl X "range")(hm:X.mg "range" = none)(ha:A3 X [a] ts)(hs:C5 [a] X.env=[(false,eval a X.env)]:=by rfl):I3 X tg (.Call (.Name "range" p) [a] [] pos) (Xh ts):=xD (v98 hg hm ha hs) λ_ _ _=>vc1
theorem x08(hg:Gl X "range")(hm:X.mg "range" = none)(ha:A3 X [a,b] ts)(hs:C5 [a,b] X.env=[(false,eval a X.env),(false,eval b X.env)]:=by rfl)(cy:C5 [b] X.env=[(false,eval b X.env)]:=by rfl) :
  I3 X tg (.Call (.Name "range" p) [a,b] [] pos) (Xi ts):=xD (v97 hg hm ha hs cy) λ_ _ _=>vc0
variable{k:Nat}{f C:Addr}{fd:vf}{ps:List Str}{S:fY}{j4:List D}{eE:List V}{ds:List Value}{x m:Str}
theorem x21(F:bG X.prog X.w X.K X.mg X.base nZ k f fd ps (lR X.K S))(hr:aM k X.A)(hg:Gl X x)(hm:X.mg x=some (.ref f))(hk:W.keepIn X.K (.ref f)=true)(hb:Binds X.K fd ps ds)(hd:Vals eE ds)(Ah:∀H,af X.K H j4 eE)
  (ha:A3 X (e::es) ts) (gR:(x==("__debug__" :Str))=false:=by decide) (he:C5 (e::es) X.env=(false,eval e X.env)::C5 es X.env:=by rfl) (bZ:(backTo pos (C5 es X.env)).any (·.1)=false:=by rfl) :
  E3 X (.Call (.Name x p) (e::es) [] pos) (j5 S j4 ts):=dA (wb6 F hr hg hm hk hb hd pG ha gR he bZ) λ_ _ _=>vp1 Ah
theorem x17(he:E3 X o ta)(c:ja X.K C)(hm:Meth X.K C m f)(F:bG X.prog X.w X.K X.mg X.base nZ k f fd ps (lR X.K S))(hr:aM k X.A)(hb:Binds X.K fd ps ds)(hd:Vals eE ds)(Ah:∀H,af X.K H j4 eE)(ha:A3 X (e::es) ts)
  (wx:C5 (e::es) X.env=(false,eval e X.env)::C5 es X.env:=by rfl) (bZ:(backTo pos (C5 es X.env)).any (·.1)=false:=by rfl)
  (ht:eval (.Call (.Attribute o m apos) (e::es) [] pos) X.env=(do
   let ov <- eval o X.env
   vd apos.atName
   let (f,first) <- holding [ov] (yQ ov m pl)
   Cp pos f first (backTo pos (C5 (e::es) X.env)) (V8 pos (P4 [] X.env))):=by rfl):E3 X (.Call (.Attribute o m apos) (e::es) [] pos) (A_ C m S j4 ta ts) :=
 dA (wb0 he c hm F hr hb hd pG ha wx bZ ht) λ_ _ _=>ZW Ah
theorem wf8(he:E3 X o ta)(c:ja X.K C)(hm:Meth X.K C m f)(F:bG X.prog X.w X.K X.mg X.base nZ k f fd ps (lR X.K S))(hr:aM k X.A)(hb:Binds X.K fd ps ds)(hd:Vals eE ds)(Ah:∀H,af X.K H j4 eE)
  (ht:eval (.Call (.Attribute o m apos) [] [] pos) X.env=(do
   let ov <- eval o X.env
   vd apos.atName
   let (f,first) <- holding [ov] (yQ ov m pl)
   Cp pos f first (backTo pos (C5 [] X.env)) (V8 pos (P4 [] X.env))):=by rfl):E3 X (.Call (.Attribute o m apos) [] [] pos) (A_ C m S j4 ta nk) :=
 dA (vm1 he c hm F hr hb hd pG ht) λσ H Q h=>by
  obtain⟨σd,G,q,rs,cc,t,ff⟩:=ZW (XE:=E0) Ah h;refine#[σd,G,q,rs,cc,t,λd G1 v H1 r1 c1 l1 t1=>?_];obtain⟨a,dx,fs,e1,e2,e3,q3⟩:=ff d G1 v H1 r1 c1 l1 t1;exact#[a,dx,fs,e1,e2,e3,Zi q3]
theorem Xt(M:Mk X.K C f)(F:bG X.prog X.w X.K X.mg X.base nZ k f fd ps (lR X.K S))(hr:aM (k+1) X.A)(hg:Gl X x)(hm:X.mg x=some (.ref C))(hb:Binds X.K fd ps ds)(hd:Vals eE ds)(Ah:∀H,af X.K H j4 eE)
  (ha:A3 X (e::es) ts) (gR:(x==("__debug__" :Str))=false:=by decide) (he:C5 (e::es) X.env=(false,eval e X.env)::C5 es X.env:=by rfl) (bZ:(backTo pos (C5 es X.env)).any (·.1)=false:=by rfl) :
  E3 X (.Call (.Name x p) (e::es) [] pos) (CO C S j4 ts):=dA (wb1 M F hr hg hm hb hd pG ha gR he bZ) λ_ _ _=>vo4 Ah
variable{id T:String}{r:C3}{rm:M3}{name:Str}
theorem cN(hc:Call3 X (.builtin id) r)(hg:Gl X x)(hm:X.mg x=none)(hv:Q6 x=some (.builtin id))(ha:A3 X (e::es) ts)(hn:x ≠ "__name__" := by decide)(gR:(x==("__debug__" :Str))=false:=by decide)
  (he:C5 (e::es) X.env=(false,eval e X.env)::C5 es X.env:=by rfl) (bZ:(backTo pos (C5 es X.env)).any (·.1)=false:=by rfl):E3 X (.Call (.Name x p) (e::es) [] pos) (LU r ts) :=
 dA (vm9 hc hg hm hv ha hn gR he bZ) λ_ _ _=>XA
theorem lD(hc:Call3 X (.type T) r)(hg:Gl X x)(hm:X.mg x=none)(hv:Q6 x=some (.type T))(ha:A3 X (e::es) ts)(hn:x ≠ "__name__" := by decide)(gR:(x==("__debug__" :Str))=false:=by decide)
  (he:C5 (e::es) X.env=(false,eval e X.env)::C5 es X.env:=by rfl) (bZ:(backTo pos (C5 es X.env)).any (·.1)=false:=by rfl):E3 X (.Call (.Name x p) (e::es) [] pos) (LU r ts) :=
 dA (uq9 hc hg hm hv ha hn gR he bZ) λ_ _ _=>XA
end
def Bm(ix:List (Option Nat))(σ:gD):gD:=ix.map λo=>o.bind λj=>(σ[j]?).bind id
def uw(ok:Gp->Prop)(g:pq)(tc:iq)(te:bw)(p:Addr)(q:DK):List D->gD->Gp->Prop
 | [],_,G=>ok G/\q (.ref p) G
 | x::r,σ,G=>ok G/\g x σ G λσ2 G2=>tc σ2 G2 λb G3 =>
  if b=true then te σ2 G3 λd G4=>(match G4 p with|some (.lst ys)=>ys.length<sizeLine/\uw ok g tc te p q r σ2 (aG G4 p (.lst (ys++[d])))|_=>False)
  else uw ok g tc te p q r σ2 G3
def JO(ix:List (Option Nat))(wi:pW)(g:pq)(tc:iq)(te:bw):bw:=λσ G q=>wi σ G λit G1=>∀p,G1 p=none->uw it.ok g tc te p q it.items (Bm ix σ) (aG G1 p (.lst []))
theorem bL.inn{K:W.Frag}{H:Hp}{σd:gD}{σ:L2.St}(h:bL K H σd σ)(ix:List (Option Nat)):bL K H (Bm ix σd) (L2.inner ix σ):=by
 refine#[by unfold Bm L2.inner;rw[B0,B0],λi d e=>?_];unfold Bm at e;unfold L2.inner;rw[F0] at e⊢;cases ho:ix[i]? with
 | none=>rw[ho] at e;cases e
 | some o =>
  rw[ho] at e;cases o with
  | none=>cases e
  | some j =>
   have e:(σd[j]?).bind id=some d:=E7 e;have e:σd[j]?=some (some d):=by
    cases hs:σd[j]? with
    | none=>rw[hs] at e;cases e
    | some w=>rw[hs] at e;cases e;rfl
   obtain⟨v,hv,r⟩:=h.2 j d e;exact#[v,by show some ((σ[j]?).bind id)=_;rw[hv];rfl,r]
theorem ZV{K:W.Frag}{ix:List (Option Nat)}{wi:pW}{g:pq}{tc:iq}{te:bw}{σ:L2.St}{H:Hp}{Q:VK}(h:aI K (JO ix wi g tc te) σ H Q):Pz ix (kQ K wi) (lowG K g) (eB K tc) (aI K te) σ H Q:=by
 obtain⟨σd,G,q,rs,cc,t,f⟩:=h;refine#[σd,G,_,rs,cc,t,λit J G1 H1 ir c1 l1 t1=>?_];intro p hp;have t1:=t1 p (c1.fresh hp);have c2:b_ K (aG G1 p (.lst [])) (upd H1 p (.lst [])):=c1.cL hp .nil;have l2:Le H1 (upd H1 p (.lst [])):=Le.fresh hp;refine#[λi m σ' H'=>∃σd' G',Le (upd H1 p (.lst [])) H'/\bL K H' σd' σ'/\b_ K G' H'/\i+m=it.items.length/\uw it.ok g tc te p q (it.items.drop i) σd' G',
  #[it.items.length,Bm ix σd,_,Le.refl _,(rs.le (l1.trans l2)).inn ix,c2,(),by rw[C21];exact t1],?_]
 rintro i m σ2 H2 ⟨σd2,G2,l3,r8,c2,e2,t2⟩;have Ls:Le H1 H2:=l2.trans l3
 by_cases hi:i<it.items.length
 ·rw[N5 hi] at t2
  obtain⟨vW,t2⟩:=t2;refine .inr #[ir.go i G2 H2 Ls c2 vW hi,λσ' H'=>∃σd' G',Le (upd H1 p (.lst [])) H'/\bL K H' σd' σ'/\b_ K G' H'/\uw it.ok g tc te p q (it.items.drop (i+1)) σd' G',?_,?_]
  ·rintro σ' H' ⟨σd',G',a1,a2,a3,a4⟩
   exact#[m-1,(),σd',G',a1,a2,a3,(),a4]
  ·intro x H3 y
   obtain⟨c3,l4,e,he,r3⟩:=ir.nQ i G2 H2 x H3 Ls c2 vW hi y;rw[B7 hi] at he;cases he;refine#[_,σd2,G2,_,r3,r8.le l4,c3,t2,λσd4 G4 σ4 H4 BH c4 l5 t4=>?_];refine#[σd4,G4,_,BH,c4,t4,λb G5 H5 c5 l6 t5=>?_];cases b with
   | false =>
    rw[if_neg D2] at t5⊢;exact#[σd4,G5,l3.trans (l4.trans (l5.trans l6)),BH.le l6,c5,t5]
   | true =>
    rw[if_pos rfl] at t5⊢;refine#[σd4,G5,_,BH.le l6,c5,t5,λd G6 v H6 r6 c6 l7 t6=>?_];split at t6
    ·rename_i ys eg
     obtain⟨xs,ex,rx⟩:=c6 p _ eg;have l8:=Le.lst (ys:=xs++[v]) ex;exact#[xs,ex,by rw[<- rx.length];exact t6.1,σd4,_,l3.trans (l4.trans (l5.trans (l6.trans (l7.trans l8)))),BH.le (l6.trans (l7.trans l8)),c6.kP ex (rx.append (.cons r6 .nil)),t6.2]
    ·exact t6.elim
 ·rw[U2 ()] at t2
  exact .inl #[ir.stop i G2 H2 Ls c2 t2.1 (),f _ _ _ _ ae.fh c2 (l1.trans Ls) t2.2]
def Ar:iq:=λ_ G q=>q true G
section
variable{X:Cx}{elt tg iter:Expr}{ifs:List Expr}{scope:Scope}{pos:Pos}{N':List Str}{ix:List (Option Nat)}{wi:pW}{g:pq}{tc:iq}{te:bw}
theorem ki:xo X [] Ar:=w04 vl6 λσ H Q h=>by
 obtain⟨σd,G,q,rs,c,t,f⟩:=h;exact f _ _ _ c (Le.refl H) t
theorem we9(h:T3 X c tc):xo X [c] tc:=vl5 h
theorem lT(B:jc X N' ix scope)(hw:I3 X tg iter wi)(hg:∀C s H fp,J3 (lS X N' scope C s H fp) tg g)(hi:∀C s H fp,xo (lS X N' scope C s H fp) ifs tc)(he:∀C s H fp,E3 (lS X N' scope C s H fp) elt te)
  (hc:X.calm=true:=by rfl) (hs:∀x,V7 iter X.env x=pure x:=by intro _;rfl):E3 X (.ListComp elt [#[tg,iter,ifs,0]] scope pos) (JO ix wi g tc te) :=
 dA (wb4 (g:=lowG X.K g) (tc:=eB X.K tc) (te:=aI X.K te) B hc hw hg hi he hs) λ_ _ _=>ZV
theorem Qm(i:Nat){y:Str}{py qD:Pos}(hN:X.N.Nodup)(B:jc X N' ix scope)(hw:I3 X tg iter wi)(hg:∀C s H fp,J3 (lS X N' scope C s H fp) tg g)(hi:∀C s H fp,xo (lS X N' scope C s H fp) ifs tc)(he:∀C s H fp,E3 (lS X N' scope C s H fp) elt te)
  (hy:X.N[i]?=some y:=by rfl) (hl:Loc X.env.scope y:=by first|exact AK rfl|exact yL rfl)
  (hc:X.calm=true:=by rfl) (SX:V2 (.ListComp elt [#[tg,iter,ifs,0]] scope pos) (some (.Name y py)) qD.line X.env=pure true:=by rfl)
  (hf:X.fn y=true\/X.env.scope.names.lookup y=some .local:=by first|exact .inl rfl|exact .inr rfl|assumption)
  (hs:∀x,V7 iter X.env x=pure x:=by intro _;rfl):S3 X (.Assign [.Name y py] (.ListComp elt [#[tg,iter,ifs,0]] scope pos) qD) (i5 (JO ix wi g tc te) (rS i)) :=
 oi (wa0 (g:=lowG X.K g) (tc:=eB X.K tc) (te:=aI X.K te) B hc hN hy hl hw hg hi he SX hf hs) λD σ H h=>by
  obtain⟨σd,G,d,rs,c,t,f⟩:=h;exact ZV (K:=X.K) #[σd,G,_,rs,c,t,λx G1 v H1 r1 c1 l1 t1=>f.nx _ _ _ _ ((rs.le l1).set i r1) c1 l1 t1]
end
def kg:R3:=λx y G q=>match x,y with
 | .int i,.int j=>q (.int (i+j)) G
 | .str a,.str b=>a.length+b.length<=sizeLine/\q (.str (a++b)) G
 | .tup a,.tup b=>a≠[]/\a.length+b.length<=sizeLine/\q (.tup (a++b)) G
 | .ref a,.ref b=>(match G a,G b with
  | some (.lst xs),some (.lst ys)=>xs.length+ys.length<=sizeLine/\∀p,G p=none->q (.ref p) (aG G p (.lst (xs++ys)))
  | _,_=>False)
 | _,_=>False
def lP(f:Int->Int->Int):R3:=λx y G q=>match x,y with|.int i,.int j=>q (.int (f i j)) G|_,_=>False
def xE(C:Int->Int->Prop)(f:Int->Int->Int):R3:=λx y G q=>match x,y with|.int i,.int j=>C i j/\q (.int (f i j)) G|_,_=>False
def CC:R3:=lP λi j=>i-j
def vk:R3:=λx y G q=>match x,y with
 | .int i,.int j=>jb i j/\q (.int (i*j)) G
 | .ref a,.int k=>(match G a with
  | some (.lst xs)=>(-(2^63)<=k/\k<2^63/\xs.length*k.toNat<=sizeLine)/\∀p,G p=none->q (.ref p) (aG G p (.lst (D0 k.toNat xs).flatten))
  | _=>False)
 | _,_=>False
def CM(_ j:Int):Prop:=0<j/\j<18446744073709551616
def CK:R3:=xE CM λi j=>i / j
def CI:R3:=xE (λ_ j=>0<j) λi j=>i%j
def CH:R3:=xE nO λi j=>i^j.toNat
def CG:R3:=xE nO λi j=>i*2^j.toNat
def CF:R3:=xE (λ_ j=>0<=j) λi j=>i / 2^j.toNat
def CL:R3:=lP R7
def Wt:R3:=lP JG
def CB:R3:=lP JH
def ND:R3:=λx y G q=>match x,y with|.int i,.int j=>q (.bl (decide (i<j))) G|.str a,.str b=>q (.bl (decide (a.cps.toList<b.cps.toList))) G|_,_=>False
def xLe:R3:=λx y G q=>match x,y with|.int i,.int j=>q (.bl (decide (i<=j))) G|_,_=>False
def Wu:R3:=λx y G q=>match x,y with|.int i,.int j=>q (.bl (decide (j<i))) G|_,_=>False
def Ww:R3:=λx y G q=>match x,y with|.int i,.int j=>q (.bl (decide (j<=i))) G|_,_=>False
section
variable{X:Cx}{K:W.Frag}{H:Hp}
theorem ae.int_inv(h:ae K H (.int i) v):v=.int i:=by rw[ae] at h;exact h
theorem ae.str_inv(h:ae K H (.str i) v):v=.str i:=by rw[ae] at h;exact h
theorem ae.bq(h:ae K H .non v):v=.non:=by rw[ae] at h;exact h
theorem ae.aK(h:ae K H (.tup ds) v):∃a xs,v=.ref a/\dS K H a xs/\af K H ds xs:=by rw[ae] at h;exact h
theorem ae.cz:ae K H (.int i) (.int i):=by rw[ae]
theorem ae.zt:ae K H (.str i) (.str i):=by rw[ae]
theorem ae.rO:ae K H (.bl i) (.bl i):=by rw[ae]
theorem ae.vY:ae K H .non .non:=by rw[ae]
theorem CW(h:dy X f (qG λi j=>.int (g i j))):gF X f (lP g):=rV h λx y H Q ⟨d,e,G,q,r1,r2,c,t,f⟩=>by
 unfold lP at t;split at t
 ·exact#[_,_,r1.int_inv,r2.int_inv,f _ _ _ _ ae.cz c (Le.refl H) t]
 ·exact t.elim
theorem Dg(h:dy X f (rI C λi j=>.int (g i j))):gF X f (xE C g):=rV h λx y H Q ⟨d,e,G,q,r1,r2,c,t,f⟩=>by
 unfold xE at t;split at t
 ·exact#[_,_,r1.int_inv,r2.int_inv,t.1,f _ _ _ _ ae.cz c (Le.refl H) t.2]
 ·exact t.elim
theorem iw:gF X (M0 .Sub) CC:=CW wq0
theorem vn0:dy X (M0 .FloorDiv) (rI CM λi j=>.int (i / j)):=BL λi j _ _ _ _ _ hc q=>by
 have hl:j.natAbs.log2<9000:=by
  have h1:=hc.1;have h2:=hc.2;have hn:j.natAbs≠0:=()
  have:j.natAbs.log2<64:=(C82 hn).mpr ();omega
 refine floordiv_int (by have:=hc.1;omega) ?_ (.inl (A86 hl));rw[Y5 i (by have:=hc.1;omega)];exact q
theorem PR:gF X (M0 .FloorDiv) CK:=Dg vn0
theorem uy:gF X (M0 .Mod) CI:=Dg wq6
theorem x80:gF X (M0 .Pow) CH:=Dg wq4
theorem CZ:gF X (M0 .LShift) CG:=Dg wq2
theorem Xm:gF X (M0 .RShift) CF:=Dg wq1
theorem J':gF X (M0 .BitAnd) CL:=CW wq9
theorem NB:gF X (M0 .BitOr) Wt:=CW xa6
theorem x77:gF X (M0 .BitXor) CB:=CW wp9
theorem xH:gF X (AQ .Add) (lP λi j=>i+j):=CW we8
theorem cG:gF X (M0 .Add) kg:=rV (zA.or (oK.or (pH.or wq8))) <| by
 rintro x y H Q ⟨d,e,G,q,r1,r2,c,t,f⟩;unfold kg at t;split at t
 ·exact .inl #[_,_,r1.int_inv,r2.int_inv,f _ _ _ _ ae.cz c (Le.refl H) t]
 ·exact .inr (.inl #[_,_,r1.str_inv,r2.str_inv,t.1,f _ _ _ _ ae.zt c (Le.refl H) t.2])
 ·obtain⟨a,xs,rfl,s1,q1⟩:=r1.aK
  obtain⟨b,ys,rfl,s2,q2⟩:=r2.aK;refine .inr (.inr (.inl #[a,b,xs,ys,rfl,rfl,s1,s2,λz=>t.1 ?_,by rw[<- q1.length,<- q2.length];exact t.2.1,λz=>?_,λ_ p hp=>?_]))
  ·have:=q1.length;rw[z] at this;exact D7 this
  ·refine f (.tup _) G (.ref a) _ ?_ c (Le.refl _) t.2.2
   rw[ae];subst z;have e:∀{bs:List D},af X.K H bs []->bs=[]:=λh=>D7 h.length
   rw[e q2,E4];exact#[a,_,rfl,s1,q1]
  ·refine f (.tup _) G (.ref p) _ ?_ (c.side hp) (Le.fresh hp) t.2.2
   rw[ae];exact#[p,_,rfl,dS.of f',af.le (Le.fresh hp) (q1.append q2)]
 ·rename_i a b
  split at t
  ·rename_i xs ys e1 e2
   obtain⟨vs,h1,q1⟩:=c _ _ e1;obtain⟨ws,h2,q2⟩:=c _ _ e2;exact .inr (.inr (.inr #[a,b,vs,ws,r1.ai,r2.ai,h1,h2,by rw[<- q1.length,<- q2.length];exact t.1,λp hp=>f _ _ _ _ ae.fh (c.cL hp (q1.append q2)) (Le.fresh hp) (t.2 p (c.fresh hp))]))
  ·exact t.elim
 ·exact t.elim
theorem nR:gF X (M0 .Mult) vk:=rV (zy.or wq3) <| by
 rintro x y H Q ⟨d,e,G,q,r1,r2,c,t,f⟩;unfold vk at t;split at t
 ·exact .inl #[_,_,r1.int_inv,r2.int_inv,t.1,f _ _ _ _ ae.cz c (Le.refl H) t.2]
 ·rename_i a k
  split at t
  ·rename_i xs e1
   obtain⟨vs,h1,q1⟩:=c _ _ e1;refine .inr #[a,k,vs,r1.ai,r2.int_inv,h1,t.1.1,t.1.2.1,by rw[<- q1.length];exact t.1.2.2,?_];intro p hp;exact f _ _ _ _ ae.fh (c.cL hp (q1.rep _)) (Le.fresh hp) (t.2 p (c.fresh hp))
  ·exact t.elim
 ·exact t.elim
theorem YG{f:Value->Value->Sem Value}{g:Int->Int->Bool}(h:dy X f (qG λi j=>.bl (g i j))):gF X f (λx y G q=>match x,y with|.int i,.int j=>q (.bl (g i j)) G|_,_=>False):=rV h λx y H Q ⟨d,e,G,q,r1,r2,c,t,f⟩=>by
 dsimp only at t;split at t
 ·exact#[_,_,r1.int_inv,r2.int_inv,f _ _ _ _ ae.rO c (Le.refl H) t]
 ·exact t.elim
theorem n_:gF X (O6 .Gt) Wu:=YG xa7
theorem NC:gF X (O6 .GtE) Ww:=YG xa8
theorem jk:gF X (O6 .Lt) ND:=rV (Fz.or va3) <| by
 rintro x y H Q ⟨d,e,G,q,r1,r2,c,t,f⟩;unfold ND at t;split at t
 ·exact .inl #[_,_,r1.int_inv,r2.int_inv,f _ _ _ _ ae.rO c (Le.refl H) t]
 ·exact .inr #[_,_,r1.str_inv,r2.str_inv,f _ _ _ _ ae.rO c (Le.refl H) t]
 ·exact t.elim
def vj:U3:=λx G q=>match x with|.int i=>q (.int (-i)) G|_=>False
theorem CY:xh X (Co .USub) (v_ X.K vj):=YE wk3 <| by
 rintro x H Q ⟨d,G,q,r1,c,t,f⟩;unfold vj at t;split at t
 ·exact#[_,r1.int_inv,f _ _ _ _ ae.cz c (Le.refl H) t]
 ·exact t.elim
def AY:R3:=λx y G q=>match x,y with
 | .tup ds,.int i=>(match da ds i with|some d=>q d G|none=>False)
 | .ref a,.int i=>(match bt (G a) with|some ds=>(match da ds i with|some d=>q d G|none=>False)|none=>False)
 | .str z,.int i=>z.length<=sizeLine/\(match da z.cps.toList i with|some c=>q (.str #[[c].toArray]) G|none=>False)
 | _,_=>False
theorem af.da(h:af K H ds xs)(e:L2.da ds i=some d):∃v,L2.da xs i=some v/\ae K H d v:=by
 rw[CN] at e⊢;rw[<- h.length];cases hj:iU ds.length i with
 | none=>rw[hj] at e;cases e
 | some j =>
  rw[hj] at e;exact h.get e
theorem bQ:rh X (oQ X.K AY):=wj7 wz9 <| by
 rintro x y H Q ⟨d,e,G,q,r1,r2,c,t,f⟩;unfold AY at t;split at t
 ·rename_i ds i
  obtain⟨a,xs,rfl,s1,q1⟩:=r1.aK;split at t
  ·rename_i w ew
   obtain⟨v,hv,rv⟩:=q1.da ew;exact .inr (.inl #[a,xs,i,v,rfl,r2.int_inv,s1,hv,f _ _ _ _ rv c (Le.refl H) t])
  ·exact t.elim
 ·rename_i a i
  split at t
  ·rename_i ds es
   obtain⟨xs,s1,q1⟩:=d_ c es;split at t
   ·rename_i w ew
    obtain⟨v,hv,rv⟩:=q1.da ew;exact .inl #[a,xs,i,v,r1.ai,r2.int_inv,s1,hv,f _ _ _ _ rv c (Le.refl H) t]
   ·exact t.elim
  ·exact t.elim
 ·rename_i z i
  obtain⟨hz,t⟩:=t;split at t
  ·rename_i w ew
   exact .inr (.inr #[z,i,w,r1.str_inv,r2.int_inv,hz,ew,f _ _ _ _ ae.zt c (Le.refl H) t])
  ·exact t.elim
 ·exact t.elim
def cutD{α:Type}(xs:List α)(lo hi:Option Int):List α:=(xs.drop (HT.b9 xs.length 0 lo)).take (HT.b9 xs.length xs.length hi-HT.b9 xs.length 0 lo)
theorem af.cut(h:af K H ds xs)(lo hi:Option Int):af K H (cutD ds lo hi) (nu xs lo hi):=by
 unfold cutD nu;rw[h.length];exact(h.drop _).take _
def yU:pV:=λo i v G q=>match o,i with
 | .ref a,.int k=>(match G a with|some (.lst ds)=>(match iU ds.length k with|some j=>q (aG G a (.lst (ds.set j v)))|none=>False)|_=>False)
 | _,_=>False
theorem xF:rb X (Qb X.K yU):=w03 set_list <| by
 rintro o i v H Q ⟨d,e,x,G,q,r1,r2,r3,c,t,f⟩;unfold yU at t;split at t
 ·rename_i a k
  split at t
  ·rename_i ds e1
   obtain⟨xs,h1,q1⟩:=c _ _ e1;split at t
   ·rename_i j ej
    exact#[a,xs,k,j,r1.ai,r2.int_inv,h1,by rw[<- q1.length];exact ej,f _ _ (c.kP h1 (q1.set r3 j)) (Le.lst h1) t]
   ·exact t.elim
  ·exact t.elim
 ·exact t.elim
end
inductive Sn where
 | non|bl (b:Bool)|int (i:Int)|str (x:Str)|tup (xs:List Sn)|lst (xs:List Sn)
def snap(G:Gp):Nat->D->Option Sn
 | _,.non=>some .non
 | _,.bl b=>some (.bl b)
 | _,.int i=>some (.int i)
 | _,.str x=>some (.str x)
 | n+1,.tup ds=>(ds.mapM (snap G n)).map .tup
 | n+1,.ref a=>(bt (G a)).bind λds=>(ds.mapM (snap G n)).map .lst
 | _,_=>none
def h8:Sn->Bool
 | .non=>true|.bl _=>true|.int _=>true|.str _=>true|_=>false
def LO:Sn->Sn->Bool
 | .non,.non=>true
 | .bl a,.bl b=>a==b
 | .bl a,.int b=>(if a then 1 else 0)==b
 | .int a,.bl b=>a==(if b then 1 else 0)
 | .int a,.int b=>a==b
 | .str a,.str b=>a==b
 | _,_=>false
def fO:Nat->Sn->Sn->Option Bool
 | n+1,.tup xs,.tup ys=>if xs.length=ys.length then((xs.zip ys).mapM λp=>fO n p.1 p.2).map λbs=>bs.all id else none
 | n+1,.lst xs,.lst ys=>if xs.length=ys.length then((xs.zip ys).mapM λp=>fO n p.1 p.2).map λbs=>bs.all id else some false
 | _,x,y=>if(h8 x&&h8 y)=true then some (LO x y) else none
theorem qA{α β:Type}{f:α->Option β}:∀{xs:List α} {ys:List β},xs.mapM f=some ys->xs.length=ys.length/\∀(i:Nat) x,xs[i]?=some x->∃y,ys[i]?=some y/\f x=some y
 | [],ys,h=>by
  have:ys=[]:=by simpa using h.symm
  subst this;exact#[rfl,λi x e=>by simp at e]
 | x::xs,ys,h=>by
  rw[Vy] at h;cases hx:f x with
  | none=>rw[hx] at h;cases h
  | some y =>
   rw[hx] at h;cases hr:xs.mapM f with
   | none=>rw[hr] at h;cases h
   | some r =>
    rw[hr] at h;have e:y::r=ys:=E7 h;subst e;obtain⟨h1,h2⟩:=qA hr;refine#[by simp[h1],λi z e=>?_];cases i with
    | zero=>cases(show x=z from E7 e);exact#[y,rfl,hx]
    | succ i=>exact h2 i z e
theorem Bi{bs:List Bool}{e:Nat->Bool}{n:Nat}(hl:bs.length=n)(h:∀(i:Nat) b,bs[i]?=some b->e i=b):(D1 n).all e=bs.all id:=by
 rw[T9,M9,M9]
 constructor
 ·intro q b hb
  obtain⟨i,hi,eb⟩:=Wc.mp hb;have:=q i (K0.mpr ());rw[h i b (by rw[B7 hi,eb])] at this;exact this
 ·intro q i hi
  have hi:=K0.mp hi;rw[h i bs[i] (B7 ())];exact q _ (N0 _)
section
variable{X:Cx}{pins:List (Addr×Obj)}{σ:L2.St}{H:Hp}{s:Shared}{G:Gp}
theorem Qw{u:Value}(h:snap G n d=some sd)(fl:h8 sd=true)(r:ae X.K H d x):rR x=true/\∀(e:D) (se:Sn) (y:V),snap G n e=some se->h8 se=true->ae X.K H e y->wR x y=LO sd se:=by
  have key:∀(d:D) (sd:Sn) (x:V),snap G n d=some sd->h8 sd=true->ae X.K H d x->(sd=.non/\x=.non)\/(∃b,sd=.bl b/\x=.bl b)\/(∃i,sd=.int i/\x=.int i)\/(∃z,sd=.str z/\x=.str z):=by
    intro d sd x h fl r;cases d with
    | non => have e : Sn.non = sd := by cases n <;> exact Option.some.inj h
             subst e;exact .inl ⟨rfl,r.bq⟩
    | bl b => have e : Sn.bl b = sd := by cases n <;> exact Option.some.inj h
              subst e;exact .inr (.inl ⟨b,rfl,r.bU⟩)
    | int b => have e : Sn.int b = sd := by cases n <;> exact Option.some.inj h
               subst e;exact .inr (.inr (.inl ⟨b,rfl,r.int_inv⟩))
    | str b => have e : Sn.str b = sd := by cases n <;> exact Option.some.inj h
               subst e;exact .inr (.inr (.inr ⟨b,rfl,r.str_inv⟩))
    | tup ds =>
      cases n with
      | zero=>cases h
      | succ n =>
        have h:(ds.mapM (snap G n)).map Sn.tup=some sd:=h;obtain⟨a,_,rfl⟩:=E9.mp h;cases fl
    | ref a =>
      cases n with
      | zero=>cases h
      | succ n =>
        have h:((bt (G a)).bind λds=>(ds.mapM (snap G n)).map Sn.lst)=some sd:=h;obtain⟨ds,_,h⟩:=B00.mp h;obtain⟨a,_,rfl⟩:=E9.mp h;cases fl
    | ty t=>cases n <;> cases h
  rcases key d sd x h fl r with⟨rfl,rfl⟩|⟨b,rfl,rfl⟩|⟨b,rfl,rfl⟩|⟨b,rfl,rfl⟩ <;> refine⟨rfl,λe se y h' fl' r'=>?_⟩ <;>
    rcases key e se y h' fl' r' with⟨rfl,rfl⟩|⟨c,rfl,rfl⟩|⟨c,rfl,rfl⟩|⟨c,rfl,rfl⟩ <;> rfl
theorem uF(h:snap G n (.tup ds)=some sd):∃m ss,n=m+1/\sd=.tup ss/\ds.mapM (snap G m)=some ss:=by
 cases n with
 | zero=>cases h
 | succ n =>
  obtain⟨ss,h1,rfl⟩:=E9.mp (show(ds.mapM (snap G n)).map Sn.tup=some sd from h);exact#[n,ss,rfl,rfl,h1]
theorem uE(h:snap G n (.ref a)=some sd):∃m ds ss,n=m+1/\sd=.lst ss/\bt (G a)=some ds/\ds.mapM (snap G m)=some ss:=by
 cases n with
 | zero=>cases h
 | succ n =>
  obtain⟨ds,h0,h⟩:=B00.mp (show((bt (G a)).bind λds=>(ds.mapM (snap G n)).map Sn.lst)=some sd from h);obtain⟨ss,h1,rfl⟩:=E9.mp h;exact#[n,ds,ss,rfl,rfl,h0,h1]
theorem ZU(hx:h8 x=true):fO n x y=if(h8 x&&h8 y)=true then some (LO x y) else none:=by
 cases x with
 | tup _=>cases hx
 | lst _=>cases hx
 | non=>cases n <;> rfl
 | bl _=>cases n <;> rfl
 | int _=>cases n <;> rfl
 | str _=>cases n <;> rfl
theorem By(h:fO n x y=some b)(fl:¬ (h8 x&&h8 y)=true):(∃m xs ys,n=m+1/\x=.tup xs/\y=.tup ys)\/(∃m xs ys,n=m+1/\x=.lst xs/\y=.lst ys):=by
 unfold fO at h;split at h
 ·exact .inl #[_,_,_,rfl,rfl,rfl]
 ·exact .inr #[_,_,_,rfl,rfl,rfl]
 ·rw[if_neg fl] at h;cases h
theorem xP(h:snap G n d=some (.tup ss)):∃ds,d=.tup ds:=by
 cases d with
 | tup ds=>exact#[ds,rfl]
 | ref a=>obtain⟨_,_,_,_,e',_⟩:=uE h;cases e'
 | _=>cases n <;> cases h
theorem xO(h:snap G n d=some (.lst ss)):∃a,d=.ref a:=by
 cases d with
 | ref a=>exact#[a,rfl]
 | tup ds=>obtain⟨_,_,_,e',_⟩:=uF h;cases e'
 | _=>cases n <;> cases h
theorem uq6(r1:ae X.K H d x)(r2:ae X.K H e x)(h1:snap G n d=some sd)(h2:snap G n e=some se)(hb:fO n sd se=some b)(fl:(h8 sd&&h8 se)=true):b=true:=by
 rw[N8] at fl;have z:=hb;rw[ZU fl.1,if_pos (by rw[fl.1,fl.2];rfl)] at z;obtain⟨fx,k⟩:=Qw (u:=V9) h1 fl.1 r1;rw[<- E7 z,<- k e se x h2 fl.2 r2];cases x with
 | non=>rfl
 | bl b=>exact beq_self_eq_true b
 | int i=>exact beq_self_eq_true i
 | str w=>exact beq_self_eq_true w
 | _=>cases fx
theorem Zu(I:Inv X pins σ H s)(c:b_ X.K G H):∀(n:Nat) (d e:D) (x:V) (sd se:Sn) (b:Bool),ae X.K H d x->ae X.K H e x->snap G n d=some sd->snap G n e=some se->fO n sd se=some b->b=true:=by
 intro n
 induction n with
 | zero =>
  intro d e x sd se b r1 r2 h1 h2 hb
  by_cases fl:(h8 sd&&h8 se)=true
  ·exact uq6 r1 r2 h1 h2 hb fl
  ·rcases By hb fl with⟨_,_,_,z,_⟩|⟨_,_,_,z,_⟩ <;> cases z
 | succ m ih =>
  intro d e x sd se b r1 r2 h1 h2 hb
  by_cases fl:(h8 sd&&h8 se)=true
  ·exact uq6 r1 r2 h1 h2 hb fl
  have items:∀(ds es:List D) (xs:List V) (ss ts:List Sn) (bs:List Bool),af X.K H ds xs->af X.K H es xs->ds.mapM (snap G m)=some ss->es.mapM (snap G m)=some ts->((ss.zip ts).mapM λp=>fO m p.1 p.2)=some bs->bs.all id=true:=by
   intro ds es xs ss ts bs q1 q2 k1 k2 kb;rw[M9];intro b hb;obtain⟨i,hi,eb⟩:=Wc.mp hb;obtain⟨l1,f1⟩:=qA k1;obtain⟨l2,f2⟩:=qA k2;obtain⟨l3,f3⟩:=qA kb;have hz:(ss.zip ts).length=min ss.length ts.length:=JK;have e1:=q1.length;have e2:=q2.length;have uP:i<ds.length:=()
   have GB:i<es.length:=()
   obtain⟨y1,g1,s1⟩:=f1 i ds[i] (B7 uP);obtain⟨y2,g2,s2⟩:=f2 i es[i] (B7 GB);have zO:(ss.zip ts)[i]?=some (y1,y2):=by rw[V0];exact#[g1,g2]
   obtain⟨b',g3,s3⟩:=f3 i _ zO;rw[B7 hi,eb] at g3;cases g3;obtain⟨z1,jM,RD⟩:=q1.get (B7 uP);obtain⟨z2,me,RC⟩:=q2.get (B7 GB);rw[jM] at me;cases me;exact ih ds[i] es[i] z1 y1 y2 b RD RC s1 s2 s3
  rcases By hb fl with⟨m',ss,ts,em,rfl,rfl⟩|⟨m',ss,ts,em,rfl,rfl⟩
  ·cases em
   obtain⟨ds,rfl⟩:=xP h1;obtain⟨es,rfl⟩:=xP h2;obtain⟨_,_,em,ez,k1⟩:=uF h1;cases em;cases ez;obtain⟨_,_,em,ez,k2⟩:=uF h2;cases em;cases ez;obtain⟨a,xs,rfl,q1,nW⟩:=r1.aK;obtain⟨a',ys,e',q2,jJ⟩:=r2.aK;cases e';have:=I.gH q1 q2;subst this;unfold fO at hb;split at hb
   ·obtain⟨bs,kb,rfl⟩:=E9.mp hb
    exact items ds es xs ss ts bs nW jJ k1 k2 kb
   ·cases hb
  ·cases em
   obtain⟨a,rfl⟩:=xO h1;obtain⟨a',rfl⟩:=xO h2;cases r1.ai;have e':=r2.ai;cases e';obtain⟨_,ds,_,em,ez,fW,k1⟩:=uE h1;cases em;cases ez;obtain⟨_,es,_,em,ez,cy,k2⟩:=uE h2;cases em;cases ez;rw[fW] at cy;cases cy;rw[k1] at k2;cases k2;obtain⟨xs,_,rr⟩:=d_ c fW;unfold fO at hb;split at hb
   ·obtain⟨bs,kb,rfl⟩:=E9.mp hb
    exact items ds ds xs ss ss bs rr rr k1 k1 kb
   ·rename_i h;exact absurd rfl h
structure pX(G:Gp)(K:W.Frag)(H:Hp)(m:Nat)(its aW:List Value)(bs:List Bool):Prop where
 len:its.length=aW.length
 bl:bs.length=its.length
 at_:∀(j:Nat) (h1:j<its.length) (h2:j<aW.length) (h3:j<bs.length),∃d e x y sd se,ae K H d x/\RelV x its[j]/\ae K H e y/\RelV y aW[j]/\snap G m d=some sd/\snap G m e=some se/\fO m sd se=some bs[j]
theorem Bv{m:Nat}{ds es:List D}{xs ys:List V}{its aW:List Value}{ss ts:List Sn}{bs:List Bool}(q1:af X.K H ds xs)(v1:Vals xs its)(q2:af X.K H es ys)(v2:Vals ys aW)
  (k1:ds.mapM (snap G m)=some ss) (k2:es.mapM (snap G m)=some ts) (hl:ss.length=ts.length) (kb:((ss.zip ts).mapM λp=>fO m p.1 p.2)=some bs):pX G X.K H m its aW bs:=by
 obtain⟨l1,f1⟩:=qA k1;obtain⟨l2,f2⟩:=qA k2;obtain⟨l3,f3⟩:=qA kb;have hz:(ss.zip ts).length=min ss.length ts.length:=JK;have e1:=q1.length;have e2:=q2.length;have e3:=v1.length;have e4:=v2.length;refine#[(),(),λj h1 h2 h3=>?_];have uP:j<ds.length:=()
 have GB:j<es.length:=()
 obtain⟨y1,g1,s1⟩:=f1 j ds[j] (B7 uP);obtain⟨y2,g2,s2⟩:=f2 j es[j] (B7 GB);have zO:(ss.zip ts)[j]?=some (y1,y2):=by rw[V0];exact#[g1,g2]
 obtain⟨b',g3,s3⟩:=f3 j _ zO;rw[B7 h3] at g3;cases g3;obtain⟨z1,jM,RD⟩:=q1.get (B7 uP);obtain⟨z2,me,RC⟩:=q2.get (B7 GB);obtain⟨u1,hu1,ru1⟩:=v1.get jM;obtain⟨u2,uM,RE⟩:=v2.get me;rw[B7 h1] at hu1;rw[B7 h2] at uM;cases hu1;cases uM;exact#[ds[j],es[j],z1,z2,y1,y2,RD,ru1,RC,RE,s1,s2,s3]
end
section
variable{X:Cx}{pins:List (Addr×Obj)}{σ:L2.St}{H:Hp}{s:Shared}{G:Gp}
theorem Zc(I:Inv X pins σ H s)(r1:ae X.K H d x)(v1:RelV x u)(r2:ae X.K H e y)(v2:RelV y v)(h1:snap G n d=some sd)(h2:snap G n e=some se)(hb:fO n sd se=some b)(fl:(h8 sd&&h8 se)=true):Jw A s u v b:=by
 rw[N8] at fl;have GJ:b=LO sd se:=by
  have z:=hb;rw[ZU fl.1,if_pos (by rw[fl.1,fl.2];rfl)] at z;exact(E7 z).symm
 obtain⟨fx,k⟩:=Qw (u:=u) h1 fl.1 r1;obtain⟨fy,_⟩:=Qw (u:=v) h2 fl.2 r2;rw[GJ,<- k e se y h2 fl.2 r2];exact Xu v1 v2 fx fy
theorem JS(I:Inv X pins σ H s)(c:b_ X.K G H):∀(n:Nat) (A:Around) (d e:D) (x y:V) (u v:Value) (sd se:Sn) (b:Bool),ae X.K H d x->RelV x u->ae X.K H e y->RelV y v->snap G n d=some sd->snap G n e=some se->fO n sd se=some b->A.units+n<cLine->Jw A s u v b:=by
 intro n
 induction n with
 | zero =>
  intro A d e x y u v sd se b r1 v1 r2 v2 h1 h2 hb hu
  by_cases fl:(h8 sd&&h8 se)=true
  ·exact Zc I r1 v1 r2 v2 h1 h2 hb fl
  ·rcases By hb fl with⟨_,_,_,z,_⟩|⟨_,_,_,z,_⟩ <;> cases z
 | succ m ih =>
  intro A d e x y u v sd se b r1 v1 r2 v2 h1 h2 hb hu
  by_cases fl:(h8 sd&&h8 se)=true
  ·exact Zc I r1 v1 r2 v2 h1 h2 hb fl
  ·have inner:∀(its aW:List Value) (bs:List Bool),pX G X.K H m its aW bs->∀j (h1:j<its.toArray.size) (h2:j<aW.toArray.size),Jw A.in1 s its.toArray[j] aW.toArray[j] ((bs[j]?).getD true):=by
    intro its aW bs P j h1 h2;have kX:j<its.length:=by simpa using h1
    have qS:j<aW.length:=by simpa using h2
    have pP:j<bs.length:=by rw[P.bl];exact kX
    obtain⟨d',e',x',y',vO,vN,a1,a2,a3,a4,a5,a6,a7⟩:=P.at_ j kX qS pP
    rw[B7 pP];have FY:A.in1.units+m<cLine:=by
     have:A.in1.units=A.units+1:=rfl;omega
    have:=ih A.in1 d' e' x' y' _ _ vO vN _ a1 a2 a3 a4 a5 a6 a7 FY;simpa using this
   rcases By hb fl with⟨m',ss,ts,em,rfl,rfl⟩|⟨m',ss,ts,em,rfl,rfl⟩
   ·cases em
    obtain⟨ds,rfl⟩:=xP h1;obtain⟨es,rfl⟩:=xP h2;obtain⟨_,_,em,ez,k1⟩:=uF h1;cases em;cases ez;obtain⟨_,_,em,ez,k2⟩:=uF h2;cases em;cases ez;obtain⟨a,xs,rfl,q1,nW⟩:=r1.aK;obtain⟨a',ys,rfl,q2,jJ⟩:=r2.aK;cases v1;cases v2
    by_cases Ca:a=a'
    ·subst Ca
     rw[Zu I c (m+1) (.tup ds) (.tup es) (.ref a) _ _ b r1 r2 h1 h2 hb];exact VE _
    ·unfold fO at hb
     split at hb
     ·rename_i hlen
      obtain⟨bs,kb,rfl⟩:=E9.mp hb;obtain⟨its,w1,t1,_⟩:=I.tuple q1;obtain⟨aW,w2,t2,_⟩:=I.tuple q2;have P:=Bv nW w1 jJ w2 k1 k2 hlen kb;have R:=D08 (A:=A) (s:=s) (e:=λj=>(bs[j]?).getD true) (show s.heap.IsTuple a its.toArray from t1) (show s.heap.IsTuple a' aW.toArray from t2) () (inner its aW bs P);have e1:((D1 (min its.toArray.size aW.toArray.size)).all (λj=>(bs[j]?).getD true)&&its.toArray.size==aW.toArray.size)=bs.all id:=by
       have el:its.toArray.size=aW.toArray.size:=by simpa using P.len
       rw[el,MB,beq_self_eq_true,Vv];exact Bi (by rw[<- el];simpa using P.bl) λi b hb=>by rw[hb];rfl
      rw[e1] at R;exact VZ Ca R
     ·cases hb
   ·cases em
    obtain⟨a,rfl⟩:=xO h1;obtain⟨a',rfl⟩:=xO h2;obtain⟨_,ds,_,em,ez,fW,k1⟩:=uE h1;cases em;cases ez;obtain⟨_,es,_,em,ez,cy,k2⟩:=uE h2;cases em;cases ez;cases r1.ai;cases r2.ai;cases v1;cases v2
    by_cases Ca:a=a'
    ·subst Ca
     rw[Zu I c (m+1) (.ref a) (.ref a) (.ref a) _ _ b r1 r2 h1 h2 hb];exact VE _
    ·obtain⟨xs,q1,nW⟩:=d_ c fW
     obtain⟨ys,q2,jJ⟩:=d_ c cy;obtain⟨its,w1,t1,_⟩:=I.list q1;obtain⟨aW,w2,t2,_⟩:=I.list q2;unfold fO at hb;split at hb
     ·rename_i hlen
      obtain⟨bs,kb,rfl⟩:=E9.mp hb;have P:=Bv nW w1 jJ w2 k1 k2 hlen kb;have el:its.toArray.size=aW.toArray.size:=by simpa using P.len
      have R:=D15 (A:=A) (s:=s) (e:=λj=>(bs[j]?).getD true) t1.isList t2.isList el () (inner its aW bs P);have e1:((D1 its.toArray.size).all (λj=>(bs[j]?).getD true))=bs.all id :=
       Bi (by simpa using P.bl) λi b hb=>by rw[hb];rfl
      rw[e1] at R;exact VZ Ca R
     ·rename_i hlen
      cases hb;have n1:=(qA k1).1;have n2:=(qA k2).1;have m1:=nW.length;have m2:=jJ.length;have m3:=w1.length;have m4:=w2.length;exact VZ Ca (C57 t1.isList t2.isList (by simp;omega) ())
end
def Ed(K:W.Frag)(neg:Bool):R2:=λx y H Q=>∃(d e:D) (G:Gp) (n:Nat) (sd se:Sn) (b:Bool),ae K H d x/\ae K H e y/\b_ K G H/\n<=40/\snap G n d=some sd/\snap G n e=some se/\fO n sd se=some b/\h8 sd=false/\Q (.bl (if neg then !b else b)) H
section
variable{X:Cx}{k:Nat}
theorem wq7(hr:aM k X.A):dy X (O6 .Eq) (Ed X.K false):=by
  intro pins s σ H x y v u Q I rx ry h;obtain⟨d,e,G,n,sd,se,b,r1,r2,c,hn,h1,h2,hb,fl,q⟩:=h;have hu:=hr.units;have fin:EP X pins σ Q (.bool b) s:=#[.bl b,H,I,rfl,q]
  rcases By hb (λz=>by rw[fl] at z;cases z) with⟨m,ss,ts,rfl,rfl,rfl⟩|⟨m,ss,ts,rfl,rfl,rfl⟩
  · obtain⟨ds,rfl⟩:=xP h1
    obtain⟨es,rfl⟩:=xP h2
    · · · obtain ⟨_,pD,em,ez,k1⟩ := uF h1
          cases em;cases ez;obtain⟨m',Rq,em,rM,k2⟩:=uF h2;cases em;cases rM;obtain⟨a,xs,rfl,q1,nW⟩:=r1.aK;obtain⟨a',ys,rfl,q2,jJ⟩:=r2.aK;cases rx;cases ry;unfold fO at hb;split at hb
          · rename_i hlen
            obtain⟨bs,kb,rfl⟩:=E9.mp hb;obtain⟨its,w1,t1,_⟩:=I.tuple q1;obtain⟨aW,w2,t2,_⟩:=I.tuple q2;have P:=Bv nW w1 jJ w2 k1 k2 hlen kb;refine SeqAt.eq_tupleAt (e:=λj=>(bs[j]?).getD true) (show s.heap.IsTuple a its.toArray from t1) (show s.heap.IsTuple a' aW.toArray from t2) () ?_ ?_
            · intro j h1 h2
              have kX:j<its.length:=by simpa using h1
              have qS:j<aW.length:=by simpa using h2
              have pP:j<bs.length:=by rw[P.bl];exact kX
              obtain⟨d',e',x',y',vO,vN,a1,a2,a3,a4,a5,a6,a7⟩:=P.at_ j kX qS pP
              rw[B7 pP];have:=JS I c m X.A.in1 d' e' x' y' _ _ vO vN _ a1 a2 a3 a4 a5 a6 a7 (by have:X.A.in1.units=X.A.units+1:=rfl;omega);simpa using this
            · have e1 : ((List.range (min its.toArray.size aW.toArray.size)).all (fun j => (bs[j]?).getD true) && its.toArray.size == aW.toArray.size) = bs.all id := by
                have el:its.toArray.size=aW.toArray.size:=by simpa using P.len
                rw[el,MB,beq_self_eq_true,Vv];exact Bi (by rw[<- el];simpa using P.bl) λi b hb=>by rw[hb];rfl
              rw[e1];exact fin
          · cases hb
  · obtain⟨a,rfl⟩:=xO h1
    obtain⟨a',rfl⟩:=xO h2
    · · · obtain ⟨_,ds,pD,em,ez,fW,k1⟩ := uE h1
          cases em;cases ez;obtain⟨m',es,Rq,em,rM,cy,k2⟩:=uE h2;cases em;cases rM;cases r1.ai;cases r2.ai;cases rx;cases ry;obtain⟨xs,q1,nW⟩:=d_ c fW;obtain⟨ys,q2,jJ⟩:=d_ c cy;obtain⟨its,w1,t1,_⟩:=I.list q1;obtain⟨aW,w2,t2,_⟩:=I.list q2;unfold fO at hb;split at hb
          · rename_i hlen
            obtain⟨bs,kb,rfl⟩:=E9.mp hb;have P:=Bv nW w1 jJ w2 k1 k2 hlen kb;have el:its.toArray.size=aW.toArray.size:=by simpa using P.len
            refine SeqAt.eq_listAt (e:=λj=>(bs[j]?).getD true) t1.isList t2.isList el () ?_ ?_
            · intro j h1 h2
              have kX:j<its.length:=by simpa using h1
              have qS:j<aW.length:=by simpa using h2
              have pP:j<bs.length:=by rw[P.bl];exact kX
              obtain⟨d',e',x',y',vO,vN,a1,a2,a3,a4,a5,a6,a7⟩:=P.at_ j kX qS pP
              rw[B7 pP];have:=JS I c m X.A.in1 d' e' x' y' _ _ vO vN _ a1 a2 a3 a4 a5 a6 a7 (by have:X.A.in1.units=X.A.units+1:=rfl;omega);simpa using this
            · have e1 : ((List.range its.toArray.size).all (fun j => (bs[j]?).getD true)) = bs.all id :=
                Bi (by simpa using P.bl) λi b hb=>by rw[hb];rfl
              rw[e1];exact fin
          · rename_i hlen
            cases hb;have n1:=(qA k1).1;have n2:=(qA k2).1;have m1:=nW.length;have m2:=jJ.length;have m3:=w1.length;have m4:=w2.length;exact SeqAt.eq_list_lengthsAt t1.isList t2.isList (by simp;omega) () fin
theorem wq5(hr:aM k X.A):dy X (O6 .NotEq) (Ed X.K true):=by
  intro pins s σ H x y v u Q I rx ry h;obtain⟨d,e,G,n,sd,se,b,r1,r2,c,hn,h1,h2,hb,fl,q⟩:=h;have hu:=hr.units;have fin:EP X pins σ Q (.bool (!b)) s:=#[.bl (!b),H,I,rfl,q]
  rcases By hb (λz=>by rw[fl] at z;cases z) with⟨m,ss,ts,rfl,rfl,rfl⟩|⟨m,ss,ts,rfl,rfl,rfl⟩
  · obtain⟨ds,rfl⟩:=xP h1
    obtain⟨es,rfl⟩:=xP h2
    · · · obtain ⟨_,pD,em,ez,k1⟩ := uF h1
          cases em;cases ez;obtain⟨m',Rq,em,rM,k2⟩:=uF h2;cases em;cases rM;obtain⟨a,xs,rfl,q1,nW⟩:=r1.aK;obtain⟨a',ys,rfl,q2,jJ⟩:=r2.aK;cases rx;cases ry;unfold fO at hb;split at hb
          · rename_i hlen
            obtain⟨bs,kb,rfl⟩:=E9.mp hb;obtain⟨its,w1,t1,_⟩:=I.tuple q1;obtain⟨aW,w2,t2,_⟩:=I.tuple q2;have P:=Bv nW w1 jJ w2 k1 k2 hlen kb;refine C97 (e:=λj=>(bs[j]?).getD true) (show s.heap.IsTuple a its.toArray from t1) (show s.heap.IsTuple a' aW.toArray from t2) () ?_ X.prog X.w X.xe _ ?_
            · intro j h1 h2
              have kX:j<its.length:=by simpa using h1
              have qS:j<aW.length:=by simpa using h2
              have pP:j<bs.length:=by rw[P.bl];exact kX
              obtain⟨d',e',x',y',vO,vN,a1,a2,a3,a4,a5,a6,a7⟩:=P.at_ j kX qS pP
              rw[B7 pP];have:=JS I c m X.A.in1 d' e' x' y' _ _ vO vN _ a1 a2 a3 a4 a5 a6 a7 (by have:X.A.in1.units=X.A.units+1:=rfl;omega);simpa using this
            · have e1 : ((List.range (min its.toArray.size aW.toArray.size)).all (fun j => (bs[j]?).getD true) && its.toArray.size == aW.toArray.size) = bs.all id := by
                have el:its.toArray.size=aW.toArray.size:=by simpa using P.len
                rw[el,MB,beq_self_eq_true,Vv];exact Bi (by rw[<- el];simpa using P.bl) λi b hb=>by rw[hb];rfl
              rw[e1];exact fin
          · cases hb
  · obtain⟨a,rfl⟩:=xO h1
    obtain⟨a',rfl⟩:=xO h2
    · · · obtain ⟨_,ds,pD,em,ez,fW,k1⟩ := uE h1
          cases em;cases ez;obtain⟨m',es,Rq,em,rM,cy,k2⟩:=uE h2;cases em;cases rM;cases r1.ai;cases r2.ai;cases rx;cases ry;obtain⟨xs,q1,nW⟩:=d_ c fW;obtain⟨ys,q2,jJ⟩:=d_ c cy;obtain⟨its,w1,t1,_⟩:=I.list q1;obtain⟨aW,w2,t2,_⟩:=I.list q2;unfold fO at hb;split at hb
          · rename_i hlen
            obtain⟨bs,kb,rfl⟩:=E9.mp hb;have P:=Bv nW w1 jJ w2 k1 k2 hlen kb;have el:its.toArray.size=aW.toArray.size:=by simpa using P.len
            refine D03 (e:=λj=>(bs[j]?).getD true) t1.isList t2.isList el () ?_ X.prog X.w X.xe _ ?_
            · intro j h1 h2
              have kX:j<its.length:=by simpa using h1
              have qS:j<aW.length:=by simpa using h2
              have pP:j<bs.length:=by rw[P.bl];exact kX
              obtain⟨d',e',x',y',vO,vN,a1,a2,a3,a4,a5,a6,a7⟩:=P.at_ j kX qS pP
              rw[B7 pP];have:=JS I c m X.A.in1 d' e' x' y' _ _ vO vN _ a1 a2 a3 a4 a5 a6 a7 (by have:X.A.in1.units=X.A.units+1:=rfl;omega);simpa using this
            · have e1 : ((List.range its.toArray.size).all (fun j => (bs[j]?).getD true)) = bs.all id :=
                Bi (by simpa using P.bl) λi b hb=>by rw[hb];rfl
              rw[e1];exact fin
          · rename_i hlen
            cases hb;have n1:=(qA k1).1;have n2:=(qA k2).1;have m1:=nW.length;have m2:=jJ.length;have m3:=w1.length;have m4:=w2.length;exact C22 t1.isList t2.isList (by simp;omega) () X.prog X.w X.xe _ fin
end
structure FnAt(K:W.Frag)(x qual:Str)(st:Stmt)(ps:List Str) where
 a:Addr
 fd:vf
 ex:∃(oc:Value) (od:Option Addr) (dV kV doc pm:Value) (an:Option Addr) (il ct:Value) (xX:Array (Option Value)),
  fd=W.fnOf x qual (rB st) (pB st) (bA st) dV kV doc pm an il ct/\K.lookup a=some #[oc,od,.func fd,xX]/\W.codeIn K il qual=true
 kp:W.keepIn K (.ref a)=true
 b:Binds K fd ps []
abbrev Ok(P:Program)(w:World){K:W.Frag}(mg:Str->Option Value)(base:Heap)(n:Nat){x qual:Str}{st:Stmt}{ps:List Str}(d:FnAt K x qual st ps)(S:fY):Prop:=bG P w K mg base nZ n d.a d.fd ps (lR K S)
def Br(N:List Str)(ds:List D):gD:=ds.map some++D0 (N.length-ds.length) none
theorem v22{K:W.Frag}{H:Hp}{N:List Str}{ds:List D}{vs:List V}(r:af K H ds vs):bL K H (Br N ds) (L2.start N vs):=by
 unfold Br L2.start;refine#[by simp[r.length],λi d e=>?_]
 by_cases hi:i<ds.length
 ·rw[F8 (by simpa using hi),F0] at e
  rw[F8 (by simpa[<- r.length] using hi),F0];cases h:ds[i]? with
  | none=>rw[h] at e;cases e
  | some d' =>
   rw[h] at e;cases e;obtain⟨v,hv,rv⟩:=r.get h;exact#[v,by rw[hv];rfl,rv]
 ·rw[E8 (by simpa using hi),Wr] at e
  split at e <;> cases e
section
variable{P:Program}{w:World}{K:W.Frag}{mg:Str->Option Value}{base:Heap}
theorem C_{x qual:Str}{st:Stmt}{ps N:List Str}{k:Nat}(d:FnAt K x qual st ps){S:fY}(sc:ag N ps (bA st))(hl:∀ds G R,S ds G R->ds.length=ps.length){t:fz}
  (ht:∀(il:Value) (A:Around) (outer:List Env) (s:Shared) (H:Hp) (E:XK),aM k (A.deeper (envOfC qual (bA st) s.heap.objs.size d.a il))->qZ (pe nZ P w K mg base N qual (bA st) d.a il A outer s H E).vX (pB st) t)
  (hb:∀ds G R,S ds G R->t { nx:=λ_ G'=>R .non G',rt:=R} (Br N ds) G):Ok P w mg base (k+1) d S:=by
 obtain⟨oc,od,dV,kV,doc,pm,an,il,ct,xX,e,lk,uQ⟩:=d.ex;have lk':K.lookup d.a=some #[oc,od,.func (W.fnOf x qual (rB st) (pB st) (bA st) dV kV doc pm an il ct),xX]:=e▸lk;have F:bG P w K mg base nZ (k+1) d.a (W.fnOf x qual (rB st) (pB st) (bA st) dV kV doc pm an il ct) ps (lR K S):=by
  refine xb2 lk' uQ sc (λvs H Q E h=>?_) λA outer s H vs Q E hr h=>?_
  ·obtain⟨ds,G,R,r,_,hS,_⟩:=h
   rw[<- r.length];exact hl ds G R hS
  ·obtain⟨ds,G,R,r,c,hS,f⟩:=h
   refine#[_,(show nX _ _ _ from ht il A outer s H E hr).vX,Br N ds,G,_,v22 r,c,hb ds G R hS,λσd' G' σ' H' _ c' l' q=>?_,f,λ_ _ _ _ _ _ _ q=>q.elim,λ_ _ _ _ _ _ _ q=>q.elim];exact f .non G' .non H' ae.vY c' l' q
 have F2:=F;rw[<- e] at F2;exact F2
end
section
variable{X:Cx}{e o:Expr}{es:List Expr}{p pos apos:Pos}{ta:bw}{ts:dz}{k n:Nat}{S:fY}{x m qual:Str}{st:Stmt}{ps:List Str}{C:Addr}
theorem ec(d:FnAt X.K x qual st ps)(hm:X.mg x=some (.ref d.a))(G:bG X.prog X.w X.K X.mg X.base nZ k d.a d.fd ps (lR X.K S))(hr:aM k X.A)(ha:A3 X (e::es) ts)(hg:Gl X x:=by rfl)(gR:(x==("__debug__" :Str))=false:=by decide)
  (he:C5 (e::es) X.env=(false,eval e X.env)::C5 es X.env:=by rfl) (bZ:(backTo pos (C5 es X.env)).any (·.1)=false:=by rfl):E3 X (.Call (.Name x p) (e::es) [] pos) (j5 S [] ts) :=
 x21 G hr hg hm d.kp d.b .nil (λ_=>.nil) ha gR he bZ
theorem em(c:ja X.K C)(d:FnAt X.K m qual st ps)(hm:Meth X.K C m d.a)(G:bG X.prog X.w X.K X.mg X.base nZ k d.a d.fd ps (lR X.K S))(hr:aM k X.A)(he:E3 X o ta)(ha:A3 X (e::es) ts)
  (wx:C5 (e::es) X.env=(false,eval e X.env)::C5 es X.env:=by rfl) (bZ:(backTo pos (C5 es X.env)).any (·.1)=false:=by rfl)
  (ht:eval (.Call (.Attribute o m apos) (e::es) [] pos) X.env=(do
   let ov <- eval o X.env
   vd apos.atName
   let (f,first) <- holding [ov] (yQ ov m pl)
   Cp pos f first (backTo pos (C5 (e::es) X.env)) (V8 pos (P4 [] X.env))):=by rfl):E3 X (.Call (.Attribute o m apos) (e::es) [] pos) (A_ C m S [] ta ts) :=
 x17 he c hm G hr d.b .nil (λ_=>.nil) ha wx bZ ht
theorem lM(c:ja X.K C)(d:FnAt X.K m qual st ps)(hm:Meth X.K C m d.a)(G:bG X.prog X.w X.K X.mg X.base nZ k d.a d.fd ps (lR X.K S))(hr:aM k X.A)(he:E3 X o ta)
  (ht:eval (.Call (.Attribute o m apos) [] [] pos) X.env=(do
   let ov <- eval o X.env
   vd apos.atName
   let (f,first) <- holding [ov] (yQ ov m pl)
   Cp pos f first (backTo pos (C5 [] X.env)) (V8 pos (P4 [] X.env))):=by rfl):E3 X (.Call (.Attribute o m apos) [] [] pos) (A_ C m S [] ta nk) :=
 wf8 he c hm G hr d.b .nil (λ_=>.nil) ht
end
def spec(pre:List D->Gp->Prop)(post:List D->Gp->D->Gp->Prop):fY:=λds G R=>pre ds G/\∀d G',post ds G d G'->R d G'
theorem v78{pre:List D->Gp->Prop}{post:List D->Gp->D->Gp->Prop}{ds:List D}{G:Gp}{q:DK}(h:pre ds G)(k:∀d G',post ds G d G'->q d G'):∃R,spec pre post ds G R/\∀d G',R d G'->q d G' :=
 #[post ds G,#[h,λ_ _ z=>z],k]
def WJ(Lm:Scope)(N N':List Str)(ix:List (Option Nat))(scope:Scope):Bool :=
 (scope.kind == .function)&&scope.names.all (λy=>y.2 != .cell)&&scope.names.all (λy=>y.2 != .local||scope.names.lookup y.1==some .local) &&
 scope.names.all (λy=>y.2 != .free||Lm.names.lookup y.1==some .cell||Lm.names.lookup y.1==some .free)&&(ix.length==N'.length) &&
 (N'.zip ix).all (λp=>match p.2 with|none=>true|some j=>N[j]?==some p.1&&scope.names.lookup p.1==some .free)
theorem jh{X:Cx}(h1:X.env.scope=Lm)(h2:X.N=N)(h:WJ Lm N N' ix scope=true):jc X N' ix scope:=by
 unfold WJ at h;simp only[N8] at h;obtain⟨⟨⟨⟨⟨a1,a2⟩,a3⟩,a4⟩,a5⟩,a6⟩:=h;rw[M9] at a2 a3 a4 a6;refine#[eq_of_beq a1,λy hy=>by simpa using a2 y hy,λy hy e=>?_,λy hy e=>?_,eq_of_beq a5,λi j x e1 e2=>?_]
 ·have:=a3 y hy
  simp only[e,bne_self_eq_false,Z8] at this;exact eq_of_beq this
 ·have:=a4 y hy
  simp only[e,bne_self_eq_false,Z8,Bool.or_eq_true,beq_iff_eq] at this;unfold Env.kindOf;rw[h1];exact this
 ·have hz:(N'.zip ix)[i]?=some (x,some j):=by rw[V0];exact#[e1,e2]
  have:=a6 _ (K4 hz);simp only[N8,beq_iff_eq] at this;rw[h2];exact this
section
variable{X:Cx}{K:W.Frag}{H:Hp}
def Ks:Hv:=λx lo hi G q=>match x with
 | .ref a=>(match bt (G a) with|some ds=>∀p,G p=none->q (.ref p) (aG G p (.lst (cutD ds lo hi)))|none=>False)
 | .tup ds=>¬ (HT.b9 ds.length 0 lo=0/\HT.b9 ds.length ds.length hi=ds.length)/\q (.tup (cutD ds lo hi)) G
 | _=>False
theorem yR:q_ X (JV X.K Ks):=YC (vL.or wm3) <| by
 rintro x lo hi H Q ⟨d,G,q,r1,c,t,f⟩;unfold Ks at t;split at t
 ·rename_i a
  split at t
  ·rename_i ds e
   obtain⟨xs,s1,q1⟩:=d_ c e;exact .inl #[a,xs,r1.ai,s1,λp hp=>f _ _ _ _ ae.fh (c.cL hp (q1.cut lo hi)) (Le.fresh hp) (t p (c.fresh hp))]
  ·exact t.elim
 ·rename_i ds
  obtain⟨a,xs,rfl,s1,q1⟩:=r1.aK;refine .inr #[a,xs,rfl,s1,by rw[<- q1.length];exact t.1,λp hp=>?_];refine f (.tup _) G (.ref p) _ ?_ (c.side hp) (Le.fresh hp) t.2;rw[ae];exact#[p,_,rfl,dS.of f',af.le (Le.fresh hp) (q1.cut lo hi)]
 ·exact t.elim
def vm:C3:=λds G q=>match ds with
 | [.str z]=>z.length<=sizeLine/\q (.int z.length) G
 | [.tup xs]=>q (.int xs.length) G
 | [.ref a]=>(match bt (G a) with|some xs=>q (.int xs.length) G|none=>False)
 | _=>False
theorem af.one(h:af K H [d] vs):∃v,vs=[v]/\ae K H d v:=by
 obtain⟨x,r,rfl,h1,h2⟩:=h.aj;rw[h2.aR];exact#[x,rfl,h1]
theorem af.two(h:af K H [d,e] vs):∃v u,vs=[v,u]/\ae K H d v/\ae K H e u:=by
 obtain⟨x,r,rfl,h1,h2⟩:=h.aj;obtain⟨y,rfl,h3⟩:=h2.one;exact#[x,y,rfl,h1,h3]
theorem eL:Call3 X (.builtin "len") vm:=nV (k9.or us3) <| by
 rintro xs H Q ⟨ds,G,q,r,c,t,f⟩;unfold vm at t;split at t
 ·obtain⟨v,rfl,r1⟩:=r.one
  cases r1.str_inv;exact .inr #[_,rfl,t.1,f _ _ _ _ ae.cz c (Le.refl H) t.2]
 ·obtain⟨v,rfl,r1⟩:=r.one
  obtain⟨a,ys,rfl,s1,q1⟩:=r1.aK;refine .inl #[a,ys,rfl,.inr s1,?_];rw[<- q1.length];exact f _ _ _ _ ae.cz c (Le.refl H) t
 ·obtain⟨v,rfl,r1⟩:=r.one
  cases r1.ai;split at t
  ·rename_i ds e
   obtain⟨ys,s1,q1⟩:=d_ c e;refine .inl #[_,ys,rfl,.inl s1,?_];rw[<- q1.length];exact f _ _ _ _ ae.cz c (Le.refl H) t
  ·exact t.elim
 ·exact t.elim
def yW:C3:=λds G q=>match ds with|[.int i]=>q (.int (if i<0 then -i else i)) G|_=>False
theorem x83:Call3 X (.builtin "abs") yW:=nV vr8 <| by
 rintro xs H Q ⟨ds,G,q,r,c,t,f⟩;unfold yW at t;split at t
 ·obtain⟨v,rfl,r1⟩:=r.one
  cases r1.int_inv;exact#[_,rfl,f _ _ _ _ ae.cz c (Le.refl H) t]
 ·exact t.elim
def QF:C3:=λds G q=>match ds with|[.int i,.int j]=>xt i j/\q (.tup [.int (i / j),.int (i%j)]) G|_=>False
theorem vj7:Call3 X (.builtin "divmod") QF:=nV uv8 <| by
 rintro xs H Q ⟨ds,G,q,r,c,t,f⟩;unfold QF at t;split at t
 ·obtain⟨v,u,rfl,r1,r2⟩:=r.two
  cases r1.int_inv;cases r2.int_inv;refine#[_,_,rfl,t.1,λp hp=>f (.tup _) G (.ref p) _ ?_ (c.side hp) (Le.fresh hp) t.2];rw[ae];exact#[p,_,rfl,dS.of f',.cons ae.cz (.cons ae.cz .nil)]
 ·exact t.elim
def PL:C3:=λds G q=>match ds with|[.int i,.int j]=>q (.int (if j>i then j else i)) G|_=>False
def PQ:C3:=λds G q=>match ds with|[.int i,.int j]=>q (.int (if j<i then j else i)) G|_=>False
theorem wj3(hc:X.calm=true:=by rfl):Call3 X (.builtin "max") PL:=nV (vh7 hc) <| by
 rintro xs H Q ⟨ds,G,q,r,c,t,f⟩;unfold PL at t;split at t
 ·obtain⟨v,u,rfl,r1,r2⟩:=r.two
  cases r1.int_inv;cases r2.int_inv;exact#[_,_,rfl,f _ _ _ _ ae.cz c (Le.refl H) t]
 ·exact t.elim
theorem YI(hc:X.calm=true:=by rfl):Call3 X (.builtin "min") PQ:=nV (vh5 hc) <| by
 rintro xs H Q ⟨ds,G,q,r,c,t,f⟩;unfold PQ at t;split at t
 ·obtain⟨v,u,rfl,r1,r2⟩:=r.two
  cases r1.int_inv;cases r2.int_inv;exact#[_,_,rfl,f _ _ _ _ ae.cz c (Le.refl H) t]
 ·exact t.elim
def Kt:C3:=λds G q=>match ds with|[.int i]=>q (.int i) G|[.bl b]=>q (.int (if b then 1 else 0)) G|_=>False
theorem KJ:Call3 X (.type "int") Kt:=nV vh9 <| by
 rintro xs H Q ⟨ds,G,q,r,c,t,f⟩;unfold Kt at t;split at t
 ·obtain⟨v,rfl,r1⟩:=r.one
  cases r1.int_inv;exact .inl #[_,rfl,f _ _ _ _ ae.cz c (Le.refl H) t]
 ·obtain⟨v,rfl,r1⟩:=r.one
  cases r1.bU;exact .inr #[_,rfl,f _ _ _ _ ae.cz c (Le.refl H) t]
 ·exact t.elim
def KI:C3:=λds G q=>match ds with
 | [.tup xs]=>∀p,G p=none->q (.ref p) (aG G p (.lst xs))
 | [.ref a]=>(match bt (G a) with|some xs=>∀p,G p=none->q (.ref p) (aG G p (.lst xs))|none=>False)
 | _=>False
theorem QZ:Call3 X (.type "list") KI:=nV us2 <| by
 rintro xs H Q ⟨ds,G,q,r,c,t,f⟩;unfold KI at t;split at t
 ·obtain⟨v,rfl,r1⟩:=r.one
  obtain⟨a,ys,rfl,s1,q1⟩:=r1.aK;exact#[a,ys,rfl,.inr s1,λp hp=>f _ _ _ _ ae.fh (c.cL hp q1) (Le.fresh hp) (t p (c.fresh hp))]
 ·obtain⟨v,rfl,r1⟩:=r.one
  cases r1.ai;split at t
  ·rename_i ds e
   obtain⟨ys,s1,q1⟩:=d_ c e;exact#[_,ys,rfl,.inl s1,λp hp=>f _ _ _ _ ae.fh (c.cL hp q1) (Le.fresh hp) (t p (c.fresh hp))]
  ·exact t.elim
 ·exact t.elim
def Dw:C3:=λds G q=>match ds with
 | [.tup xs]=>q (.tup xs) G
 | [.ref a]=>(match bt (G a) with|some xs=>q (.tup xs) G|none=>False)
 | _=>False
theorem zo:Call3 X (.type "tuple") Dw:=nV uo5 <| by
 rintro xs H Q ⟨ds,G,q,r,c,t,f⟩;unfold Dw at t;split at t
 ·obtain⟨v,rfl,r1⟩:=r.one
  obtain⟨a,ys,rfl,s1,q1⟩:=r1.aK;exact#[a,ys,rfl,.inr #[s1,f _ _ _ _ r1 c (Le.refl H) t]]
 ·obtain⟨v,rfl,r1⟩:=r.one
  cases r1.ai;split at t
  ·rename_i ds e
   obtain⟨ys,s1,q1⟩:=d_ c e;refine#[_,ys,rfl,.inl #[s1,λp hp=>f (.tup _) G (.ref p) _ ?_ (c.side hp) (Le.fresh hp) t]];rw[ae];exact#[p,_,rfl,dS.of f',af.le (Le.fresh hp) q1]
  ·exact t.elim
 ·exact t.elim
def y0:List D->Option (List Bool)
 | []=>some []
 | .bl b::r=>(y0 r).map (b::·)
 | _=>none
theorem us9:∀{ds:List D} {bs:List Bool} {vs:List V},y0 ds=some bs->af K H ds vs->vs=bs.map V.bl
 | [],bs,vs,e,r=>by cases e;rw[r.aR];rfl
 | .bl b::ds,bs,vs,e,r=>by
  obtain⟨x,xs,rfl,h1,h2⟩:=r.aj;obtain⟨wZ,e',rfl⟩:=E9.mp (show(y0 ds).map (b::·)=some bs from e);rw[h1.bU,us9 e' h2];rfl
 | .non::_,_,_,e,_=>by cases e
 | .int _::_,_,_,e,_=>by cases e
 | .str _::_,_,_,e,_=>by cases e
 | .tup _::_,_,_,e,_=>by cases e
 | .ref _::_,_,_,e,_=>by cases e
 | .ty _::_,_,_,e,_=>by cases e
def rP:C3:=λds G q=>match ds with
 | [.ref a]=>(match bt (G a) with|some xs=>(match y0 xs with|some bs=>q (.bl (bs.all id)) G|none=>False)|none=>False)
 | _=>False
theorem x82(hc:X.calm=true:=by rfl):Call3 X (.builtin "all") rP:=nV (vr7 hc) <| by
 rintro xs H Q ⟨ds,G,q,r,c,t,f⟩;unfold rP at t;split at t
 ·obtain⟨v,rfl,r1⟩:=r.one
  cases r1.ai;split at t
  ·rename_i ds e
   obtain⟨ys,s1,q1⟩:=d_ c e;split at t
   ·rename_i bs eb
    have:=us9 eb q1;subst this;exact#[_,bs,rfl,s1,f _ _ _ _ ae.rO c (Le.refl H) t]
   ·exact t.elim
  ·exact t.elim
 ·exact t.elim
def xG:List D->Option (List Int)
 | []=>some []
 | .int b::r=>(xG r).map (b::·)
 | _=>none
theorem K_:∀{ds:List D} {bs:List Int} {vs:List V},xG ds=some bs->af K H ds vs->vs=bs.map V.int
 | [],bs,vs,e,r=>by cases e;rw[r.aR];rfl
 | .int b::ds,bs,vs,e,r=>by
  obtain⟨x,xs,rfl,h1,h2⟩:=r.aj;obtain⟨wZ,e',rfl⟩:=E9.mp (show(xG ds).map (b::·)=some bs from e);rw[h1.int_inv,K_ e' h2];rfl
 | .non::_,_,_,e,_=>by cases e
 | .bl _::_,_,_,e,_=>by cases e
 | .str _::_,_,_,e,_=>by cases e
 | .tup _::_,_,_,e,_=>by cases e
 | .ref _::_,_,_,e,_=>by cases e
 | .ty _::_,_,_,e,_=>by cases e
def yT:C3:=λds G q=>match ds with
 | [.ref a]=>(match bt (G a) with|some xs=>(match xG xs with|some bs=>q (.int bs.sum) G|none=>False)|none=>False)
 | _=>False
theorem x78(hc:X.calm=true:=by rfl):Call3 X (.builtin "sum") yT:=nV (vr6 hc) <| by
 rintro xs H Q ⟨ds,G,q,r,c,t,f⟩;unfold yT at t;split at t
 ·obtain⟨v,rfl,r1⟩:=r.one
  cases r1.ai;split at t
  ·rename_i ds e
   obtain⟨ys,s1,q1⟩:=d_ c e;split at t
   ·rename_i bs eb
    have:=K_ eb q1;subst this;exact#[_,bs,rfl,s1,f _ _ _ _ ae.cz c (Le.refl H) t]
   ·exact t.elim
  ·exact t.elim
 ·exact t.elim
def zb(G:Gp):D->Option String
 | .non=>some "NoneType"
 | .bl _=>some "bool"
 | .int _=>some "int"
 | .str _=>some "str"
 | .ref a=>match G a with|some (.lst _)=>some "list"| some (.qV _)=>some "list"| some (.bN _)=>some "dict"| _=>none
 | _=>none
def QG:C3:=λds G q=>match ds with
 | [x,.ty T]=>(T = "int" \/ T = "str" \/ T = "bool" \/ T = "list" \/ T = "tuple" \/ T = "dict")/\(match zb G x with|some n=>q (.bl (qC n T)) G|none=>False)
 | _=>False
theorem KW:Call3 X (.builtin "isinstance") QG:=nV uv7 <| by
 rintro xs H Q ⟨ds,G,q,r,c,t,f⟩;unfold QG at t;split at t
 ·rename_i d T
  obtain⟨v,u,rfl,r1,r2⟩:=r.two;rw[ae] at r2;subst r2;obtain⟨hT,t⟩:=t;split at t
  ·rename_i n en
   refine#[v,n,T,rfl,?_,hT,f _ _ _ _ ae.rO c (Le.refl H) t];unfold zb at en;split at en
   ·cases r1.bq;cases en;rfl
   ·cases r1.bU;cases en;rfl
   ·cases r1.int_inv;cases en;rfl
   ·cases r1.str_inv;cases en;rfl
   ·rename_i a
    cases r1.ai;split at en
    ·rename_i xs ea;cases en;obtain⟨ys,h1,_⟩:=c _ _ ea;exact .inl #[rfl,.inl #[ys,h1]]
    ·rename_i xs ea;cases en;obtain⟨o,ys,h1,_⟩:=c _ _ ea;exact .inl #[rfl,.inr #[o,ys,h1]]
    ·rename_i xs ea;cases en;obtain⟨ys,h1,_⟩:=c _ _ ea;exact .inr (.inr #[rfl,ys,h1])
    ·cases en
   ·cases en
  ·exact t.elim
 ·exact t.elim
theorem Kd(hm:X.mg x=none)(hv:Q6 x=some (.type T))(hg:Gl X x:=by rfl)(hn:x ≠ "__name__" := by decide)(hd:(x==("__debug__" :Str))=false:=by decide):E3 X (.Name x pos) (dC (.ty T)) :=
 dA (wb8 (v:=.ty T) hg hm hv rfl hn hd) λ_ _ _=>CT λ_=>by rw[ae]
def CJ:R3:=λx y G q=>match y with
 | .non=>(match x with|.non=>q (.bl true) G|_=>q (.bl false) G)
 | .bl b=>(match x with|.bl c=>q (.bl (decide (c=b))) G|_=>q (.bl false) G)
 | _=>False
def ZF:R3:=λx y G q=>match y with
 | .non=>(match x with|.non=>q (.bl false) G|_=>q (.bl true) G)
 | .bl b=>(match x with|.bl c=>q (.bl (!decide (c=b))) G|_=>q (.bl true) G)
 | _=>False
theorem ZO:decide (V.bl c=V.bl b)=decide (c=b):=by cases c <;> cases b <;> rfl
end
def wm(n:Nat)(t:pj):pq:=λd σ G q=>match d with
 | .tup ds=>ds.length=n/\t ds σ G q
 | .ref a=>(match bt (G a) with|some ds=>ds.length=n/\t ds σ G q|none=>False)
 | _=>False
def vp(te:bw):pW:=λσ G r=>te σ G λx G1=>match x with
 | .ref a=>(match bt (G1 a) with|some ds=>r #[ds,λG=>bt (G a)=some ds] G1|none=>False)
 | .tup ds=>r #[ds,λ_=>True] G1
 | _=>False
section
variable{X:Cx}{es:List Expr}{e tg:Expr}{te:bw}{pos:Pos}
theorem Bc(hc:X.calm=true)(h:LY X es t)(hn:(R5 es X.env).length=n:=by rfl)(oW:(R5 es X.env).findIdx? (·.1)=none:=by rfl):J3 X (.Tuple es k pos) (wm n t) :=
 PJ (x98 (wo5 hc h hn oW) (wa9 hc h hn oW)) λv σ H Q hh=>by
  obtain⟨d,σd,G,q,r,rs,c,t,f⟩:=hh;unfold wm at t;split at t
  ·rename_i ds
   obtain⟨a,xs,rfl,s,r2⟩:=r.aK;exact .inl #[a,xs,rfl,s,by rw[<- r2.length];exact t.1,ds,σd,G,q,r2,rs,c,t.2,f]
  ·rename_i a
   split at t
   ·rename_i ds e
    obtain⟨xs,s,r'⟩:=d_ c e;exact .inr #[a,xs,r.ai,s,by rw[<- r'.length];exact t.1,ds,σd,G,q,r',rs,c,t.2,f]
   ·exact t.elim
  ·exact t.elim
theorem jG(h:E3 X e te):I3 X tg e (vp te):=xD (wo3 h) λσ H R hh=>by
 obtain⟨σd,G,q,rs,c,t,f⟩:=hh;refine#[σd,G,_,rs,c,t,λx G1 v H1 r1 c1 l1 t1=>?_];split at t1
 ·rename_i a
  split at t1
  ·rename_i ds e
   obtain⟨xs,s,_⟩:=d_ c1 e;exact#[a,r1.ai,.inl #[#[xs,s],f _ _ _ _ v36 c1 l1 t1]]
  ·exact t1.elim
 ·rename_i ds
  obtain⟨a,xs,rfl,s,r⟩:=r1.aK;exact#[a,rfl,.inr #[#[xs,s],f _ _ _ _ (vd8 s r) c1 l1 t1]]
 ·exact t1.elim
end
section
variable{X:Cx}{e o:Expr}{es:List Expr}{to:bw}{ts:dz}{apos aJ:Pos}
theorem ty_list(K:W.Frag):∀G H x v,b_ K G H->ae K H x v->ko G "list" x->DC K "list" v H:=by
 intro G H x v c r t;cases x with
 | ref a =>
  cases r.ai;cases e:G a with
  | none=>simp[ko,e] at t
  | some o =>
   cases o with
   | lst ds=>obtain⟨xs,s,_⟩:=d_ (ds:=ds) c (by rw[e];rfl);exact .inl #[rfl,xs,s]
   | qV ds=>obtain⟨xs,s,_⟩:=d_ (ds:=ds) c (by rw[e];rfl);exact .inl #[rfl,xs,s]
   | bN _=>simp[ko,e] at t
   | GZ _=>simp[ko,e] at t
   | pQ _=>simp[ko,e] at t
   | ins _ _=>simp[ko,e] at t
   | exc _ _=>simp[ko,e] at t
   | o6 _ _=>simp[ko,e] at t
   | tb _ _=>simp[ko,e] at t
 | str _=>simp[ko] at t
 | int _=>simp[ko] at t
 | _=>exact t.elim
def Di:M3:=λx ds G q=>match x,ds with
 | .ref a,[d]=>(match G a with|some (.lst xs)=>xs.length<sizeLine/\q .non (aG G a (.lst (xs++[d])))|_=>False)
 | _,_=>False
theorem qz(ho:E3 X o to)(ha:A3 X (e::es) ts)(cB:O1 o "append" X.env (eval o X.env)=eval o X.env:=by rfl)
  (gQ:((backTo aJ (C5 (e::es) X.env)).all (λx=>!x.1)&&(V8 aJ (P4 [] X.env)).all (λx=>x.1.isSome)
   && decide ((e::es).length+([]:List Keyword).length+(if([]:List Keyword).isEmpty then 0 else 1)<30))=true:=by rfl)
  (cA:(apos.endLine==aJ.line)=true:=by rfl) (hs:C5 (e::es) X.env=(false,eval e X.env)::C5 es X.env:=by rfl) (fM:(backTo aJ (C5 es X.env)).any (·.1)=false:=by rfl) :
  E3 X (.Call (.Attribute o "append" apos) (e::es) [] aJ) (Ce "list" Di to ts) :=
 dA (NX B01 PySem.F.slot_list_append PySem.F.type_list_append (Qq (r':=wb X.K Di) ur3 <| by
  rintro x xs H Q ⟨d,ds,G,q,r1,r2,c,t,f⟩;unfold Di at t;split at t
  ·rename_i a d'
   split at t
   ·rename_i ys ea
    cases r1.ai;obtain⟨v,rfl,rv⟩:=r2.one;obtain⟨zs,h1,q1⟩:=c _ _ ea;exact#[a,zs,v,rfl,rfl,h1,by rw[<- q1.length];exact t.1,f _ _ _ _ ae.vY (c.kP h1 (q1.append (.cons rv .nil))) (Le.lst h1) t.2]
   ·exact t.elim
  ·exact t.elim) ho ha cB gQ cA hs fM) λ_ _ _=>Qc (ty_list X.K)
def Kz:M3:=λx ds G q=>match x,ds with
 | .ref a,[.ref b]=>(match G a,G b with|some (.lst xs),some (.lst ys)=>xs.length+ys.length<=sizeLine/\q .non (aG G a (.lst (xs++ys)))|_,_=>False)
 | _,_=>False
theorem KO(ho:E3 X o to)(ha:A3 X (e::es) ts)(cB:O1 o "extend" X.env (eval o X.env)=eval o X.env:=by rfl)
  (gQ:((backTo aJ (C5 (e::es) X.env)).all (λx=>!x.1)&&(V8 aJ (P4 [] X.env)).all (λx=>x.1.isSome)
   && decide ((e::es).length+([]:List Keyword).length+(if([]:List Keyword).isEmpty then 0 else 1)<30))=true:=by rfl)
  (cA:(apos.endLine==aJ.line)=true:=by rfl) (hs:C5 (e::es) X.env=(false,eval e X.env)::C5 es X.env:=by rfl) (fM:(backTo aJ (C5 es X.env)).any (·.1)=false:=by rfl) :
  E3 X (.Call (.Attribute o "extend" apos) (e::es) [] aJ) (Ce "list" Kz to ts) :=
 dA (NX B01 PySem.F.slot_list_extend PySem.F.type_list_extend (Qq (r':=wb X.K Kz) vb2 <| by
  rintro x xs H Q ⟨d,ds,G,q,r1,r2,c,t,f⟩;unfold Kz at t;split at t
  ·rename_i a b
   split at t
   ·rename_i ys zs ea eb
    cases r1.ai;obtain⟨v,rfl,rv⟩:=r2.one;cases rv.ai;obtain⟨us,h1,q1⟩:=c _ _ ea;obtain⟨ws,h2,q2⟩:=c _ _ eb;exact#[a,b,us,ws,rfl,rfl,h1,h2,by rw[<- q1.length,<- q2.length];exact t.1,f _ _ _ _ ae.vY (c.kP h1 (q1.append q2)) (Le.lst h1) t.2]
   ·exact t.elim
  ·exact t.elim) ho ha cB gQ cA hs fM) λ_ _ _=>Qc (ty_list X.K)
def wc9:M3:=λx ds G q=>match x,ds with
 | .ref a,[]=>(match G a with|some (.lst _)=>q .non (aG G a (.lst []))|_=>False)
 | _,_=>False
end
def fZ(neg:Bool):R3:=λx y G q=>match x,y with
 | .int i,.int j=>q (.bl (if neg then !decide (i=j) else decide (i=j))) G
 | .str i,.str j=>q (.bl (if neg then !decide (i=j) else decide (i=j))) G
 | .bl i,.bl j=>q (.bl (if neg then !decide (i=j) else decide (i=j))) G
 | .non,.non=>q (.bl (!neg)) G
 | .non,.int _=>q (.bl neg) G
 | .int _,.non=>q (.bl neg) G
 | .non,.bl _=>q (.bl neg) G
 | .bl _,.non=>q (.bl neg) G
 | .non,.str _=>q (.bl neg) G
 | .str _,.non=>q (.bl neg) G
 | .int _,.str _=>q (.bl neg) G
 | .str _,.int _=>q (.bl neg) G
 | .tup xs,.tup ys=>∃n sd se b,n<=40/\snap G n (.tup xs)=some sd/\snap G n (.tup ys)=some se/\fO n sd se=some b/\q (.bl (if neg then !b else b)) G
 | .ref a,.ref c=>∃n sd se b,n<=40/\snap G n (.ref a)=some sd/\snap G n (.ref c)=some se/\fO n sd se=some b/\q (.bl (if neg then !b else b)) G
 | _,_=>False
section
variable{X:Cx}{k:Nat}
theorem ZP:decide (V.int i=V.int j)=decide (i=j):=by
 by_cases h:i=j
 ·subst h;simp
 ·simp[h]
theorem ZQ:decide (V.str i=V.str j)=decide (i=j):=by
 by_cases h:i=j
 ·subst h;simp
 ·simp[h]
theorem u91(h:snap G n (.tup xs)=some sd):h8 sd=false:=by
 obtain⟨_,_,_,rfl,_⟩:=uF h;rfl
theorem u92(h:snap G n (.ref a)=some sd):h8 sd=false:=by
 obtain⟨_,_,_,_,rfl,_⟩:=uE h;rfl
theorem aV(hr:aM k X.A):gF X (O6 .Eq) (fZ false):=rV (FA.or (wq7 hr)) <| by
 rintro x y H Q ⟨d,e,G,q,r1,r2,c,t,f⟩;have fin:∀b,q (.bl b) G->Q (.bl b) H:=λb z=>f _ _ _ _ ae.rO c (Le.refl H) z
 unfold fZ at t;split at t
 ·cases r1.int_inv;cases r2.int_inv;exact .inl #[rfl,by rw[ZP];exact fin _ t]
 ·cases r1.str_inv;cases r2.str_inv;exact .inl #[rfl,by rw[ZQ];exact fin _ t]
 ·cases r1.bU;cases r2.bU;exact .inl #[rfl,by rw[ZO];exact fin _ t]
 ·cases r1.bq;cases r2.bq;exact .inl #[rfl,fin _ t]
 ·cases r1.bq;cases r2.int_inv;exact .inl #[rfl,fin _ t]
 ·cases r1.int_inv;cases r2.bq;exact .inl #[rfl,fin _ t]
 ·cases r1.bq;cases r2.bU;exact .inl #[rfl,fin _ t]
 ·cases r1.bU;cases r2.bq;exact .inl #[rfl,fin _ t]
 ·cases r1.bq;cases r2.str_inv;exact .inl #[rfl,fin _ t]
 ·cases r1.str_inv;cases r2.bq;exact .inl #[rfl,fin _ t]
 ·cases r1.int_inv;cases r2.str_inv;exact .inl #[rfl,fin _ t]
 ·cases r1.str_inv;cases r2.int_inv;exact .inl #[rfl,fin _ t]
 ·obtain⟨n,sd,se,b,hn,h1,h2,hb,t⟩:=t
  exact .inr #[_,_,G,n,sd,se,b,r1,r2,c,hn,h1,h2,hb,u91 h1,fin _ t]
 ·obtain⟨n,sd,se,b,hn,h1,h2,hb,t⟩:=t
  exact .inr #[_,_,G,n,sd,se,b,r1,r2,c,hn,h1,h2,hb,u92 h1,fin _ t]
 ·exact t.elim
theorem ke(hr:aM k X.A):gF X (O6 .NotEq) (fZ true):=rV (Fx.or (wq5 hr)) <| by
 rintro x y H Q ⟨d,e,G,q,r1,r2,c,t,f⟩;have fin:∀b,q (.bl b) G->Q (.bl b) H:=λb z=>f _ _ _ _ ae.rO c (Le.refl H) z
 unfold fZ at t;split at t
 ·cases r1.int_inv;cases r2.int_inv;exact .inl #[rfl,by rw[ZP];exact fin _ t]
 ·cases r1.str_inv;cases r2.str_inv;exact .inl #[rfl,by rw[ZQ];exact fin _ t]
 ·cases r1.bU;cases r2.bU;exact .inl #[rfl,by rw[ZO];exact fin _ t]
 ·cases r1.bq;cases r2.bq;exact .inl #[rfl,fin _ t]
 ·cases r1.bq;cases r2.int_inv;exact .inl #[rfl,fin _ t]
 ·cases r1.int_inv;cases r2.bq;exact .inl #[rfl,fin _ t]
 ·cases r1.bq;cases r2.bU;exact .inl #[rfl,fin _ t]
 ·cases r1.bU;cases r2.bq;exact .inl #[rfl,fin _ t]
 ·cases r1.bq;cases r2.str_inv;exact .inl #[rfl,fin _ t]
 ·cases r1.str_inv;cases r2.bq;exact .inl #[rfl,fin _ t]
 ·cases r1.int_inv;cases r2.str_inv;exact .inl #[rfl,fin _ t]
 ·cases r1.str_inv;cases r2.int_inv;exact .inl #[rfl,fin _ t]
 ·obtain⟨n,sd,se,b,hn,h1,h2,hb,t⟩:=t
  exact .inr #[_,_,G,n,sd,se,b,r1,r2,c,hn,h1,h2,hb,u91 h1,fin _ t]
 ·obtain⟨n,sd,se,b,hn,h1,h2,hb,t⟩:=t
  exact .inr #[_,_,G,n,sd,se,b,r1,r2,c,hn,h1,h2,hb,u92 h1,fin _ t]
 ·exact t.elim
end
section
variable{X:Cx}{e:Expr}{es:List Expr}{p pos:Pos}{ts:dz}{k:Nat}{S:fY}{x m qual:Str}{st:Stmt}{ps:List Str}{C:Addr}
theorem emk{xi qi:Str}{d:FnAt X.K xi qi st ps}(M:Mk X.K C d.a)(hm:X.mg x=some (.ref C))(G:bG X.prog X.w X.K X.mg X.base nZ k d.a d.fd ps (lR X.K S))(hr:aM (k+1) X.A)(ha:A3 X (e::es) ts)(hg:Gl X x:=by rfl)(gR:(x==("__debug__" :Str))=false:=by decide)
  (he:C5 (e::es) X.env=(false,eval e X.env)::C5 es X.env:=by rfl) (bZ:(backTo pos (C5 es X.env)).any (·.1)=false:=by rfl):E3 X (.Call (.Name x p) (e::es) [] pos) (CO C S [] ts) :=
 Xt M G hr hg hm d.b .nil (λ_=>.nil) ha gR he bZ
end
section
variable{X:Cx}{e:Expr}{es:List Expr}{p pos:Pos}{ts:dz}{k:Nat}{S:fY}{x m qual:Str}{st:Stmt}{ps:List Str}{C f:Addr}{fd:vf}
theorem Ue(M:Mk X.K C f)(hm:X.mg x=some (.ref C))(hd:∃t,Binds X.K fd ps [.int i t])(G:bG X.prog X.w X.K X.mg X.base nZ k f fd ps (lR X.K S))(hr:aM (k+1) X.A)(ha:A3 X (e::es) ts)(hg:Gl X x:=by rfl)(gR:(x==("__debug__" :Str))=false:=by decide)
  (he:C5 (e::es) X.env=(false,eval e X.env)::C5 es X.env:=by rfl) (bZ:(backTo pos (C5 es X.env)).any (·.1)=false:=by rfl):E3 X (.Call (.Name x p) (e::es) [] pos) (CO C S [.int i] ts):=by
 obtain⟨t,hb⟩:=hd;exact Xt (eE:=[.int i]) M G hr hg hm hb (.cons #[t,rfl] .nil) (λ_=>.cons ae.cz .nil) ha gR he bZ
theorem zg(h:∃t,X.mg x=some (.int i t))(hg:Gl X x:=by rfl)(gR:(x==("__debug__" :Str))=false:=by decide):E3 X (.Name x pos) (dC (.int i)):=by
 obtain⟨t,h⟩:=h;exact x19 hg h (v:=.int i) #[t,rfl] (λ_=>ae.cz) gR
end
theorem iJ{c A B:Prop}[Decidable c](h1:c->A)(h2:¬ c->B):if decide c=true then A else B:=by
 by_cases h:c
 ·simpa[h] using h1 h
 ·simpa[h] using h2 h
theorem v79:bt (some (.lst xs))=some xs:=rfl
theorem v80:bt (some (.qV xs))=some xs:=rfl
theorem NH{α:Type}{x:α}{xs:List α}:da (x::xs) 0=some x:=rfl
theorem xc1{α:Type}{x y:α}{xs:List α}:da (x::y::xs) 1=some y:=rfl
theorem xc0{α:Type}{x y z:α}{xs:List α}:da (x::y::z::xs) 2=some z:=rfl
theorem xb9{α:Type}{x y z u:α}{xs:List α}:da (x::y::z::u::xs) 3=some u:=rfl
theorem xb8{α:Type}{x y z u v:α}{xs:List α}:da (x::y::z::u::v::xs) 4=some v:=rfl
theorem x03:iU 3 0=some 0:=rfl
theorem x02:iU 3 1=some 1:=rfl
theorem x01:iU 3 2=some 2:=rfl
theorem x05:iU 2 0=some 0:=rfl
theorem x04:iU 2 1=some 1:=rfl
theorem x00{n j:Nat}(h:j<n):iU n (j:Int)=some j:=by
 unfold iU;rw[if_pos (),if_pos ()];simp
theorem we7{n:Nat}{i:Int}(h0:0<=i)(h:i<n):iU n i=some i.toNat:=by
 unfold iU;rw[if_pos h0,if_pos h]
theorem YS{α:Type}{xs:List α}{i:Int}(h0:0<=i)(h:i<xs.length):da xs i=some (xs[i.toNat]'()):=by
 rw[CN,we7 h0 h];exact B7 _
theorem wi3{α β:Type}{f:α->β}{xs:List α}{i:Int}(h0:0<=i)(h:i<xs.length):da (xs.map f) i=some (f (xs[i.toNat]'())):=by
 rw[YS h0 (by simpa using h)];simp
theorem zd(h0:0<=i)(h:i<18446744073709551616):jb i j:=.inl #[(),()]
theorem Xr(h0:0<=j)(h:j<=1000):nO 1 j:=#[h0,(),∅]
end L3
namespace L3
theorem rC{S:fY}{ds:List D}{G G1:Gp}{v:D}{q:DK}(h:∀R:DK,R v G1->S ds G R)(k:q v G1):∃R,S ds G R/\∀d G',R d G'->q d G' :=
 #[λd G'=>d=v/\G'=G1,h _ #[rfl,rfl],λ_ _ ⟨e1,e2⟩=>by subst e1;subst e2;exact k]
theorem rW{S:fY}{ds:List D}{G:Gp}{post:DK}{q:DK}(h:∀R:DK,(∀d G',post d G'->R d G')->S ds G R)(k:∀d G',post d G'->q d G'):∃R,S ds G R/\∀d G',R d G'->q d G' :=
 #[post,h _ λ_ _ z=>z,k]
theorem lE{E:j'}(I:List D->gD->Gp->Prop)(h0:I items σ G)(nil:∀σ G,I [] σ G->ok G/\E.nx σ G)
  (cons:∀x r σ G,I (x::r) σ G->(∀σ' G',I r σ' G'->forL ok g tb E r σ' G')->ok G/\g x σ G λσ1 G1=>tb { E with nx:=forL ok g tb E r,ct:=forL ok g tb E r,bk:=E.nx} σ1 G1):forL ok g tb E items σ G:=by
 induction items generalizing σ G with
 | nil=>exact nil σ G h0
 | cons x r ih=>exact cons x r σ G h0 λσ' G' h=>ih h
theorem kj(I:List D->gD->Gp->Prop)(h0:I items σ G)(nil:∀σ G,I [] σ G->ok G/\q (.ref p) G)
  (cons:∀x r σ G,I (x::r) σ G->(∀σ' G',I r σ' G'->uw ok g tc te p q r σ' G')->ok G/\g x σ G λσ2 G2=>tc σ2 G2 λb G3 =>
   if b=true then te σ2 G3 λd G4=>(match G4 p with|some (.lst ys)=>ys.length<PySem.sizeLine/\uw ok g tc te p q r σ2 (aG G4 p (.lst (ys++[d])))|_=>False)
   else uw ok g tc te p q r σ2 G3):uw ok g tc te p q items σ G:=by
 induction items generalizing σ G with
 | nil=>exact nil σ G h0
 | cons x r ih=>exact cons x r σ G h0 λσ' G' h=>ih h
theorem Rj(I:Nat->gD->Gp->Prop)(h0:I m σ G)
  (step:∀m σ G N,I m σ G->(∀σ' G' m',m=m'+1->I m' σ' G'->N σ' G')->c σ G λb G1=>if b=true then tb { E with nx:=N,ct:=N,bk:=E.nx} σ G1 else E.nx σ G1):PX c tb E σ G:=by
 refine#[m+1,?_]
 induction m generalizing σ G with
 | zero=>exact step 0 σ G (yX c tb E 0) h0 λσ' G' m' e=>absurd e ()
 | succ m ih=>exact step (m+1) σ G (yX c tb E (m+1)) h0 λσ' G' m' e h=>ih (by cases e;exact h)
end L3
namespace L3
open PySem
theorem eJ:(C4 a=C4 b)=(a=b):=propext #[λh=>by
 rw[B19,B19] at h;injection h with h
 exact String.ext (List.map_inj_right (λx y e=>Char.ext (UInt32.toNat_inj.mp e)) |>.mp (congrArg Vp h)),λh=>by rw[h]]
theorem str_beq:(C4 a==C4 b)=decide (a=b):=by
 rw[T9,beq_iff_eq,decide_eq_true_iff,eJ]
end L3
namespace Rw
open PySem PyProof.Rows L2 L3
inductive nY where
 | num (n:Int)|box (y:Nat)
 deriving DecidableEq
inductive Row where
 | add (x:Nat) (o:nY)|take (x:Nat) (o:nY)|turn (x i:Nat) (cs:List (Nat×Nat))|swap (x y:Nat)|go (x:Nat) (n:Int) (k:Nat)|aL (x:Nat) (n:Int) (k:Nat)
 deriving DecidableEq
def nY.d:nY->D
 | .num n=>.tup [.str "num",.int n]
 | .box y=>.tup [.str "box",.int (y:Int)]
def cd(c:Nat×Nat):D:=.tup [.int (c.1:Int),.int (c.2:Int)]
def Row.d:Row->D
 | .add x o=>.tup [.str "add",.int (x:Int),o.d]
 | .take x o=>.tup [.str "take",.int (x:Int),o.d]
 | .turn x i cs=>.tup [.str "turn",.int (x:Int),.int (i:Int),.tup (cs.map cd)]
 | .swap x y=>.tup [.str "swap",.int (x:Int),.int (y:Int)]
 | .go x n k=>.tup [.str "go",.int (x:Int),.int n,.int (k:Int)]
 | .aL x n k=>.tup [.str "come",.int (x:Int),.int n,.int (k:Int)]
def nY.ok(sz x:Nat):nY->Prop
 | .num n=>0<=n/\n<4294967296
 | .box y=>y<sz/\y≠x
def Row.ok(sz:Nat):Row->Prop
 | .add x o=>x<sz/\o.ok sz x
 | .take x o=>x<sz/\o.ok sz x
 | .turn x i cs=>x<sz/\i<32/\cs.length<=2/\∀c∈cs,c.1<sz/\c.1≠x/\c.2<32
 | .swap x y=>x<sz/\y<sz/\y≠x
 | .go x n _=>x<sz/\0<=n/\n<4294967296
 | .aL x n _=>x<sz/\0<=n/\n<4294967296
def Row.plain:Row->Bool
 | .go _ _ _=>false
 | .aL _ _ _=>false
 | _=>true
def gt(bs:List Int)(x:Nat):Int:=bs.getD x 0
def bit(v:Int)(j:Nat):Int:=v / 2^j%2
def fq(v:Int)(i:Nat):Int:=v+2^i*(1-2*bit v i)
def val(bs:List Int):nY->Int
 | .num n=>n
 | .box y=>gt bs y
def con(bs:List Int)(cs:List (Nat×Nat)):Bool:=cs.all λc=>!decide (bit (gt bs c.1) c.2=0)
def cH(s:Int)(bs:List Int):Row->List Int
 | .add x o=>bs.set x ((gt bs x+s*val bs o)%4294967296)
 | .take x o=>bs.set x ((gt bs x-s*val bs o)%4294967296)
 | .turn x i cs=>if con bs cs=true then bs.set x (fq (gt bs x) i) else bs
 | .swap x y=>(bs.set x (gt bs y)).set y (gt bs x)
 | .go _ _ _=>bs
 | .aL _ _ _=>bs
structure cM(sz:Nat)(bs:List Int):Prop where
 len:bs.length=sz
 BI:∀v∈bs,0<=v/\v<4294967296
theorem Bl{bs:List Int}(h:x<bs.length):gt bs x=bs[x]:=by unfold gt;rw[J0,B7 h];rfl
theorem ze(h:cM sz bs)(hx:x<sz):0<=gt bs x/\gt bs x<4294967296:=by
 rw[Bl (by rw[h.len];exact hx)];exact h.BI _ (N0 _)
theorem lC{bs:List Int}(h:x<bs.length):gt (bs.set x v) y=if y=x then v else gt bs y:=by
 unfold gt;rw[J0,J0,B86]
 by_cases e:x=y
 ·subst e;simp[h]
 ·rw[if_neg e,if_neg (D8 e)]
theorem rY{bs:List Int}{x:Nat}(h:x<bs.length):da (bs.map D.int) (x:Int)=some (.int (gt bs x)):=by
 rw[uB (v:=.int (gt bs x))];rw[F0,B7 h,Bl h];rfl
theorem Dx{bs:List Int}{x:Nat}(h:x<bs.length):iU (bs.map D.int).length (x:Int)=some x:=x00 (by simpa using h)
theorem vM{bs:List Int}{x:Nat}{v:Int}:(bs.map D.int).set x (.int v)=(bs.set x v).map D.int:=by rw[C65]
theorem uo8{rs:List Row}{x:Nat}{r:Row}(h:rs[x]?=some r):da (rs.map Row.d) (x:Int)=some r.d:=uB (by rw[F0,h];rfl)
theorem v53:JH v (1*2^i)=fq v i:=by
 rw[Ms,bitXor_and,W.kbt_bit];unfold fq bit;rw[C83,Mu,C66 (2^i) (2*(v / 2^i%2)),Int.mul_assoc 2 (v / 2^i%2) (2^i)];omega
theorem vi5:R7 (v / 2^j) 1=bit v j:=by rw[bitAnd_m1];rfl
theorem Bj(v:Int)(j:Nat):bit v j=0\/bit v j=1:=by unfold bit;omega
theorem pow_pos(i:Nat):(0:Int)<2^i:=Int.pow_pos ∅
theorem v77(v:Int)(i:Nat):∃a r:Int,v=2^i*(2*a+bit v i)+r/\0<=r/\r<2^i:=by
 refine#[v / 2^i / 2,v%2^i,?_,JJ _ (C67 (pow_pos i)),X8 _ (pow_pos i)];have h1:=Int.mul_ediv_add_emod v (2^i);have h2:2*(v / 2^i / 2)+bit v i=v / 2^i:=by unfold bit;omega
 rw[h2];omega
theorem x23{a r p:Int}(hp:0<p)(h0:0<=r)(h1:r<p):(p*a+r) / p=a:=by
 rw[Int.add_comm,Int.add_mul_ediv_left _ _ (C67 hp),Int.ediv_eq_zero_of_lt h0 h1];omega
theorem Xx(v:Int)(i:Nat):∃a r:Int,v=2^i*(2*a+bit v i)+r/\fq v i=2^i*(2*a+(1-bit v i))+r/\0<=r/\r<2^i:=by
 obtain⟨a,r,h,h0,h1⟩:=v77 v i;refine#[a,r,h,?_,h0,h1];have e:fq v i=v+2^i*(1-2*bit v i):=rfl;rw[e]
 rcases Bj v i with hb|hb
 ·rw[hb] at h⊢
  have:(2:Int)^i*(1-2*0)=2^i:=()
  have e2:(2:Int)^i*(2*a+(1-0))=2^i*(2*a+0)+2^i:=by rw[Mr,Mr];omega
  omega
 ·rw[hb] at h⊢
  have:(2:Int)^i*(1-2*1)=- 2^i:=()
  have e2:(2:Int)^i*(2*a+1)=2^i*(2*a+(1-1))+2^i:=by rw[Mr,Mr];omega
  omega
theorem wi1(v:Int)(i:Nat):bit (fq v i) i=1-bit v i:=by
 obtain⟨a,r,h,e,h0,h1⟩:=Xx v i
 show fq v i / 2^i%2=_
 rw[e,x23 (pow_pos i) h0 h1]
 rcases Bj v i with hb|hb <;> rw[hb] <;> omega
theorem wf6(v:Int)(i:Nat):fq (fq v i) i=v:=by
 have e:fq (fq v i) i=fq v i+2^i*(1-2*bit (fq v i) i):=rfl;rw[e,wi1];have e2:fq v i=v+2^i*(1-2*bit v i):=rfl;rw[e2];have:(1-2*(1-bit v i))=-(1-2*bit v i):=()
 rw[this,Int.mul_neg];omega
theorem wf5(hi:i<32)(h0:0<=v)(h1:v<4294967296):0<=fq v i/\fq v i<4294967296:=by
 obtain⟨a,r,h,e,r0,r1⟩:=Xx v i;have hp:=pow_pos i;have ha:0<=a:=by
  by_cases q:0<=a
  ·exact q
  ·have:(2:Int)^i*(2*a+bit v i)<=2^i*(-1):=X5 (by rcases Bj v i with hb|hb <;> omega) (MA hp)
   omega
 have hq:(4294967296:Int)=2^i*(2*2^(31-i)):=by
  have e1:(2:Int)*2^(31-i)=2^(32-i):=by
   rw[C66,<- Int.pow_succ];congr 1;omega
  rw[e1,<- Int.pow_add];have:i+(32-i)=32:=()
  rw[this];rfl
 have ha2:a<2^(31-i):=by
  by_cases q:a<2^(31-i)
  ·exact q
  ·have:(2:Int)^i*(2*2^(31-i))<=2^i*(2*a+bit v i):=X5 (by rcases Bj v i with hb|hb <;> omega) (MA hp)
   omega
 rw[e]
 constructor
 ·have:0<=(2:Int)^i*(2*a+(1-bit v i)):=Int.mul_nonneg (MA hp) (by rcases Bj v i with hb|hb <;> omega)
  omega
 ·have:(2:Int)^i*(2*a+(1-bit v i))<=2^i*(2*2^(31-i)-1):=X5 (by rcases Bj v i with hb|hb <;> omega) (MA hp)
  rw[C83,<- hq] at this;omega
theorem Qn{r:Row}(h:cM sz bs)(hr:r.ok sz):cM sz (cH s bs r):=by
 have setOk:∀{cs:List Int} {x:Nat} {v:Int},cM sz cs->0<=v->v<4294967296->cM sz (cs.set x v):=λ{cs x v} h h0 h1 =>
  #[by rw[J5];exact h.len,λu hu=>by
   rcases A75 hu with q|q
   ·exact h.BI u q
   ·subst q;exact⟨h0,h1⟩]
 cases r with
 | add x o=>exact setOk h (JJ _ ∅) (X8 _ ∅)
 | take x o=>exact setOk h (JJ _ ∅) (X8 _ ∅)
 | turn x i cs =>
  show cM sz (if con bs cs=true then bs.set x (fq (gt bs x) i) else bs)
  split
  ·obtain⟨hx,hi,_⟩:=hr
   obtain⟨a,b⟩:=ze h hx;obtain⟨c,d⟩:=wf5 hi a b;exact setOk h c d
  ·exact h
 | swap x y =>
  obtain⟨hx,hy,_⟩:=hr;obtain⟨a,b⟩:=ze h hx;obtain⟨c,d⟩:=ze h hy;exact setOk (setOk h c d) a b
 | go _ _ _=>exact h
 | aL _ _ _=>exact h
theorem Bw{bs:List Int}{x:Nat}(h:x<bs.length):bs.set x (gt bs x)=bs:=by
 rw[Bl h,List.set_getElem_self]
theorem ux3{s:Int}(hs:s=1\/s=-1){sz:Nat}{bs:List Int}{r:Row}(h:cM sz bs)(hr:r.ok sz):cH (-s) (cH s bs r) r=bs:=by
 have hl:=h.len;cases r with
 | add x o =>
  obtain⟨hx,ho⟩:=hr;have hv:val (bs.set x ((gt bs x+s*val bs o)%4294967296)) o=val bs o:=by
   cases o with
   | num n=>rfl
   | box y=>show gt _ y=gt bs y;rw[lC (),if_neg ho.2]
  show(bs.set x _).set x ((gt (bs.set x _) x+-s*val (bs.set x _) o)%4294967296)=bs
  rw[hv,lC (),if_pos rfl,JF];have hg:=ze h hx;have e:((gt bs x+s*val bs o)%4294967296+-s*val bs o)%4294967296=gt bs x:=by
   rw[C84];omega
  rw[e,Bw ()]
 | take x o =>
  obtain⟨hx,ho⟩:=hr;have hv:val (bs.set x ((gt bs x-s*val bs o)%4294967296)) o=val bs o:=by
   cases o with
   | num n=>rfl
   | box y=>show gt _ y=gt bs y;rw[lC (),if_neg ho.2]
  show(bs.set x _).set x ((gt (bs.set x _) x - -s*val (bs.set x _) o)%4294967296)=bs
  rw[hv,lC (),if_pos rfl,JF];have hg:=ze h hx;have e:((gt bs x-s*val bs o)%4294967296 - -s*val bs o)%4294967296=gt bs x:=by
   rw[C84];omega
  rw[e,Bw ()]
 | turn x i cs =>
  obtain⟨hx,hi,_,hc⟩:=hr
  show(if con (if con bs cs=true then bs.set x (fq (gt bs x) i) else bs) cs=true then _ else _)=bs
  by_cases hb:con bs cs=true
  ·have TM:con (bs.set x (fq (gt bs x) i)) cs=true:=by
    unfold con at hb⊢;rw[M9] at hb⊢;intro c BX;rw[lC (),if_neg (hc c BX).2.1];exact hb c BX
   show(if con (if con bs cs=true then bs.set x (fq (gt bs x) i) else bs) cs=true then(if con bs cs=true then bs.set x (fq (gt bs x) i) else bs).set x (fq (gt (if con bs cs=true then bs.set x (fq (gt bs x) i) else bs) x) i) else(if con bs cs=true then bs.set x (fq (gt bs x) i) else bs))=bs
   rw[if_pos hb,if_pos TM,lC (),if_pos rfl,JF,wf6,Bw ()]
  ·show(if con (if con bs cs=true then bs.set x (fq (gt bs x) i) else bs) cs=true then(if con bs cs=true then bs.set x (fq (gt bs x) i) else bs).set x (fq (gt (if con bs cs=true then bs.set x (fq (gt bs x) i) else bs) x) i) else(if con bs cs=true then bs.set x (fq (gt bs x) i) else bs))=bs
   rw[if_neg hb,if_neg hb]
 | swap x y =>
  obtain⟨hx,hy,eC⟩:=hr
  show(((bs.set x (gt bs y)).set y (gt bs x)).set x (gt ((bs.set x (gt bs y)).set y (gt bs x)) y)).set y (gt ((bs.set x (gt bs y)).set y (gt bs x)) x)=bs
  rw[lC (by rw[J5];omega),if_pos rfl,lC (by rw[J5];omega),if_neg (D8 eC),lC (),if_pos rfl];rw[ML _ _ eC,JF,ML _ _ (D8 eC)];have e1:(bs.set x (gt bs y)).set x (gt bs x)=bs:=by rw[JF,Bw ()]
  rw[ML _ _ eC] at *
  first
   | (rw[e1];exact Bw ())
   | (rw[ML _ _ (D8 eC),e1];exact Bw ())
 | go _ _ _=>rfl
 | aL _ _ _=>rfl
end Rw
namespace Rw
open PySem L2 L3
theorem uj7:∀ks:List Int,(ks.map D.int).mapM (snap G 0)=some (ks.map Sn.int)
 | []=>rfl
 | k::ks=>by
  rw[C0,Vy,uj7 ks];rfl
theorem uq4{G:Gp}{a:Addr}{ks:List Int}(h:bt (G a)=some (ks.map .int)):snap G 1 (.ref a)=some (.lst (ks.map .int)):=by
 show((bt (G a)).bind λds=>(ds.mapM (snap G 0)).map Sn.lst)=_
 rw[h,B02,uj7];rfl
theorem Xw:∀ks ms:List Int,ks.length=ms.length->∃bs,(((ks.map Sn.int).zip (ms.map Sn.int)).mapM λp=>fO 0 p.1 p.2)=some bs/\bs.all id=decide (ks=ms)
 | [],[],_=>#[[],rfl,rfl]
 | [],_::_,h=>by simp at h
 | _::_,[],h=>by simp at h
 | k::ks,m::ms,h=>by
  obtain⟨bs,e,q⟩:=Xw ks ms (by simpa using h);refine#[(k==m)::bs,?_,?_]
  ·rw[C0,C0,P8,Vy,e]
   rfl
  ·rw[U6,q]
   by_cases hk:k=m
   ·subst hk;simp
   ·simp[hk]
theorem wf7{ks ms:List Int}:fO 1 (.lst (ks.map .int)) (.lst (ms.map .int))=some (decide (ks=ms)):=by
 show(if(ks.map Sn.int).length=(ms.map Sn.int).length then(((ks.map Sn.int).zip (ms.map Sn.int)).mapM λp=>fO 0 p.1 p.2).map (λbs=>bs.all id) else some false)=_
 by_cases h:ks.length=ms.length
 ·rw[if_pos (by simpa using h)]
  obtain⟨bs,e,q⟩:=Xw ks ms h;rw[e,Option.map_some,q]
 ·rw[if_neg (by simpa using h)]
  have:ks≠ms:=λe=>h (by rw[e])
  simp[this]
theorem vr4{G:Gp}{a b:Addr}{ks ms:List Int}{Q:Bool->Prop}(h1:bt (G a)=some (ks.map .int))(h2:bt (G b)=some (ms.map .int))(h:Q (decide (ks=ms))) :
  ∃n sd se r,n<=40/\snap G n (.ref a)=some sd/\snap G n (.ref b)=some se/\fO n sd se=some r/\Q r :=
 #[1,_,_,_,∅,uq4 h1,uq4 h2,wf7,h]
theorem lG(lo:Int)(n:Nat):cn lo (n+1)=.int lo::cn (lo+1) n:=by
 unfold cn;rw[List.range_succ_eq_map,C0,L5]
 congr 1
 ·simp
 ·apply K9
  intro i _
  show D.int _=D.int _
  congr 1
  simp;omega
structure ax(G G':Gp):Prop where
 kp:∀b o,G b=some o->G' b=some o
theorem ax.refl:ax G G:=#[λ_ _ h=>h]
theorem ax.trans(a:ax G G1)(b:ax G1 G2):ax G G2:=#[λc o h=>b.kp c o (a.kp c o h)]
theorem ax.new(a:ax G G1)(h:G1 p=none):ax G (aG G1 p o):=#[λb u e=>by rw[av (aU (a.kp b u e) h)];exact a.kp b u e]
theorem ax.own(a:ax G G1)(h:G p=none):ax G (aG G1 p o):=#[λb u e=>by rw[av (aU e h)];exact a.kp b u e]
theorem ax.none(a:ax G G1)(h:G1 p=none):G p=none:=by
 cases e:G p with
 | none=>rfl
 | some o=>rw[a.kp p o e] at h;cases h
end Rw
namespace L3
open PySem PySem.Spec PyProof.Rows L2
theorem Ny(i j G q):fZ false (.int i) (.int j) G q=q (.bl (decide (i=j))) G:=rfl
theorem Nx(i j G q):fZ true (.int i) (.int j) G q=q (.bl (!decide (i=j))) G:=rfl
theorem Nw(i j G q):fZ false (.str i) (.str j) G q=q (.bl (decide (i=j))) G:=rfl
theorem Nv(i j G q):fZ true (.str i) (.str j) G q=q (.bl (!decide (i=j))) G:=rfl
theorem Nu(a c G q):fZ false (.ref a) (.ref c) G q=∃n sd se b,n<=40/\snap G n (.ref a)=some sd/\snap G n (.ref c)=some se/\fO n sd se=some b/\q (.bl b) G:=rfl
theorem Nt(a c G q):fZ true (.ref a) (.ref c) G q=∃n sd se b,n<=40/\snap G n (.ref a)=some sd/\snap G n (.ref c)=some se/\fO n sd se=some b/\q (.bl (!b)) G:=rfl
theorem Nr(a c G q):fZ false (.tup a) (.tup c) G q=∃n sd se b,n<=40/\snap G n (.tup a)=some sd/\snap G n (.tup c)=some se/\fO n sd se=some b/\q (.bl b) G:=rfl
theorem Nq(a c G q):fZ true (.tup a) (.tup c) G q=∃n sd se b,n<=40/\snap G n (.tup a)=some sd/\snap G n (.tup c)=some se/\fO n sd se=some b/\q (.bl (!b)) G:=rfl
theorem Np(i j G q):kg (.int i) (.int j) G q=q (.int (i+j)) G:=rfl
theorem Nn(i j G q):vk (.int i) (.int j) G q=(jb i j/\q (.int (i*j)) G):=rfl
theorem x76(a k G q):vk (.ref a) (.int k) G q=(match G a with|some (.lst xs)=>(-(2^63)<=k/\k<2^63/\xs.length*k.toNat<=sizeLine)/\∀p,G p=none->q (.ref p) (aG G p (.lst (D0 k.toNat xs).flatten))|_=>False):=rfl
theorem x75(i j G q):ND (.int i) (.int j) G q=q (.bl (decide (i<j))) G:=rfl
theorem x74(ds i G q):AY (.tup ds) (.int i) G q=(match da ds i with|some d=>q d G|none=>False):=rfl
theorem x73(a i G q):AY (.ref a) (.int i) G q=(match bt (G a) with|some ds=>(match da ds i with|some d=>q d G|none=>False)|none=>False):=rfl
theorem x72(xs G q):vm [.tup xs] G q=q (.int xs.length) G:=rfl
theorem x71(a G q):vm [.ref a] G q=(match bt (G a) with|some xs=>q (.int xs.length) G|none=>False):=rfl
theorem Nl(f i j G q):lP f (.int i) (.int j) G q=q (.int (f i j)) G:=rfl
theorem Nk(C f i j G q):xE C f (.int i) (.int j) G q=(C i j/\q (.int (f i j)) G):=rfl
theorem Nj(i j G q):xLe (.int i) (.int j) G q=q (.bl (decide (i<=j))) G:=rfl
theorem Ni(i j G q):Wu (.int i) (.int j) G q=q (.bl (decide (j<i))) G:=rfl
theorem Nh(i j G q):Ww (.int i) (.int j) G q=q (.bl (decide (j<=i))) G:=rfl
theorem Ng(i G q):vj (.int i) G q=q (.int (-i)) G:=rfl
theorem Nf(a k v G q):yU (.ref a) (.int k) v G q=(match G a with|some (.lst ds)=>(match iU ds.length k with|some j=>q (aG G a (.lst (ds.set j v)))|none=>False)|_=>False):=rfl
theorem Nd(a lo hi G q):Ks (.ref a) lo hi G q=(match bt (G a) with|some ds=>∀p,G p=none->q (.ref p) (aG G p (.lst (cutD ds lo hi)))|none=>False):=rfl
theorem Nc(ds lo hi G q):Ks (.tup ds) lo hi G q=(¬ (HT.b9 ds.length 0 lo=0/\HT.b9 ds.length ds.length hi=ds.length)/\q (.tup (cutD ds lo hi)) G):=rfl
theorem Nb(x G q):CJ x .non G q=(match x with|.non=>q (.bl true) G|_=>q (.bl false) G):=rfl
theorem x70(x b G q):CJ x (.bl b) G q=(match x with|.bl c=>q (.bl (decide (c=b))) G|_=>q (.bl false) G):=rfl
theorem x69(x G q):ZF x .non G q=(match x with|.non=>q (.bl false) G|_=>q (.bl true) G):=rfl
theorem x68(x b G q):ZF x (.bl b) G q=(match x with|.bl c=>q (.bl (!decide (c=b))) G|_=>q (.bl true) G):=rfl
theorem x67(i G q):yW [.int i] G q=q (.int (if i<0 then -i else i)) G:=rfl
theorem x66(i j G q):QF [.int i,.int j] G q=(xt i j/\q (.tup [.int (i / j),.int (i%j)]) G):=rfl
theorem x65(i j G q):PL [.int i,.int j] G q=q (.int (if j>i then j else i)) G:=rfl
theorem x64(i j G q):PQ [.int i,.int j] G q=q (.int (if j<i then j else i)) G:=rfl
theorem x63(i G q):Kt [.int i] G q=q (.int i) G:=rfl
theorem x62(b G q):Kt [.bl b] G q=q (.int (if b then 1 else 0)) G:=rfl
theorem x61(xs G q):KI [.tup xs] G q=∀p,G p=none->q (.ref p) (aG G p (.lst xs)):=rfl
theorem x60(a G q):KI [.ref a] G q=(match bt (G a) with|some xs=>∀p,G p=none->q (.ref p) (aG G p (.lst xs))|none=>False):=rfl
theorem x59(xs G q):Dw [.tup xs] G q=q (.tup xs) G:=rfl
theorem x58(a G q):Dw [.ref a] G q=(match bt (G a) with|some xs=>q (.tup xs) G|none=>False):=rfl
theorem x57(a G q):rP [.ref a] G q=(match bt (G a) with|some xs=>(match y0 xs with|some bs=>q (.bl (bs.all id)) G|none=>False)|none=>False):=rfl
theorem x56(x T G q):QG [x,.ty T] G q=((T = "int" \/ T = "str" \/ T = "bool" \/ T = "list" \/ T = "tuple" \/ T = "dict")/\(match zb G x with|some n=>q (.bl (qC n T)) G|none=>False)):=rfl
theorem x55(a d G q):Di (.ref a) [d] G q=(match G a with|some (.lst xs)=>xs.length<sizeLine/\q .non (aG G a (.lst (xs++[d])))|_=>False):=rfl
theorem x54(a b G q):Kz (.ref a) [.ref b] G q=(match G a,G b with|some (.lst xs),some (.lst ys)=>xs.length+ys.length<=sizeLine/\q .non (aG G a (.lst (xs++ys)))|_,_=>False):=rfl
theorem x53(a G q):wc9 (.ref a) [] G q=(match G a with|some (.lst _)=>q .non (aG G a (.lst []))|_=>False):=rfl
end L3
namespace L2
open PySem PySem.Spec PyProof.Rows
section
variable{X:Cx}{e:Expr}{st:Expr}{te:TE}{ts:TO}{pos p2:Pos}
theorem v95(its:List Value):Mh its.toArray none none (some (-1))=its.reverse.toArray:=by
 unfold Mh Y9 sliceRange;simp only[B95,show¬ ((-1:Int)>0) by decide,if_false,E5]
 congr 1
 have hc:(if(its.length:Int)-1 > -1 then((its.length:Int)-1 - -1 - -1-1) / (- -1) else 0).toNat=its.length:=by
  cases its with
  | nil=>rfl
  | cons x xs =>
   rw[if_pos (by simp;omega)];simp
 rw[hc,B68];apply List.ext_getElem?;intro i;have hf:∀(n:Nat) (f:Nat->Option Value),(∀k,k<n->∃v,f k=some v)->∀i,((D1 n).filterMap f)[i]?=if i<n then f i else none:=by
  intro n f h;obtain⟨g,hg⟩:∃g:Nat->Value,∀k,k<n->f k=some (g k):=#[λk=>(f k).getD .none,λk hk=>by obtain⟨v,hv⟩:=h k hk;show f k=some ((f k).getD .none);rw[hv];rfl];have e:(D1 n).filterMap f=(D1 n).map g:=by
   have go:∀l:List Nat,(∀k∈l,k<n)->l.filterMap f=l.map g:=by
    intro l
    induction l with
    | nil=>intro _;rfl
    | cons k l ih=>intro hl;rw[Z4,hg k (hl k D3),C0,ih λz hz=>hl z (C7 _ hz)]
   exact go _ λk hk=>K0.mp hk
  intro i;rw[e,F0]
  by_cases hi:i<n
  ·rw[Z5 hi,if_pos hi,hg i hi];rfl
  ·rw[L9 (by simpa using hi),if_neg hi];rfl
 rw[hf]
 ·by_cases hi:i<its.length
  ·rw[if_pos hi,Wi hi]
   show its.toArray[((its.length:Int)-1+-1*(i:Int)).toNat]?=_
   have:((its.length:Int)-1+-1*(i:Int)).toNat=its.length-1-i:=()
   rw[this];simp
  ·rw[if_neg hi,L9 (by simpa using hi)]
 ·intro k hk
  show∃v,its.toArray[((its.length:Int)-1+-1*(k:Int)).toNat]?=some v
  have:((its.length:Int)-1+-1*(k:Int)).toNat=its.length-1-k:=()
  rw[this];exact#[its[its.length-1-k]'(),by simp]
def WZ(K:W.Frag)(te:TE)(ts:TO):TE:=λσ H Q=>te σ H λx H1=>ts σ H1 λk H2=>k=some (-1)/\∃a xs,x=.ref a/\eG K H2 a xs/\∀p,H2 p=none->Q (.ref p) (upd H2 p (.lst xs.reverse))
theorem wb9(he:PE X e te)(hs:PO X (some st) ts):PE X (.Subscript e (.Slice none none (some st) p2) pos) (WZ X.K te ts):=by
 intro pins s σ H Q I h;refine Mm (a_ (he pins s σ H _ I h) λv s1 ⟨x,H1,I1,r1,q1⟩=>?_);refine wpAny_Slice ?_;rw[Vs];refine C2 (C2 (a_ (hs pins s1 σ H1 _ I1 q1) λvs s3 ⟨k,H3,I3,pk,q3⟩=>?_));obtain⟨rfl,a,xs,rfl,hx,q⟩:=q3;cases r1;have I4:Inv X pins σ H3 { s3 with heap:=s3.heap.push { cls:=.type "slice",data:=.fields [.none,.none,vs].toArray}}:=I3.kept (t':=s3.toks) λb ob q=>B6 _ q
 obtain⟨its,r,ht,hz⟩:=I4.list hx;have hlen:=r.length
 show wpAny (model X.prog X.w) X.A (MJ e (.Slice none none (some st) p2) (.ref a) (.ref s3.heap.objs.size)) (EP X pins σ Q) X.xe { s3 with heap:=s3.heap.push { cls:=.type "slice",data:=.fields [.none,.none,vs].toArray}}
 refine US (ops:=[.ref a,.ref s3.heap.objs.size]) ht.isList.typeIs VO.lookup ?_ (by with_unfolding_all rfl);refine wpAny_getItem_list_slice ht.isList (B69 ..) .none .none pk ∅ ?_ (by rw[E5] <;> omega);rw[v95];refine#[.ref _,_,I4.laid (t':=s3.toks) (o:=.lst xs.reverse) (λb ob q=>B6 _ q) (B8 _) ?_,rfl,q _ (I4.az.fresh (B8 _))];exact#[by rw[Q9];exact hz,_,0,r.reverse,D4 _ rfl]
end
end L2
namespace L3
open PySem PySem.Spec PyProof.Rows L2
section
variable{X:Cx}{e:Expr}{te:bw}{pos p2 p3 p4:Pos}{K:W.Frag}{σ:L2.St}{H:Hp}{Q:VK}
def NL(te:bw):bw:=λσ G q=>te σ G λx G1=>match x with
 | .ref a=>(match bt (G1 a) with|some ds=>∀p,G1 p=none->q (.ref p) (aG G1 p (.lst ds.reverse))|none=>False)
 | _=>False
theorem vp2(h:aI K (NL te) σ H Q):WZ K (aI K te) (qN K (JQ (LR vj (dC (.int 1))))) σ H Q:=by
 obtain⟨σd,G,q,rs,c,t,f⟩:=h;refine#[σd,G,_,rs,c,t,λx G1 v H1 r1 c1 l1 t1=>#[σd,G1,λo G2=>o=some (-1)/\G2=G1,rs.le l1,c1,#[rfl,rfl],λo G2 H2 c2 l2 e2=>?_]];obtain⟨rfl,rfl⟩:=e2;refine#[rfl,?_];split at t1
 ·rename_i a
  split at t1
  ·rename_i ds e
   obtain⟨xs,s1,q1⟩:=d_ c2 e;exact#[a,xs,r1.ai,s1,λp hp=>f _ _ _ _ ae.fh (c2.cL hp q1.reverse) ((l1.trans l2).trans (Le.fresh hp)) (t1 p (c2.fresh hp))]
  ·exact t1.elim
 ·exact t1.elim
theorem x22(he:E3 X e te):E3 X (.Subscript e (.Slice none none (some (.UnaryOp .USub (.Constant (.int 1) k p3) p4)) p2) pos) (NL te) :=
 dA (wb9 he (Bq (qW CY aA))) λ_ _ _=>vp2
end
def strsOf:List D->Option (List Str)
 | []=>some []
 | .str x::r=>(strsOf r).map (x::·)
 | _=>none
def intsOf:List D->Option (List Int)
 | []=>some []
 | .int x::r=>(intsOf r).map (x::·)
 | _=>none
section
variable{X:Cx}{K:W.Frag}{H:Hp}
theorem Ro:∀{ds:List D} {ws:List Str} {vs:List V},strsOf ds=some ws->af K H ds vs->vs=ws.map V.str
 | [],ws,vs,e,r=>by cases e;rw[r.aR];rfl
 | .str b::ds,ws,vs,e,r=>by
  obtain⟨x,xs,rfl,h1,h2⟩:=r.aj;obtain⟨ws',e',rfl⟩:=E9.mp (show(strsOf ds).map (b::·)=some ws from e);rw[h1.str_inv,Ro e' h2];rfl
 | .non::_,_,_,e,_=>by cases e
 | .bl _::_,_,_,e,_=>by cases e
 | .int _::_,_,_,e,_=>by cases e
 | .tup _::_,_,_,e,_=>by cases e
 | .ref _::_,_,_,e,_=>by cases e
 | .ty _::_,_,_,e,_=>by cases e
theorem Rl:∀{ds:List D} {ws:List Int} {vs:List V},intsOf ds=some ws->af K H ds vs->vs=ws.map V.int
 | [],ws,vs,e,r=>by cases e;rw[r.aR];rfl
 | .int b::ds,ws,vs,e,r=>by
  obtain⟨x,xs,rfl,h1,h2⟩:=r.aj;obtain⟨ws',e',rfl⟩:=E9.mp (show(intsOf ds).map (b::·)=some ws from e);rw[h1.int_inv,Rl e' h2];rfl
 | .non::_,_,_,e,_=>by cases e
 | .bl _::_,_,_,e,_=>by cases e
 | .str _::_,_,_,e,_=>by cases e
 | .tup _::_,_,_,e,_=>by cases e
 | .ref _::_,_,_,e,_=>by cases e
 | .ty _::_,_,_,e,_=>by cases e
theorem Zf{w:Str}{ws:List Str}:BO (V.str w) (ws.map V.str)=decide (w∈ws):=by
 unfold BO
 induction ws with
 | nil=>rfl
 | cons x xs ih =>
  rw[C0,P0,ih]
  show((x==w)||decide (w∈xs))=_
  by_cases h:x=w
  ·subst h;simp
  ·have h':¬ w=x:=λe=>h e.symm
   have:(x==w)=false:=by simpa using h
   rw[this];simp[h']
theorem Ze{w:Int}{ws:List Int}:BO (V.int w) (ws.map V.int)=decide (w∈ws):=by
 unfold BO
 induction ws with
 | nil=>rfl
 | cons x xs ih =>
  rw[C0,P0,ih]
  show((x==w)||decide (w∈xs))=_
  by_cases h:x=w
  ·subst h;simp
  ·have h':¬ w=x:=λe=>h e.symm
   have:(x==w)=false:=by simpa using h
   rw[this];simp[h']
theorem Rb:∀ws:List Str,(ws.map V.str).all rR=true
 | []=>rfl
 | _::ws=>by rw[C0,U6,Rb ws];rfl
theorem Ra:∀ws:List Int,(ws.map V.int).all rR=true
 | []=>rfl
 | _::ws=>by rw[C0,U6,Ra ws];rfl
def jl(neg:Bool):R3:=λx y G q=>match x,y with
 | .str w,.tup ds=>(match strsOf ds with|some ws=>q (.bl (if neg then !decide (w∈ws) else decide (w∈ws))) G|none=>False)
 | .str w,.ref a=>(match bt (G a) with|some ds=>(match strsOf ds with|some ws=>q (.bl (if neg then !decide (w∈ws) else decide (w∈ws))) G|none=>False)|none=>False)
 | .int w,.tup ds=>(match intsOf ds with|some ws=>q (.bl (if neg then !decide (w∈ws) else decide (w∈ws))) G|none=>False)
 | .int w,.ref a=>(match bt (G a) with|some ds=>(match intsOf ds with|some ws=>q (.bl (if neg then !decide (w∈ws) else decide (w∈ws))) G|none=>False)|none=>False)
 | _,_=>False
theorem wy6{neg:Bool}{x y:V}{Q:VK}(h:oQ K (jl neg) x y H Q):rIn K neg x y H Q:=by
 obtain⟨d,e,G,q,r1,r2,c,t,f⟩:=h;unfold jl at t;split at t
 ·rename_i w ds
  split at t
  ·rename_i ws es
   obtain⟨a,xs,rfl,s1,q1⟩:=r2.aK;cases r1.str_inv;obtain rfl:=Ro es q1;exact#[a,_,rfl,.inr s1,rfl,Rb ws,f _ _ _ _ (by rw[Zf];exact ae.rO) c (Le.refl H) t]
  ·exact t.elim
 ·rename_i w a
  split at t
  ·rename_i ds eq
   split at t
   ·rename_i ws es
    obtain⟨xs,s1,q1⟩:=d_ c eq;cases r1.str_inv;obtain rfl:=Ro es q1;exact#[a,_,r2.ai,.inl s1,rfl,Rb ws,f _ _ _ _ (by rw[Zf];exact ae.rO) c (Le.refl H) t]
   ·exact t.elim
  ·exact t.elim
 ·rename_i w ds
  split at t
  ·rename_i ws es
   obtain⟨a,xs,rfl,s1,q1⟩:=r2.aK;cases r1.int_inv;obtain rfl:=Rl es q1;exact#[a,_,rfl,.inr s1,rfl,Ra ws,f _ _ _ _ (by rw[Ze];exact ae.rO) c (Le.refl H) t]
  ·exact t.elim
 ·rename_i w a
  split at t
  ·rename_i ds eq
   split at t
   ·rename_i ws es
    obtain⟨xs,s1,q1⟩:=d_ c eq;cases r1.int_inv;obtain rfl:=Rl es q1;exact#[a,_,r2.ai,.inl s1,rfl,Ra ws,f _ _ _ _ (by rw[Ze];exact ae.rO) c (Le.refl H) t]
   ·exact t.elim
  ·exact t.elim
 ·exact t.elim
theorem yS(_:aM k A):gF X (O6 .In) (jl false):=rV va4 λ_ _ _ _ h=>wy6 h
end
end L3
namespace L2
open PySem PySem.Spec PyProof.Rows
def UI(K:W.Frag)(a:Addr):It :=
 #[λi H=>∃xs x,eG K H a xs/\xs[i]?=some x,λi H v H'=>∃p x,v=.ref p/\H p=none/\H'=upd H p (.tup [.int (i:Int),x])/\∀xs,eG K H a xs->xs[i]?=some x,λi H=>∃xs,eG K H a xs/\xs.length<=i]
theorem Inv.vG{h':Heap}(I:Inv X pins σ H s)(k:∀b o,b≠e->b≠it->s.heap.get? b=some o->h'.get? b=some o)
  (f:∀b∈[e,it],fS X pins H b) (new:bh X.prog X.w (upd H s.heap.objs.size o) h' s.heap.objs.size o):Inv X pins σ (upd H s.heap.objs.size o) { s with heap:=h',toks:=t'}:=by
 have hn:H s.heap.objs.size=none:=I.az.fresh (B8 _);have f1:=f e (by simp);have f2:=f it (by simp);have old:∀b u,H b=some u->b≠s.heap.objs.size:=λb u q z=>by rw[z,hn] at q;cases q
 have qL:∀b u,H b=some u->b≠e/\b≠it:=λb u q=>#[λz=>(by rw[z,f1.1] at q;cases q),λz=>(by rw[z,f2.1] at q;cases q)]
 have pJ:∀{b:Addr},b∉[e,it]->b≠e/\b≠it:=λhc=>#[λz=>hc (by simp[z]),λz=>hc (by simp[z])]
 refine I.step (g':=s.gens) (d':=s.drawn) (ch:=[e,it]) (λb hb=>?_) (λb o _ _ hc q _=>k b o (pJ hc).1 (pJ hc).2 q) (λb o _ _ hc q _=>#[o.slots,k b o (pJ hc).1 (pJ hc).2 q]) (λb u _ q n=>?_)
  (λb o hc q=>#[o,k b o (pJ hc).1 (pJ hc).2 q]) (λb xs q=>?_) (λb o u q=>?_) (λb ps q=>#[[].toArray,?_]) (λm hm=>?_) (λb u q=>?_) I.bare
 ·obtain⟨g0,g1,g2,g3,g4,g5⟩:=f b hb
  exact#[g3,g1,g4,g5]
 ·rw[cq (I0 (D5 q))];exact n
 ·rw[cq (old b _ q)];exact q
 ·rw[cq (old b _ q)];exact q
 ·rw[cq (old b _ q),q];simp
 ·obtain⟨o,es,ep,ho,r⟩:=hm
  exact#[o,es,ep,k _ o (D8 f1.2.1) (D8 f2.2.1) ho,r]
 ·by_cases hb:b=s.heap.objs.size
  ·subst hb;rw[f'] at q;cases q;exact new
  ·rw[cq hb] at q
   refine(I.az b u q).eN (λc v hc z=>?_) (λc z=>by rw[cq (old c _ z)];exact z) (λc xs z=>by rw[cq (old c _ z)];exact z) λc _ _ z=>by rw[cq (old c _ z)];exact z
   rcases hc with y|y
   ·subst y;exact k _ v (qL _ u q).1 (qL _ u q).2 z
   ·exact k c v (qL c _ y).1 (qL c _ y).2 z
theorem v69{P:Program}{w:World}{K:W.Frag}{elts:List Expr}{x1}{pos:Pos}(a e it:Addr)(eC:e≠it):Turn P w K (.Tuple elts x1 pos) (UI K a) [e,it] e (λi h=>(∃old,IsEnum h e it (i:Int) old)/\h.IsListIter it a i) where
 mem:=by simp
 obj:=λi h st b hb=>by
  obtain⟨⟨old,BG⟩,lH⟩:=st
  rcases E6.mp hb with q|q
  ·subst q
   exact⟨_,BG,λv z=>by
    have z':Mw _=Cr v:=z;cases z'⟩
  ·have q:b=it:=by simpa using q
   subst q;obtain⟨o,e,c,d⟩:=lH;exact#[o,e,λv z=>by rw[d] at z;cases z]
 keep:=λi h h' st k=>#[st.1.elim λold q=>#[old,k e (by simp) _ q],st.2.at λo q=>k it (by simp) o q]
 item:=by
  intro X hP hw hK hc i pins s σ H E I hf st hg;subst hP hw hK;obtain⟨⟨old,BG⟩,lH⟩:=st;obtain⟨xs,x,hq,hx⟩:=hg;obtain⟨its,rv,p,hz⟩:=I.list hq;obtain⟨u,hu,ru⟩:=rv.get hx;have hel:e<s.heap.objs.size:=D5 BG;have hn:H s.heap.objs.size=none:=I.az.fresh (B8 _);refine wpAny_pyNext_enum_item BG lH p.isList (x:=u) (by simpa using hu) eC λh1 ho TB ht1 jM LD=>?_
  refine#[_,rfl,wpAny_letOwnedTupleGo_enum ho λh2 GC cy=>?_]
  replace cy:R6 e h1 h2:=cy
  have yb:∀b o,b≠e->b≠it->s.heap.get? b=some o->h2.get? b=some o:=λb o kX qS q=>(cy.2 b kX).trans (LD b o kX qS q)
  have ht2:=(cy.2 s.heap.objs.size (X7 hel)).trans ht1;refine#[.ref s.heap.objs.size,upd H s.heap.objs.size (.tup [.int (i:Int),x]),I.vG (t':=s.toks+1) yb hf ?_,rfl,#[_,x,rfl,hn,rfl,λys hy=>by rw[I.gj hy hq];exact hx],#[#[u,by simpa using GC],?_],λb hb=>?_]
  ·exact#[show 2<=sizeLine by decide,[.int i s.toks,u],.cons #[s.toks,rfl] (.cons ru .nil),#[_,ht2,rfl,#[_,rfl],rfl]]
  ·exact TB.at λo q=>(cy.2 it (D8 eC)).trans q
  ·rw[cq ?_];exact(hf b hb).1
   intro z
   rcases E6.mp hb with q|q
   ·exact I0 hel (q▸z)
   ·have q:b=it:=by simpa using q
    obtain⟨o,y,_⟩:=lH;exact I0 (D5 y) (q▸z)
 done:=by
  intro X hP hw hK hc i pins s σ H E I hf st hg;subst hP hw hK;obtain⟨⟨old,BG⟩,lH⟩:=st;obtain⟨xs,hq,hx⟩:=hg;obtain⟨its,rv,p,hz⟩:=I.list hq;obtain⟨f0,f1,f2,f3,f4,f5⟩:=hf it (by simp);have hl:=rv.length;exact wpAny_pyNext_enum_end (I.ok.hd hc) BG lH p.isList (by simp;omega) λh' eb=>#[rfl,I.turned (t':=s.toks) (λb o hb q=>eb b o hb q) f0 f1 f3 f4 f5]
 self:=λ_ _ _ _ _ st h=>st.1.elim λ_ q=>wpAny_pyIter_enum q h
def WQ(K:W.Frag)(ta:TA):TI:=λσ H R=>ta σ H λvs H1=>∃a,vs=[.ref a]/\(∃xs,eG K H1 a xs)/\R (UI K a) H1
theorem vi0:Q6 "enumerate" = some (.type "enumerate"):=∅
theorem wa6{X:Cx}{elts:List Expr}{x1}{jm:Pos}{a:Expr}{ta:TA}{p pos:Pos}(hg:Gl X "enumerate")(hm:X.mg "enumerate" = none)(ha:PA X [a] ta)(hs:C5 [a] X.env=[(false,eval a X.env)]:=by rfl) :
  PI X (.Tuple elts x1 jm) (.Call (.Name "enumerate" p) [a] [] pos) (WQ X.K ta):=by
 intro pins s σ H R I h;refine Call_ (oj I hg hm vi0 (J1 (a_ (ha pos pins s σ H _ I h) λus s1 ⟨vs,H1,I1,r1,q1⟩=>?_) hs rfl));obtain⟨l,e,⟨xs,hq⟩,q⟩:=q1;subst e;cases r1 with
 | cons r rr =>
  cases rr;cases r;obtain⟨its,rv,pl,hz⟩:=I1.list hq;refine call_enumerate_list pl.isList λh' he hit hsz hk=>?_
  refine wpAny_pyIter_enum he ?_;have I2:Inv X pins σ H1 { s1 with heap:=h'}:=I1.kept (t':=s1.toks) hk
  refine#[s1.heap.objs.size+1,[s1.heap.objs.size+1,s1.heap.objs.size],_,_,H1,rfl,I2,v69 l _ _ (Nat.succ_ne_self _),#[#[.none,he],hit],λb hb=>?_,q];have hb:s1.heap.objs.size<=b:=by
   rcases E6.mp hb with z|z
   ·rw[z];exact X4 _
   ·have e:b=s1.heap.objs.size:=by simpa using z
    rw[e];exact B8 _
  exact I1.kY hb (I1.az.fresh hb)
end L2
namespace L3
open PySem PySem.Spec PyProof.Rows L2
def uW:Nat->List D->List D
 | _,[]=>[]
 | i,d::r=>.tup [.int (i:Int),d]::uW (i+1) r
theorem Rk:∀{i:Nat} {ds:List D},(uW i ds).length=ds.length
 | _,[]=>rfl
 | _,_::r=>by show(uW _ r).length+1=r.length+1;rw[Rk]
theorem Zb:∀{j i:Nat} {ds:List D} {d:D},ds[i]?=some d->(uW j ds)[i]?=some (.tup [.int ((j+i:Nat):Int),d])
 | j,0,d::r,_,h=>by cases h;rfl
 | j,i+1,d::r,e,h=>by
  have:=Zb (j:=j+1) (i:=i) (ds:=r) (d:=e) (by simpa using h)
  show(uW (j+1) r)[i]?=_
  rw[this,show j+1+i=j+(i+1) by omega]
 | _,_,[],_,h=>by simp at h
theorem v37{K:W.Frag}{H0:Hp}{a:Addr}{ds:List D}:gB K H0 #[uW 0 ds,λG=>bt (G a)=some ds] (UI K a) where
 go:=λi G H l c ok hi=>by
  obtain⟨xs,s,r⟩:=d_ c ok;rw[Rk] at hi;exact#[xs,xs[i]'(by rw[<- r.length];exact hi),s,B7 _]
 stop:=λi G H l c ok hi=>by
  obtain⟨xs,s,r⟩:=d_ c ok;rw[Rk] at hi;exact#[xs,s,by rw[<- r.length];exact hi]
 nQ:=λi G H x H' l c ok hi y=>by
  obtain⟨p,v,rfl,hp,rfl,y⟩:=y;obtain⟨xs,s,r⟩:=d_ c ok;obtain⟨d,hd,rd⟩:=r.at_ (y xs s)
  refine#[c.side hp,Le.fresh hp,.tup [.int (i:Int),d],by rw[Zb hd,L0],?_];rw[ae];exact#[p,_,rfl,dS.of f',.cons ae.cz (.cons (ae.le (Le.fresh hp) rd) .nil)]
def CU(t:dz):pW:=λσ G r=>t σ G λds G1=>match ds with
 | [.ref a]=>(match bt (G1 a) with|some ds=>r #[uW 0 ds,λG=>bt (G a)=some ds] G1|none=>False)
 | _=>False
theorem vc2{K:W.Frag}{t:dz}{σ:L2.St}{H:Hp}{R:It->Hp->Prop}(h:kQ K (CU t) σ H R):WQ K (dE K t) σ H R:=by
 obtain⟨σd,G,q,rs,c,t,f⟩:=h;refine#[σd,G,_,rs,c,t,λds G1 vs H1 r1 c1 l1 t1=>?_];split at t1
 ·rename_i a
  split at t1
  ·rename_i ds e
   obtain⟨v,rfl,rv⟩:=r1.one;cases rv.ai;obtain⟨xs,s1,q1⟩:=d_ c1 e;exact#[a,rfl,#[xs,s1],f _ _ _ _ v37 c1 l1 t1]
  ·exact t1.elim
 ·exact t1.elim
theorem Rp{x1}(hg:Gl X "enumerate")(hm:X.mg "enumerate" = none)(ha:A3 X [a] ts)(hs:C5 [a] X.env=[(false,eval a X.env)]:=by rfl) :
  I3 X (.Tuple elts x1 jm) (.Call (.Name "enumerate" p) [a] [] pos) (CU ts):=xD (wa6 hg hm ha hs) λ_ _ _=>vc2
end L3
namespace L2
open PySem PySem.Spec PyProof.Rows
def UE(K:W.Frag)(a:Addr)(n:Nat):It :=
 #[λi H=>i<n/\∃xs,eG K H a xs/\xs.length=n,λi H x H'=>H'=H/\∀xs,eG K H a xs->xs[n-1-i]?=some x,λi _=>n<=i]
theorem vk3{P:Program}{w:World}{K:W.Frag}{tg:Expr}(a it:Addr)(n:Nat):Turn P w K tg (UE K a n) [it] it (λi h=>i<=n/\h.IsRevIter it a ((n:Int)-1-(i:Nat))) where
 mem:=by simp
 obj:=λi h st b hb=>by
  have e:b=it:=by simpa using hb
  subst e;obtain⟨o,e,c,d⟩:=st.2;exact#[o,e,λv z=>by rw[d] at z;cases z]
 keep:=λi h h' st k=>#[st.1,st.2.at λo e=>k it (by simp) o e]
 item:=by
  intro X hP hw hK hc i pins s σ H E I hf st hg;subst hP hw hK;obtain⟨hi,xs,hq,hn⟩:=hg;obtain⟨its,rv,p,hz⟩:=I.list hq;have hl:=rv.length;obtain⟨f0,f1,f2,f3,f4,f5⟩:=hf it (by simp);have hx:xs[n-1-i]?=some (xs[n-1-i]'()):=B7 _;obtain⟨u,hu,ru⟩:=rv.get hx;have e1:(n:Int)-1-(i:Nat)=((n-1-i:Nat):Int):=()
  have lH:=st.2;rw[e1] at lH;refine wpAny_pyNext_rev_item lH p.isList (x:=u) (by simpa using hu) λh' jI sb=>?_
  have I1:Inv X pins σ H { s with heap:=h'}:=I.turned (t':=s.toks) (λb o hb e=>(sb.2 b hb).trans e) f0 f1 f3 f4 f5
  obtain⟨o,e,c,d⟩:=id jI;refine#[u,rfl,Bb (s:={ s with heap:=h'}) e c d ∅ #[_,H,I1,ru,#[rfl,λys hy=>by rw[I.gj hy hq];exact hx],#[(),?_],λb hb=>(hf b hb).1]];have e2:(n:Int)-1-((i+1:Nat):Int)=((n-1-i:Nat):Int)-1:=()
  rw[e2];exact jI
 done:=by
  intro X hP hw hK hc i pins s σ H E I hf st hg;subst hP hw hK;have hg:n<=i:=hg;obtain⟨f0,f1,f2,f3,f4,f5⟩:=hf it (by simp);have e1:(n:Int)-1-(i:Nat)=-1:=by have:=st.1;omega
  have lH:=st.2;rw[e1] at lH;exact wpAny_pyNext_rev_end (I.ok.hd hc) lH λh' eb=>#[rfl,I.turned (t':=s.toks) (λb o hb q=>eb b o hb q) f0 f1 f3 f4 f5]
 self:=λ_ _ _ _ _ st h=>wpAny_pyIter_revIter st.2 h
def FU(K:W.Frag)(ta:TA):TI:=λσ H R=>ta σ H λvs H1=>∃a xs,vs=[.ref a]/\eG K H1 a xs/\R (UE K a xs.length) H1
theorem wo4{X:Cx}{tg:Expr}{a:Expr}{ta:TA}{p pos:Pos}(hg:Gl X "reversed")(hm:X.mg "reversed" = none)(ha:PA X [a] ta)(hs:C5 [a] X.env=[(false,eval a X.env)]:=by rfl) :
  PI X tg (.Call (.Name "reversed" p) [a] [] pos) (FU X.K ta):=by
 intro pins s σ H R I h;refine Call_ (oj I hg hm boot_reversed (J1 (a_ (ha pos pins s σ H _ I h) λus s1 ⟨vs,H1,I1,r1,q1⟩=>?_) hs rfl));obtain⟨l,xs,e,hq,q⟩:=q1;subst e;cases r1 with
 | cons r rr =>
  cases rr;cases r;obtain⟨its,rv,pl,hz⟩:=I1.list hq;have hl:=rv.length;refine call_reversed_list pl.isList ?_;have st:(s1.heap.push (revObj l ((its.toArray.size:Int)-1))).IsRevIter s1.heap.objs.size l ((its.toArray.size:Int)-1):=#[_,D4 _ rfl,rfl,rfl];have I2:Inv X pins σ H1 { s1 with heap:=s1.heap.push (revObj l ((its.toArray.size:Int)-1))}:=I1.kept (t':=s1.toks) λb o e=>B6 _ e
  refine wpAny_pyIter_revIter st ?_;refine#[s1.heap.objs.size,[s1.heap.objs.size],_,_,H1,rfl,I2,vk3 l _ xs.length,#[J8 _,?_],λb hb=>?_,q]
  ·have e1:(xs.length:Int)-1-((0:Nat):Int)=(its.toArray.size:Int)-1:=by simp;omega
   rw[e1];exact st
  ·have e:b=s1.heap.objs.size:=by simpa using hb
   subst e;exact I1.kY (B8 _) (I1.az.fresh (B8 _))
end L2
namespace L3
open PySem PySem.Spec PyProof.Rows L2
theorem vd9{K:W.Frag}{H0:Hp}{a:Addr}{ds:List D}{n:Nat}(hn:ds.length=n):gB K H0 #[ds.reverse,λG=>bt (G a)=some ds] (UE K a n) where
 go:=λi G H l c ok hi=>by
  obtain⟨xs,s,r⟩:=d_ c ok;rw[Q9] at hi;exact#[(),xs,s,by rw[<- r.length];exact hn]
 stop:=λi G H l c ok hi=>by
  rw[Q9] at hi
  show n<=i
  omega
 nQ:=λi G H x H' l c ok hi y=>by
  obtain⟨rfl,y⟩:=y;obtain⟨xs,s,r⟩:=d_ c ok;rw[Q9] at hi;obtain⟨d,hd,rd⟩:=r.at_ (y xs s)
  refine#[c,Le.refl _,d,?_,rd];rw[Wi hi,hn];exact hd
def yY(t:dz):pW:=λσ G r=>t σ G λds G1=>match ds with
 | [.ref a]=>(match bt (G1 a) with|some ds=>r #[ds.reverse,λG=>bt (G a)=some ds] G1|none=>False)
 | _=>False
theorem vn5{K:W.Frag}{t:dz}{σ:L2.St}{H:Hp}{R:It->Hp->Prop}(h:kQ K (yY t) σ H R):FU K (dE K t) σ H R:=by
 obtain⟨σd,G,q,rs,c,t,f⟩:=h;refine#[σd,G,_,rs,c,t,λds G1 vs H1 r1 c1 l1 t1=>?_];split at t1
 ·rename_i a
  split at t1
  ·rename_i ds e
   obtain⟨v,rfl,rv⟩:=r1.one;cases rv.ai;obtain⟨xs,s1,q1⟩:=d_ c1 e;exact#[a,xs,rfl,s1,f _ _ _ _ (vd9 q1.length) c1 l1 t1]
  ·exact t1.elim
 ·exact t1.elim
theorem v39(hg:Gl X "reversed")(hm:X.mg "reversed" = none)(ha:A3 X [a] ts)(hs:C5 [a] X.env=[(false,eval a X.env)]:=by rfl) :
  I3 X tg (.Call (.Name "reversed" p) [a] [] pos) (yY ts):=xD (wo4 hg hm ha hs) λ_ _ _=>vn5
end L3
namespace Law
open PySem L2 L3 Rw
theorem nU(h:0<=v):∃x:Nat,v=(x:Int):=#[v.toNat,()]
structure cE(G:Gp)(st:Addr):Prop where
 ex:∃(a:Addr) (ns:List Int) (k r:Int),G st=some (.lst [.ref a,.int k,.int r])/\G a=some (.qV (ns.map .int))/\0<=k/\0<=r/\a≠st/\ns.length<=63
structure eV(st:Addr)(G G':Gp):Prop where
 at_:cE G' st
 kp:∀b o,b≠st->G b=some o->G' b=some o
structure xg(a:Addr)(bs:List Int)(G G':Gp):Prop where
 at_:G' a=some (.lst (bs.map .int))
 kp:∀b,b≠a->G' b=G b
def cY(ra ha:Addr)(s:Nat):List (Str×D):=[("rows",.ref ra),("held",.ref ha),("spot",.int (s:Int))]
structure bC(C:Addr)(G:Gp)(p ra ha:Addr)(rs:List Row)(bs:List Int)(s:Nat):Prop where
 ob:G p=some (.ins C (cY ra ha s))
 ro:G ra=some (.lst (rs.map Row.d))
 he:G ha=some (.lst (bs.map .int))
 ne:ra≠ha
structure jj(sz:Nat)(rs:List Row)(bs:List Int)(s:Nat):Prop where
 bo:cM sz bs
 ro:∀r∈rs,r.ok sz
 le:s<=rs.length
def bu(rs:List Row)(bs:List Int)(s:Nat):Bool:=match rs[s]? with
 | none=>false
 | some (.aL x n _)=>!decide (gt bs x=n)
 | some _=>true
def eA(rs:List Row)(bs:List Int)(s:Nat):Bool:=if s=0 then false else match rs[s-1]? with
 | none=>false
 | some (.go x n _)=>!decide (gt bs x=n)
 | some _=>true
def bV(rs:List Row)(bs:List Int)(s:Nat):Nat×List Int:=match rs[s]? with
 | some (.go x n k)=>if gt bs x=n then(k+1,bs) else(s+1,bs)
 | some r=>(s+1,cH 1 bs r)
 | none=>(s,bs)
def fi(rs:List Row)(bs:List Int)(s:Nat):Nat×List Int:=match rs[s-1]? with
 | some (.aL x n k)=>if gt bs x=n then(k,bs) else(s-1,bs)
 | some r=>(s-1,cH (-1) bs r)
 | none=>(s,bs)
theorem bC.pr(h:bC C G p ra ha rs bs s):p≠ra:=by
 intro e;have:=h.ob;rw[e,h.ro] at this;cases this
theorem bC.ph(h:bC C G p ra ha rs bs s):p≠ha:=by
 intro e;have:=h.ob;rw[e,h.he] at this;cases this
theorem cE.new(h:cE G st)(hp:G p=none):cE (aG G p o) st:=by
 obtain⟨a,ns,k,r,h1,h2,h3⟩:=h.ex;exact#[a,ns,k,r,by rw[av (aU h1 hp)];exact h1,by rw[av (aU h2 hp)];exact h2,h3]
theorem cE.ne(h:cE G st)(hp:G p=none):p≠st:=by
 obtain⟨a,ns,k,r,h1,h2,h3⟩:=h.ex;exact D8 (aU h1 hp)
theorem cE.set(h:cE G st)(hp:G p=some (.lst xs))(eC:p≠st):cE (aG G p (.lst ys)) st:=by
 obtain⟨a,ns,k,r,h1,h2,h3⟩:=h.ex;have:a≠p:=by intro e;rw[e,hp] at h2;cases h2
 exact#[a,ns,k,r,by rw[av (D8 eC)];exact h1,by rw[av this];exact h2,h3]
theorem eV.refl(h:cE G st):eV st G G:=#[h,λ_ _ _ e=>e]
theorem eV.trans(a:eV st G G1)(b:eV st G1 G2):eV st G G2:=#[b.at_,λc o hc e=>b.kp c o hc (a.kp c o hc e)]
theorem eV.new(a:eV st G G1)(hp:G1 p=none):eV st G (aG G1 p o):=#[a.at_.new hp,λc u hc e=>by rw[av (aU (a.kp c u hc e) hp)];exact a.kp c u hc e]
theorem eV.own(a:eV st G G1)(hp:G p=none)(h1:G1 p=some (.lst xs))(eC:p≠st):eV st G (aG G1 p (.lst ys)) :=
 #[a.at_.set h1 eC,λc u hc e=>by rw[av (aU e hp)];exact a.kp c u hc e]
theorem eV.none(a:eV st G G1)(hp:G1 p=none)(eC:p≠st):G p=none:=by
 cases e:G p with
 | none=>rfl
 | some o=>rw[a.kp p o eC e] at hp;cases hp
theorem Kn{rs:List Row}(h:s<rs.length)(hp:rs[s].plain=true):bu rs bs s=true/\bV rs bs s=(s+1,cH 1 bs rs[s]):=by
 have hg:=B7 h
 revert hp
 unfold bu bV;rw[hg];cases rs[s] <;> intro hp <;> first|exact⟨rfl,rfl⟩|cases hp
theorem XI{rs:List Row}(h:s<rs.length)(hp:rs[s].plain=true):eA rs bs (s+1)=true/\fi rs bs (s+1)=(s,cH (-1) bs rs[s]):=by
 have hg:=B7 h
 revert hp
 unfold eA fi;rw[if_neg (),K7,hg];cases rs[s] <;> intro hp <;> first|exact⟨rfl,rfl⟩|cases hp
theorem GX:bu rs bs rs.length=false:=by unfold bu;rw[L9 (B8 _)]
theorem bC.grow(h:bC C G p ra ha rs bs s)(g:ax G G'):bC C G' p ra ha rs bs s :=
 ⟨g.kp _ _ h.ob,g.kp _ _ h.ro,g.kp _ _ h.he,h.ne⟩
structure Kept(p ha:Addr)(G G':Gp):Prop where
 kp:∀b o,b≠p->b≠ha->G b=some o->G' b=some o
theorem Kept.refl:Kept p ha G G:=⟨λ_ _ _ _ h=>h⟩
theorem Kept.trans(a:Kept p ha G G1)(b:Kept p ha G1 G2):Kept p ha G G2:=⟨λc o h1 h2 h=>b.kp c o h1 h2 (a.kp c o h1 h2 h)⟩
theorem Kept.grow(a:Kept p ha G G1)(b:ax G1 G2):Kept p ha G G2:=⟨λc o h1 h2 h=>b.kp c o (a.kp c o h1 h2 h)⟩
theorem Kept.eqs(a:Kept p ha G G1)(b:∀c,c≠p->c≠ha->G2 c=G1 c):Kept p ha G G2:=⟨λc o h1 h2 h=>by rw[b c h1 h2];exact a.kp c o h1 h2 h⟩
theorem Kept.none(a:Kept p ha G G1)(h1:q≠p)(h2:q≠ha)(h:G1 q=none):G q=none:=by
 cases e:G q with
 | none=>rfl
 | some o=>rw[a.kp q o h1 h2 e] at h;cases h
structure Pairs(rs:List Row):Prop where
 go:∀(j x:Nat) (n:Int) (k:Nat),rs[j]?=some (Row.go x n k)->rs[k]?=some (.aL x n j)
 co:∀(j x:Nat) (n:Int) (k:Nat),rs[j]?=some (Row.aL x n k)->rs[k]?=some (.go x n j)
theorem oh{α:Type}{xs:List α}{i:Nat}{x:α}(h:xs[i]?=some x):i<xs.length:=(M4.mp h).1
theorem wc8(h:bu rs bs s=true):s<rs.length:=by
 by_cases q:s<rs.length
 ·exact q
 ·unfold bu at h;rw[L9 ()] at h;cases h
theorem vn2(h:eA rs bs s=true):s≠0:=by
 intro e;subst e;cases h
theorem x84{rs:List Row}{bs:List Int}{s sz:Nat}(hp:Pairs rs)(c:jj sz rs bs s)(hm:bu rs bs s=true) :
  jj sz rs (bV rs bs s).2 (bV rs bs s).1/\eA rs (bV rs bs s).2 (bV rs bs s).1=true/\fi rs (bV rs bs s).2 (bV rs bs s).1=(s,bs):=by
 have dQ:=wc8 hm;have hg:=B7 dQ;have az:=c.ro _ (N0 dQ);have pln:∀row:Row,rs[s]=row->row.plain=true->bV rs bs s=(s+1,cH 1 bs row)/\(eA rs (cH 1 bs row) (s+1)=true/\fi rs (cH 1 bs row) (s+1)=(s,bs)):=by
  intro row bp bZ;have h1:=Kn (bs:=bs) dQ (by rw[bp];exact bZ);have h2:=XI (bs:=cH 1 bs row) dQ (by rw[bp];exact bZ);rw[bp] at h1 h2;rw[bp] at az;refine#[h1.2,h2.1,?_];rw[h2.2,ux3 (.inl rfl) c.bo az]
 have fin:∀row:Row,rs[s]=row->row.plain=true->jj sz rs (bV rs bs s).2 (bV rs bs s).1/\eA rs (bV rs bs s).2 (bV rs bs s).1=true/\fi rs (bV rs bs s).2 (bV rs bs s).1=(s,bs):=by
  intro row bp bZ;obtain⟨h1,h2,h3⟩:=pln row bp bZ;rw[h1];rw[bp] at az;exact#[#[Qn c.bo az,c.ro,dQ],h2,h3]
 cases bp:rs[s] with
 | add x o=>exact fin _ bp rfl
 | take x o=>exact fin _ bp rfl
 | turn x i cs=>exact fin _ bp rfl
 | swap x y=>exact fin _ bp rfl
 | go x n k =>
  have hk:=hp.go s x n k (by rw[hg,bp]);have Tx:=oh hk
  by_cases h:gt bs x=n
  ·have e:bV rs bs s=(k+1,bs):=by unfold bV;rw[hg,bp];simp[h]
   rw[e];refine#[#[c.bo,c.ro,Tx],?_,?_]
   ·show eA rs bs (k+1)=true
    unfold eA;rw[if_neg (),K7,hk]
   ·show fi rs bs (k+1)=(s,bs)
    unfold fi;rw[K7,hk];simp[h]
  ·have e:bV rs bs s=(s+1,bs):=by unfold bV;rw[hg,bp];simp[h]
   rw[e];refine#[#[c.bo,c.ro,dQ],?_,?_]
   ·show eA rs bs (s+1)=true
    unfold eA;rw[if_neg (),K7,hg,bp];simp[h]
   ·show fi rs bs (s+1)=(s,bs)
    unfold fi;rw[K7,hg,bp];rfl
 | aL x n k =>
  have h:¬ gt bs x=n:=by unfold bu at hm;rw[hg,bp] at hm;simpa using hm
  have e:bV rs bs s=(s+1,bs):=by unfold bV;rw[hg,bp];rfl
  rw[e];refine#[#[c.bo,c.ro,dQ],?_,?_]
  ·show eA rs bs (s+1)=true
   unfold eA;rw[if_neg (),K7,hg,bp]
  ·show fi rs bs (s+1)=(s,bs)
   unfold fi;rw[K7,hg,bp];simp[h]
theorem x85{rs:List Row}{bs:List Int}{s sz:Nat}(hp:Pairs rs)(c:jj sz rs bs s)(hm:eA rs bs s=true) :
  jj sz rs (fi rs bs s).2 (fi rs bs s).1/\bu rs (fi rs bs s).2 (fi rs bs s).1=true/\bV rs (fi rs bs s).2 (fi rs bs s).1=(s,bs):=by
 have hle:=c.le;obtain⟨t,rfl⟩:∃t,s=t+1:=#[s-1,by have:=vn2 hm;omega];have dQ:t<rs.length:=hle;have hg:=B7 dQ;have az:=c.ro _ (N0 dQ);have fin:∀row:Row,rs[t]=row->row.plain=true->jj sz rs (fi rs bs (t+1)).2 (fi rs bs (t+1)).1/\bu rs (fi rs bs (t+1)).2 (fi rs bs (t+1)).1=true/\bV rs (fi rs bs (t+1)).2 (fi rs bs (t+1)).1=(t+1,bs):=by
  intro row bp bZ;have h2:=XI (bs:=bs) dQ (by rw[bp];exact bZ);have h1:=Kn (bs:=cH (-1) bs row) dQ (by rw[bp];exact bZ);rw[bp] at h1 h2 az;rw[h2.2];have sb:=ux3 (s:=-1) (.inr rfl) c.bo az;rw[show(-(-1):Int)=1 from rfl] at sb;refine#[#[Qn c.bo az,c.ro,O2 dQ],h1.1,?_]
  show bV rs (cH (-1) bs row) t=_
  rw[h1.2,sb]
 cases bp:rs[t] with
 | add x o=>exact fin _ bp rfl
 | take x o=>exact fin _ bp rfl
 | turn x i cs=>exact fin _ bp rfl
 | swap x y=>exact fin _ bp rfl
 | aL x n k =>
  have hk:=hp.co t x n k (by rw[hg,bp]);have Tx:=oh hk
  by_cases h:gt bs x=n
  ·have e:fi rs bs (t+1)=(k,bs):=by unfold fi;rw[K7,hg,bp];simp[h]
   rw[e];refine#[#[c.bo,c.ro,O2 Tx],?_,?_]
   ·show bu rs bs k=true
    unfold bu;rw[hk]
   ·show bV rs bs k=(t+1,bs)
    unfold bV;rw[hk];simp[h]
  ·have e:fi rs bs (t+1)=(t,bs):=by unfold fi;rw[K7,hg,bp];simp[h]
   rw[e];refine#[#[c.bo,c.ro,O2 dQ],?_,?_]
   ·show bu rs bs t=true
    unfold bu;rw[hg,bp];simp[h]
   ·show bV rs bs t=(t+1,bs)
    unfold bV;rw[hg,bp];rfl
 | go x n k =>
  have h:¬ gt bs x=n:=by unfold eA at hm;rw[if_neg (),K7,hg,bp] at hm;simpa using hm
  have e:fi rs bs (t+1)=(t,bs):=by unfold fi;rw[K7,hg,bp];rfl
  rw[e];refine#[#[c.bo,c.ro,O2 dQ],?_,?_]
  ·show bu rs bs t=true
   unfold bu;rw[hg,bp]
  ·show bV rs bs t=(t+1,bs)
   unfold bV;rw[hg,bp];simp[h]
def od:Option Row->D
 | none=>.non
 | some r=>r.d
end Law
namespace Law
open PySem L2 L3 Rw
theorem ZK{α:Type}{xs:List α}{x:α}:da (xs++[x]) (-1)=some x:=by
 rw[CN];unfold iU;rw[if_neg ∅,B4,U8,if_pos (),B02];have:((-1:Int)+((xs.length+1:Nat):Int)).toNat=xs.length:=()
 rw[this,E8 (B8 _),U4];rfl
theorem cE.grow(h:cE G st)(g:ax G G'):cE G' st:=by
 obtain⟨a,ns,k,r,h1,h2,h3⟩:=h.ex;exact#[a,ns,k,r,g.kp _ _ h1,g.kp _ _ h2,h3]
theorem lF{s:Nat}:J4 ("rows" :Str) (cY ra ha s)=some (D.ref ra)/\J4 ("held" :Str) (cY ra ha s)=some (D.ref ha)/\J4 ("spot" :Str) (cY ra ha s)=some (D.int (s:Int)) /\
  J4 ("place" :Str) (cY ra ha s)=none/\J4 ("boxes" :Str) (cY ra ha s)=none/\J4 ("forth" :Str) (cY ra ha s)=none/\J4 ("back" :Str) (cY ra ha s)=none/\J4 ("at_end" :Str) (cY ra ha s)=none/\J4 ("at_begin" :Str) (cY ra ha s)=none /\
  J4 ("may_forth" :Str) (cY ra ha s)=none/\J4 ("may_back" :Str) (cY ra ha s)=none/\(∀v:D,putD ("spot" :Str) v (cY ra ha s)=([("rows",.ref ra),("held",.ref ha),("spot",v)]:List (Str×D))):=by
 refine#[?_,?_,?_,?_,?_,?_,?_,?_,?_,?_,?_,λv=>?_] <;> simp only[cY,eJ,str_beq,C6,decide_false,decide_true,beq_self_eq_true,F6,P1,putD,if_false,if_true]
theorem PY:(cY ra ha s).length<1000:=show 3<1000 by decide
theorem wy9(r:Row):(∃x m k,r=.go x m k)\/∃w rest,r.d=.tup (.str w::rest)/\(w=("go" :Str))=False/\∀(rs:List Row) (bs:List Int) (s:Nat),rs[s]?=some r->bV rs bs s=(s+1,cH 1 bs r):=by
 cases r with
 | go x m k=>exact .inl #[x,m,k,rfl]
 | aL x m k=>exact .inr #[_,_,rfl,eq_false ∅,λrs bs s h=>by unfold bV;rw[h]]
 | add x o=>exact .inr #[_,_,rfl,eq_false ∅,λrs bs s h=>by unfold bV;rw[h]]
 | take x o=>exact .inr #[_,_,rfl,eq_false ∅,λrs bs s h=>by unfold bV;rw[h]]
 | turn x i cs=>exact .inr #[_,_,rfl,eq_false ∅,λrs bs s h=>by unfold bV;rw[h]]
 | swap x y=>exact .inr #[_,_,rfl,eq_false ∅,λrs bs s h=>by unfold bV;rw[h]]
theorem zI(r:Row):(∃x m k,r=.go x m k)\/(∃x m k,r=.aL x m k)\/∃w rest,r.d=.tup (.str w::rest)/\(w=("go" :Str))=False/\(w=("come" :Str))=False/\r.plain=true:=by
 cases r with
 | go x m k=>exact .inl #[x,m,k,rfl]
 | aL x m k=>exact .inr (.inl #[x,m,k,rfl])
 | add x o=>exact .inr (.inr #[_,_,rfl,eq_false ∅,eq_false ∅,rfl])
 | take x o=>exact .inr (.inr #[_,_,rfl,eq_false ∅,eq_false ∅,rfl])
 | turn x i cs=>exact .inr (.inr #[_,_,rfl,eq_false ∅,eq_false ∅,rfl])
 | swap x y=>exact .inr (.inr #[_,_,rfl,eq_false ∅,eq_false ∅,rfl])
end Law
namespace L3
open PySem PySem.Spec PyProof.Rows L2
theorem uk6:∀ks:List Int,intsOf (ks.map D.int)=some ks
 | []=>rfl
 | k::ks=>by show(intsOf (ks.map D.int)).map (k::·)=_;rw[uk6 ks];rfl
theorem FF{w a b:Str}:decide (w∈[a,b])=(decide (w=a)||decide (w=b)):=by
 by_cases h1:w=a
 ·simp[h1]
 ·by_cases h2:w=b
  ·simp[h2]
  ·simp[h1,h2]
theorem QH:(∀w a b G q,jl false (.str w) (.tup [.str a,.str b]) G q=q (.bl (decide (w=a)||decide (w=b))) G)/\(∀w a b G q,jl true (.str w) (.tup [.str a,.str b]) G q=q (.bl (!(decide (w=a)||decide (w=b)))) G) /\
  (∀v a G q,jl true (.int v) (.ref a) G q=(match bt (G a) with|some ds=>(match intsOf ds with|some ws=>q (.bl (!decide (v∈ws))) G|none=>False)|none=>False)) /\
  (∀v a G q,jl false (.int v) (.ref a) G q=(match bt (G a) with|some ds=>(match intsOf ds with|some ws=>q (.bl (decide (v∈ws))) G|none=>False)|none=>False)) /\
  (∀i j G q,fZ true (.bl i) (.bl j) G q=q (.bl (!decide (i=j))) G)/\(∀i j G q,fZ false (.bl i) (.bl j) G q=q (.bl (decide (i=j))) G) /\
  (∀a b G q,kg (.ref a) (.ref b) G q=(match G a,G b with|some (.lst xs),some (.lst ys)=>xs.length+ys.length<=sizeLine/\∀p,G p=none->q (.ref p) (aG G p (.lst (xs++ys)))|_,_=>False))/\((2<=sizeLine)=True):=by
 refine#[λw a b G q=>?_,λw a b G q=>?_,λ_ _ _ _=>rfl,λ_ _ _ _=>rfl,λ_ _ _ _=>rfl,λ_ _ _ _=>rfl,λ_ _ _ _=>rfl,eq_true ∅]
 ·show q (.bl (decide (w∈[a,b]))) G=_
  rw[FF]
 ·show q (.bl (!decide (w∈[a,b]))) G=_
  rw[FF]
end L3
namespace Law
open PySem L2 L3 Rw
def fj(fw:Bool)(rs:List Row)(bs:List Int)(s:Nat):Bool:=if fw=true then bu rs bs s else eA rs bs s
def dP(fw:Bool)(rs:List Row)(bs:List Int)(s:Nat):Nat×List Int:=if fw=true then bV rs bs s else fi rs bs s
theorem Bh(hp:Pairs rs)(c:jj sz rs bs s)(hm:fj fw rs bs s=true) :
  jj sz rs (dP fw rs bs s).2 (dP fw rs bs s).1/\fj (!fw) rs (dP fw rs bs s).2 (dP fw rs bs s).1=true/\dP (!fw) rs (dP fw rs bs s).2 (dP fw rs bs s).1=(s,bs):=by
 cases fw with
 | true=>exact x84 hp c hm
 | false=>exact x85 hp c hm
def lU(m:Nat):Row->Row
 | .add x o=>.take x o
 | .take x o=>.add x o
 | .go x n k=>.aL x n (m-1-k)
 | .aL x n k=>.go x n (m-1-k)
 | r=>r
def iK(rs:List Row):List Row:=(rs.map (lU rs.length)).reverse
theorem xK:(iK rs).length=rs.length:=by unfold iK;rw[Q9,B0]
theorem Kp(h:rs[j]?=some r):(iK rs)[rs.length-1-j]?=some (lU rs.length r):=by
 have hj:=oh h;unfold iK;rw[Wi (by rw[B0];omega),B0,show rs.length-1-(rs.length-1-j)=j by omega,F0,h];rfl
theorem Yx(h:(iK rs)[j]?=some r):∃r0,rs[rs.length-1-j]?=some r0/\r=lU rs.length r0:=by
 have hj:=oh h;rw[xK] at hj;have hg:=B7 (l:=rs) (i:=rs.length-1-j) ();refine#[_,hg,?_];have q:=Kp hg;rw[show rs.length-1-(rs.length-1-j)=j by omega,h] at q;exact E7 q
theorem Pairs.lt{rs:List Row}(hp:Pairs rs){j:Nat}{r:Row}(h:rs[j]?=some r):∀x n k,(r=.go x n k\/r=.aL x n k)->k<rs.length:=by
 intro x n k hr
 rcases hr with rfl|rfl
 ·exact oh (hp.go _ _ _ _ h)
 ·exact oh (hp.co _ _ _ _ h)
theorem w08{r:Row}(h:r.ok sz):(lU m r).ok sz:=by
 cases r <;> exact h
theorem Yy(h:∀r∈rs,r.ok sz):∀r∈iK rs,r.ok sz:=by
 intro r hr;unfold iK at hr;obtain⟨r0,h0,rfl⟩:=K2.mp (B97.mp hr);exact w08 (h r0 h0)
theorem uq0(hp:Pairs rs):Pairs (iK rs):=by
 refine#[λj x n k e=>?_,λj x n k e=>?_]
 ·have hj:=oh e
  rw[xK] at hj;obtain⟨r0,h0,e0⟩:=Yx e;cases r0 with
  | aL x' n' k' =>
   cases e0;have q:=hp.co _ _ _ _ h0;have:=Kp q;rw[this]
   show some (Row.aL x n (rs.length-1-(rs.length-1-j)))=_
   rw[show rs.length-1-(rs.length-1-j)=j by omega]
  | add _ _=>cases e0
  | take _ _=>cases e0
  | turn _ _ _=>cases e0
  | swap _ _=>cases e0
  | go _ _ _=>cases e0
 ·have hj:=oh e
  rw[xK] at hj;obtain⟨r0,h0,e0⟩:=Yx e;cases r0 with
  | go x' n' k' =>
   cases e0;have q:=hp.go _ _ _ _ h0;have:=Kp q;rw[this]
   show some (Row.go x n (rs.length-1-(rs.length-1-j)))=_
   rw[show rs.length-1-(rs.length-1-j)=j by omega]
  | add _ _=>cases e0
  | take _ _=>cases e0
  | turn _ _ _=>cases e0
  | swap _ _=>cases e0
  | aL _ _ _=>cases e0
theorem Rr(hp:Pairs rs)(hs:s<=rs.length):bu (iK rs) bs (rs.length-s)=eA rs bs s/\(eA rs bs s=true->bV (iK rs) bs (rs.length-s)=(rs.length-(fi rs bs s).1,(fi rs bs s).2)):=by
 cases s with
 | zero =>
  refine#[?_,λh=>by cases h]
  show bu (iK rs) bs (rs.length-0)=false
  rw[JE,<- xK (rs:=rs)];exact GX
 | succ t =>
  have hg:=B7 (show t<rs.length by omega);have ht:=Kp hg;rw[show rs.length-1-t=rs.length-(t+1) by omega] at ht;have hk:=hp.lt hg;have e1:rs.length-(t+1)+1=rs.length-t:=()
  unfold bu eA bV fi;rw[if_neg (),K7,hg,ht];cases hr:rs[t] with
  | add x o =>
   refine#[rfl,λ_=>?_]
   show(rs.length-(t+1)+1,bs.set x ((gt bs x-1*val bs o)%4294967296))=(rs.length-t,bs.set x ((gt bs x+-1*val bs o)%4294967296))
   rw[e1,show gt bs x-1*val bs o=gt bs x+-1*val bs o by omega]
  | take x o =>
   refine#[rfl,λ_=>?_]
   show(rs.length-(t+1)+1,bs.set x ((gt bs x+1*val bs o)%4294967296))=(rs.length-t,bs.set x ((gt bs x - -1*val bs o)%4294967296))
   rw[e1,show gt bs x - -1*val bs o=gt bs x+1*val bs o by omega]
  | turn x i cs=>exact#[rfl,λ_=>by rw[<- e1];rfl]
  | swap x y=>exact#[rfl,λ_=>by rw[<- e1];rfl]
  | go x n k =>
   refine#[rfl,λ_=>?_]
   show(rs.length-(t+1)+1,bs)=(rs.length-t,bs)
   rw[e1]
  | aL x n k =>
   have rK:=hk x n k (.inr hr);refine#[rfl,λ_=>?_]
   show(if gt bs x=n then(rs.length-1-k+1,bs) else(rs.length-(t+1)+1,bs))=(rs.length-(if gt bs x=n then(k,bs) else(t,bs)).1,(if gt bs x=n then(k,bs) else(t,bs)).2)
   by_cases h:gt bs x=n
   ·rw[if_pos h,if_pos h,show rs.length-1-k+1=rs.length-k by omega]
   ·rw[if_neg h,if_neg h,e1]
end Law
namespace L2
open PySem PySem.Spec PyProof.Rows
section
variable{X:Cx}
theorem vh8(hc:X.calm=true):bK X (.builtin "max") (λxs H Q=>∃(p:Addr) (ns:List Int),xs=[.ref p]/\eG X.K H p (ns.map V.int)/\0<ns.length/\∀M:Int,M∈ns->(∀a∈ns,a<=M)->Q (.int M) H):=by
 intro pins s σ H xs us Q I r h;obtain⟨p,ns,rfl,hq,eC,q⟩:=h;obtain⟨u,rfl,rx⟩:=vals1 r;cases rx;obtain⟨its,r',pl,hz⟩:=I.list hq;have hi:u_ its ns:=intsAre_of r';obtain⟨ys,hx⟩:=hi.allInts.items;have kT:s.heap.IsList p (UQ ys):=hx▸pl.isList;have e1:ns=ys.toList.map (·.1):=by
  rw[<- Vr,<- hx];exact(show numsOf its.toArray.toList=ns from hi.numsOf).symm
 have hsz:0<ys.size:=by
  have h3:=eC;rw[e1,B0,K8] at h3;exact h3
 refine max_intList (I.ok.hd hc) kT hsz λv h' tk hv hk=>?_
 obtain⟨t,rfl⟩:=intItems_at hv;obtain⟨h1,h2⟩:=argBest_gt (numAt ys) (ys.size-1);refine#[.int _,H,I.kept hk,#[_,rfl],q _ ?_ λa ha=>?_]
 ·rw[e1,Me];exact getD_mem (by rw[B0,K8];omega)
 ·rw[e1] at ha
  obtain⟨j,hj,rfl⟩:=mem_getD ha;rw[B0,K8] at hj;rw[<- Me];exact h2 j ()
theorem vh6(hc:X.calm=true):bK X (.builtin "min") (λxs H Q=>∃(p:Addr) (ns:List Int),xs=[.ref p]/\eG X.K H p (ns.map V.int)/\0<ns.length/\∀M:Int,M∈ns->(∀a∈ns,M<=a)->Q (.int M) H):=by
 intro pins s σ H xs us Q I r h;obtain⟨p,ns,rfl,hq,eC,q⟩:=h;obtain⟨u,rfl,rx⟩:=vals1 r;cases rx;obtain⟨its,r',pl,hz⟩:=I.list hq;have hi:u_ its ns:=intsAre_of r';obtain⟨ys,hx⟩:=hi.allInts.items;have kT:s.heap.IsList p (UQ ys):=hx▸pl.isList;have e1:ns=ys.toList.map (·.1):=by
  rw[<- Vr,<- hx];exact(show numsOf its.toArray.toList=ns from hi.numsOf).symm
 have hsz:0<ys.size:=by
  have h3:=eC;rw[e1,B0,K8] at h3;exact h3
 refine min_intList (I.ok.hd hc) kT hsz λv h' tk hv hk=>?_
 obtain⟨t,rfl⟩:=intItems_at hv;obtain⟨h1,h2⟩:=argBest_lt (numAt ys) (ys.size-1);refine#[.int _,H,I.kept hk,#[_,rfl],q _ ?_ λa ha=>?_]
 ·rw[e1,Me];exact getD_mem (by rw[B0,K8];omega)
 ·rw[e1] at ha
  obtain⟨j,hj,rfl⟩:=mem_getD ha;rw[B0,K8] at hj;rw[<- Me];exact h2 j ()
end
end L2
namespace L3
open PySem PySem.Spec PyProof.Rows L2
section
variable{X:Cx}
def CV:C3:=λds G q=>match ds with
 | [.ref a]=>(match bt (G a) with|some xs=>(match xG xs with|some bs=>0<bs.length/\∀M:Int,M∈bs->(∀z∈bs,z<=M)->q (.int M) G|none=>False)|none=>False)
 | _=>False
def PN:C3:=λds G q=>match ds with
 | [.ref a]=>(match bt (G a) with|some xs=>(match xG xs with|some bs=>0<bs.length/\∀M:Int,M∈bs->(∀z∈bs,M<=z)->q (.int M) G|none=>False)|none=>False)
 | _=>False
theorem YH(hc:X.calm=true:=by rfl):Call3 X (.builtin "max") CV:=nV (vh8 hc) λxs H Q ⟨ds,G,q,r,c,t,f⟩=>by
 unfold CV at t;split at t
 ·obtain⟨v,rfl,r1⟩:=r.one
  cases r1.ai;split at t
  ·rename_i ds e
   obtain⟨ys,s1,q1⟩:=d_ c e;split at t
   ·rename_i bs eb
    have:=K_ eb q1;subst this;exact#[_,bs,rfl,s1,t.1,λM h1 h2=>f _ _ _ _ ae.cz c (Le.refl H) (t.2 M h1 h2)]
   ·exact t.elim
  ·exact t.elim
 ·exact t.elim
theorem wj2(hc:X.calm=true:=by rfl):Call3 X (.builtin "min") PN:=nV (vh6 hc) λxs H Q ⟨ds,G,q,r,c,t,f⟩=>by
 unfold PN at t;split at t
 ·obtain⟨v,rfl,r1⟩:=r.one
  cases r1.ai;split at t
  ·rename_i ds e
   obtain⟨ys,s1,q1⟩:=d_ c e;split at t
   ·rename_i bs eb
    have:=K_ eb q1;subst this;exact#[_,bs,rfl,s1,t.1,λM h1 h2=>f _ _ _ _ ae.cz c (Le.refl H) (t.2 M h1 h2)]
   ·exact t.elim
  ·exact t.elim
 ·exact t.elim
theorem DB:∀ks:List Int,xG (ks.map D.int)=some ks
 | []=>rfl
 | k::ks=>by show(xG (ks.map D.int)).map (k::·)=_;rw[DB ks];rfl
end
end L3
namespace Law
open PySem L2 L3 Rw
def mv(a:Nat):Row->Row
 | .go x n k=>.go x n (k+a)
 | .aL x n k=>.aL x n (k+a)
 | r=>r
def dG(acc rs:List Row):List Row:=acc++rs.map (mv acc.length)
def iT:List Row->List (List Row)->List Row
 | acc,[]=>acc
 | acc,rs::r=>iT (dG acc rs) r
structure bY where
 sz:Nat
 ra:Addr
 rs:List Row
def bY.d(c:bY):D:=.tup [.int (c.sz:Int),.ref c.ra]
def gW(cs:List bY):Nat:=cs.foldr (λc n=>max c.sz n) 0
theorem Kk(h:c∈cs):c.sz<=gW cs:=by
 induction cs with
 | nil=>cases h
 | cons d cs ih =>
  show c.sz<=max d.sz (gW cs)
  rcases E6.mp h with rfl|h
  ·omega
  ·have:=ih h;omega
theorem wc5{cs:List bY}(h:0<cs.length):∃c∈cs,c.sz=gW cs:=by
 induction cs with
 | nil=>cases h
 | cons d cs ih =>
  by_cases hc:0<cs.length
  ·obtain⟨c,hm,e⟩:=ih hc
   by_cases hd:d.sz<=gW cs
   ·exact#[c,C7 _ hm,by show c.sz=max d.sz (gW cs);omega]
   ·exact#[d,D3,by show d.sz=max d.sz (gW cs);omega]
  ·have:cs=[]:=D7 ()
   subst this;exact#[d,D3,by show d.sz=max d.sz 0;omega]
theorem wy2{cs:List bY}(h:0<cs.length)(h1:M∈cs.map λc=>(c.sz:Int))(h2:∀z∈cs.map (λc=>(c.sz:Int)),z<=M):M=(gW cs:Int):=by
 obtain⟨c,hc,e⟩:=K2.mp h1;obtain⟨d,hd,e2⟩:=wc5 h;have a:=Kk hc;have b:=h2 (d.sz:Int) (K2.mpr #[d,hd,rfl]);omega
theorem xa9{r:Row}(h:r.ok sz):(mv a r).ok sz:=by cases r <;> exact h
theorem KL:(dG acc rs).length=acc.length+rs.length:=by unfold dG;rw[B4,B0]
theorem YO{acc rs:List Row}{j:Nat}{r:Row}(h:acc[j]?=some r):(dG acc rs)[j]?=some r:=by
 unfold dG;rw[F8 (oh h)];exact h
theorem Qr(h:rs[j]?=some r):(dG acc rs)[acc.length+j]?=some (mv acc.length r):=by
 unfold dG;rw[E8 (),show acc.length+j-acc.length=j by omega,F0,h];rfl
theorem YQ(h:(dG acc rs)[j]?=some r):acc[j]?=some r\/∃i r0,j=acc.length+i/\rs[i]?=some r0/\r=mv acc.length r0:=by
 by_cases hj:j<acc.length
 ·left;unfold dG at h;rw[F8 hj] at h;exact h
 ·right
  unfold dG at h;rw[E8 (),F0] at h;cases e:rs[j-acc.length]? with
  | none=>rw[e] at h;cases h
  | some r0=>rw[e] at h;cases h;exact#[j-acc.length,r0,(),e,rfl]
theorem v49(h1:Pairs acc)(h2:Pairs rs):Pairs (dG acc rs):=by
 refine#[λj x n k e=>?_,λj x n k e=>?_]
 ·rcases YQ e with q|⟨i,r0,rfl,q,e0⟩
  ·exact YO (h1.go _ _ _ _ q)
  ·cases r0 with
   | go x' n' k' =>
    cases e0;have:=Qr (acc:=acc) (h2.go _ _ _ _ q);rw[P7 k' acc.length,this,P7 acc.length i];rfl
   | add _ _=>cases e0
   | take _ _=>cases e0
   | turn _ _ _=>cases e0
   | swap _ _=>cases e0
   | aL _ _ _=>cases e0
 ·rcases YQ e with q|⟨i,r0,rfl,q,e0⟩
  ·exact YO (h1.co _ _ _ _ q)
  ·cases r0 with
   | aL x' n' k' =>
    cases e0;have:=Qr (acc:=acc) (h2.co _ _ _ _ q);rw[P7 k' acc.length,this,P7 acc.length i];rfl
   | add _ _=>cases e0
   | take _ _=>cases e0
   | turn _ _ _=>cases e0
   | swap _ _=>cases e0
   | go _ _ _=>cases e0
theorem Rc:∀{L:List (List Row)} {acc:List Row},Pairs acc->(∀rs∈L,Pairs rs)->Pairs (iT acc L)
 | [],_,h,_=>h
 | rs::L,acc,h,hL=>Rc (L:=L) (v49 h (hL rs D3)) λr hr=>hL r (C7 _ hr)
theorem P_:∀{L:List (List Row)} {acc:List Row},(∀r∈acc,r.ok sz)->(∀rs∈L,∀r∈rs,r.ok sz)->∀r∈iT acc L,r.ok sz
 | [],_,h,_=>h
 | rs::L,acc,h,hL=>P_ (L:=L) (λr hr=>by
   unfold dG at hr
   rcases K1.mp hr with q|q
   ·exact h r q
   ·obtain⟨r0,h0,rfl⟩:=K2.mp q
    exact xa9 (hL rs D3 r0 h0)) λr hr=>hL r (C7 _ hr)
theorem Zh:∀{L:List (List Row)} {acc:List Row},∃t,iT acc L=acc++t
 | [],acc=>#[[],by rw[E4];rfl]
 | rs::L,acc=>by
  obtain⟨t,e⟩:=Zh (L:=L) (acc:=dG acc rs);exact#[rs.map (mv acc.length)++t,by show iT (dG acc rs) L=_;rw[e,dG,E2]]
theorem wz7(h:rs[j]?=some r):(iT acc (rs::L))[acc.length+j]?=some (mv acc.length r):=by
 obtain⟨t,e⟩:=Zh (L:=L) (acc:=dG acc rs)
 show(iT (dG acc rs) L)[acc.length+j]?=_
 have:=Qr (acc:=acc) h;rw[e,F8 (oh this)];exact this
theorem Pairs.nil:Pairs []:=#[λj x n k e=>by simp at e,λj x n k e=>by simp at e]
theorem vy{b r:List Int}(h:x<b.length):gt (b++r) x=gt b x:=by
 unfold gt;rw[J0,J0,F8 h]
theorem ZD{b r:List Int}{o:nY}(h:o.ok b.length x):val (b++r) o=val b o:=by
 cases o with
 | num n=>rfl
 | box y=>exact vy h.1
theorem YX{b r:List Int}:∀{cs:List (Nat×Nat)},(∀c∈cs,c.1<b.length)->con (b++r) cs=con b cs
 | [],_=>rfl
 | c::cs,h=>by
  unfold con;rw[U6,U6,vy (h c D3)]
  congr 1
  exact YX λd hd=>h d (C7 _ hd)
theorem KH{b r:List Int}{row:Row}(h:row.ok b.length):cH s (b++r) row=cH s b row++r:=by
 cases row with
 | add x o=>show(b++r).set x _=b.set x _++r;rw[V5 _ _ h.1,vy h.1,ZD h.2]
 | take x o=>show(b++r).set x _=b.set x _++r;rw[V5 _ _ h.1,vy h.1,ZD h.2]
 | turn x i cs =>
  show(if con (b++r) cs=true then(b++r).set x _ else b++r)=(if con b cs=true then b.set x _ else b)++r
  rw[YX λc hc=>(h.2.2.2 c hc).1,vy h.1,V5 _ _ h.1];split <;> rfl
 | swap x y =>
  show((b++r).set x _).set y _=(b.set x _).set y _++r
  rw[V5 _ _ h.1,V5 _ _ (by rw[J5];exact h.2.1),vy h.1,vy h.2.1]
 | go x n k=>rfl
 | aL x n k=>rfl
theorem xa4(hw:∀(j:Nat) (row:Row),rs[j]?=some row->W[a+j]?=some (mv a row))(c:jj sz rs b s)(hs:s<rs.length) :
  bu W (b++r) (a+s)=bu rs b s/\(bu rs b s=true->bV W (b++r) (a+s)=(a+(bV rs b s).1,(bV rs b s).2++r)):=by
 have hg:=B7 hs;have hW:=hw s _ hg;have az:=c.ro _ (N0 hs);rw[<- c.bo.len] at az;unfold bu bV;rw[hg,hW];cases hr:rs[s] with
 | add x o=>rw[hr] at az;exact#[rfl,λ_=>by show(a+s+1,cH 1 (b++r) (.add x o))=_;rw[KH az];rfl]
 | take x o=>rw[hr] at az;exact#[rfl,λ_=>by show(a+s+1,cH 1 (b++r) (.take x o))=_;rw[KH az];rfl]
 | turn x i cs=>rw[hr] at az;exact#[rfl,λ_=>by show(a+s+1,cH 1 (b++r) (.turn x i cs))=_;rw[KH az];rfl]
 | swap x y=>rw[hr] at az;exact#[rfl,λ_=>by show(a+s+1,cH 1 (b++r) (.swap x y))=_;rw[KH az];rfl]
 | go x n k =>
  rw[hr] at az;refine#[rfl,λ_=>?_]
  show(if gt (b++r) x=n then(k+a+1,b++r) else(a+s+1,b++r))=(a+(if gt b x=n then(k+1,b) else(s+1,b)).1,(if gt b x=n then(k+1,b) else(s+1,b)).2++r)
  rw[vy az.1]
  by_cases h:gt b x=n
  ·rw[if_pos h,if_pos h,show k+a+1=a+(k+1) by omega]
  ·rw[if_neg h,if_neg h];rfl
 | aL x n k =>
  rw[hr] at az;refine#[?_,λ_=>rfl]
  show(!decide (gt (b++r) x=n))=!decide (gt b x=n)
  rw[vy az.1]
theorem kH{n len d:Nat}(h:n<=len):HT.b9 len d (some (n:Int))=n:=by
 unfold HT.b9;simp only[];split
 ·omega
 ·rw[Q4];omega
def rn(fw:Bool)(rs:List Row):Nat->Nat->List Int->Nat×Nat×List Int
 | 0,s,bs=>(0,s,bs)
 | n+1,s,bs=>if fj fw rs bs s=true then((rn fw rs n (dP fw rs bs s).1 (dP fw rs bs s).2).1+1,(rn fw rs n (dP fw rs bs s).1 (dP fw rs bs s).2).2) else(0,s,bs)
theorem ux(h:fj fw rs bs s=true):rn fw rs (n+1) s bs=((rn fw rs n (dP fw rs bs s).1 (dP fw rs bs s).2).1+1,(rn fw rs n (dP fw rs bs s).1 (dP fw rs bs s).2).2):=by
 show(if fj fw rs bs s=true then _ else _)=_
 rw[if_pos h]
theorem xJ(h:fj fw rs bs s=false):rn fw rs n s bs=(0,s,bs):=by
 cases n with
 | zero=>rfl
 | succ n=>show(if fj fw rs bs s=true then _ else _)=_;rw[if_neg (by rw[h];exact D2)]
theorem XN(hp:Pairs rs):∀{n s:Nat} {bs:List Int},jj sz rs bs s->jj sz rs (rn fw rs n s bs).2.2 (rn fw rs n s bs).2.1
 | 0,_,_,c=>c
 | n+1,s,bs,c=>by
  cases h:fj fw rs bs s with
  | false=>rw[xJ h];exact c
  | true=>rw[ux h];exact XN hp (Bh hp c h).1
theorem Zs(hp:Pairs rs):∀{n s:Nat} {bs:List Int} (m:Nat),jj sz rs bs s->(rn true rs n s bs).1<=m ->
  rn false rs m (rn true rs n s bs).2.1 (rn true rs n s bs).2.2=((rn true rs n s bs).1+(rn false rs (m-(rn true rs n s bs).1) s bs).1,(rn false rs (m-(rn true rs n s bs).1) s bs).2)
 | 0,s,bs,m,_,_=>by show rn false rs m s bs=(0+(rn false rs (m-0) s bs).1,(rn false rs (m-0) s bs).2);rw[L0,JE]
 | n+1,s,bs,m,c,hm=>by
  cases h:fj true rs bs s with
  | false =>
   rw[xJ h]
   show rn false rs m s bs=(0+(rn false rs (m-0) s bs).1,(rn false rs (m-0) s bs).2)
   rw[L0,JE]
  | true =>
   have un:=Bh hp c h;rw[ux h] at hm⊢;have hm':(rn true rs n (dP true rs bs s).1 (dP true rs bs s).2).1+1<=m:=hm;have ih:=Zs hp (n:=n) m un.1 ()
   show rn false rs m (rn true rs n (dP true rs bs s).1 (dP true rs bs s).2).2.1 (rn true rs n (dP true rs bs s).1 (dP true rs bs s).2).2.2=((rn true rs n (dP true rs bs s).1 (dP true rs bs s).2).1+1+_,_)
   rw[ih];generalize (rn true rs n (dP true rs bs s).1 (dP true rs bs s).2).1=a at hm'⊢;have h2:fj false rs (dP true rs bs s).2 (dP true rs bs s).1=true:=un.2.1;have h3:dP false rs (dP true rs bs s).2 (dP true rs bs s).1=(s,bs):=un.2.2;rw[show m-a=(m-(a+1))+1 by omega,ux h2,h3]
   show(a+((rn false rs (m-(a+1)) s bs).1+1),_)=(a+1+(rn false rs (m-(a+1)) s bs).1,_)
   rw[show∀b:Nat,a+(b+1)=a+1+b from λb=>()]
end Law
namespace L2
open PySem PySem.Spec PyProof.Rows
theorem Inv.vH{X:Cx}{pins:List (Addr×Obj)}{σ:List (Option V)}{H:Hp}{s:Shared}{h':Heap}{t':Nat}{fp:List Addr}(I:Inv X pins σ H s)(k:∀b o,b∉fp->s.heap.get? b=some o->h'.get? b=some o)
  (f:∀b∈fp,fS X pins H b):Inv X pins σ H { s with heap:=h',toks:=t'}:=by
 have qL:∀b u,H b=some u->b∉fp:=λb u e z=>by rw[(f b z).1] at e;cases e
 refine I.step (g':=s.gens) (d':=s.drawn) (ch:=fp) (λb hb=>?_) (λb o _ _ hc e _=>k b o hc e) (λb o _ _ hc e _=>#[o.slots,k b o hc e]) (λ_ _ _ _ n=>n)
  (λb o hc e=>#[o,k b o hc e]) (λ_ _ e=>e) (λ_ _ _ e=>e) (λb ps e=>#[[].toArray,by rw[e];simp]) (λm hm=>?_) (λb u e=>?_) I.bare
 ·obtain⟨g0,g1,g2,g3,g4,g5⟩:=f b hb
  exact#[g3,g1,g4,g5]
 ·obtain⟨o,es,ep,ho,r⟩:=hm
  exact#[o,es,ep,k _ o (λz=>(f _ z).2.1 rfl) ho,r]
 ·refine(I.az b u e).eN (λc v hc q=>k c v ?_ q) (λ_ q=>q) λ_ _ q=>q
  rcases hc with z|z
  ·rw[z];exact qL b u e
  ·exact qL c _ z
theorem Inv.vI{X:Cx}{pins:List (Addr×Obj)}{σ:List (Option V)}{H:Hp}{s:Shared}{h':Heap}{t':Nat}{fp:List Addr}{o:HO}(I:Inv X pins σ H s)(k:∀b o,b∉fp->s.heap.get? b=some o->h'.get? b=some o)
  (f:∀b∈fp,fS X pins H b) (new:bh X.prog X.w (upd H s.heap.objs.size o) h' s.heap.objs.size o):Inv X pins σ (upd H s.heap.objs.size o) { s with heap:=h',toks:=t'}:=by
 have hn:H s.heap.objs.size=none:=I.az.fresh (B8 _);have old:∀b u,H b=some u->b≠s.heap.objs.size:=λb u q z=>by rw[z,hn] at q;cases q
 have qL:∀b u,H b=some u->b∉fp:=λb u e z=>by rw[(f b z).1] at e;cases e
 refine I.step (g':=s.gens) (d':=s.drawn) (ch:=fp) (λb hb=>?_) (λb o _ _ hc q _=>k b o hc q) (λb o _ _ hc q _=>#[o.slots,k b o hc q]) (λb u _ q n=>?_)
  (λb o hc q=>#[o,k b o hc q]) (λb xs q=>?_) (λb o u q=>?_) (λb ps q=>#[[].toArray,?_]) (λm hm=>?_) (λb u q=>?_) I.bare
 ·obtain⟨g0,g1,g2,g3,g4,g5⟩:=f b hb
  exact#[g3,g1,g4,g5]
 ·rw[cq (I0 (D5 q))];exact n
 ·rw[cq (old b _ q)];exact q
 ·rw[cq (old b _ q)];exact q
 ·rw[cq (old b _ q),q];simp
 ·obtain⟨o,es,ep,ho,r⟩:=hm
  exact#[o,es,ep,k _ o (λz=>(f _ z).2.1 rfl) ho,r]
 ·by_cases hb:b=s.heap.objs.size
  ·subst hb;rw[f'] at q;cases q;exact new
  ·rw[cq hb] at q
   refine(I.az b u q).eN (λc v hc z=>?_) (λc z=>by rw[cq (old c _ z)];exact z) (λc xs z=>by rw[cq (old c _ z)];exact z) λc _ _ z=>by rw[cq (old c _ z)];exact z
   rcases hc with y|y
   ·subst y;exact k _ v (qL _ u q) z
   ·exact k c v (qL c _ y) z
end L2
namespace L3
open PySem PySem.Spec PyProof.Rows L2
def vg:List D->List D->List D
 | d::r,e::t=>.tup [d,e]::vg r t
 | _,_=>[]
theorem QI:∀{ds es:List D},(vg ds es).length=min ds.length es.length
 | [],[]=>rfl
 | [],_::_=>by simp[vg]
 | _::_,[]=>by simp[vg]
 | _::r,_::t=>by show(vg r t).length+1=_;rw[QI];simp
theorem ZG:∀{i:Nat} {ds es:List D} {d e:D},ds[i]?=some d->es[i]?=some e->(vg ds es)[i]?=some (.tup [d,e])
 | 0,d::r,e::t,_,_,h1,h2=>by cases h1;cases h2;rfl
 | i+1,d::r,e::t,_,_,h1,h2=>ZG (i:=i) (ds:=r) (es:=t) (by simpa using h1) (by simpa using h2)
 | _,[],_,_,_,h,_=>by simp at h
 | _,_::_,[],_,_,_,h=>by simp at h
end L3
namespace L3
open PySem PySem.Spec PyProof.Rows L2 Rw
def pc(b m:Nat):Nat:=(D1 b).countP λi=>m.testBit i
theorem wi6(a b:Nat):R7 (a:Int) (b:Int)=((a &&& b:Nat):Int):=by
 unfold R7;simp
theorem wp8(a b:Nat):JG (a:Int) (b:Int)=((a ||| b:Nat):Int):=by
 have h1:∀x:Nat,¬ (0<=U7 (x:Int)):=λx=>by unfold U7;omega
 have h2:∀x:Int,U7 (U7 x)=x:=λx=>by unfold U7;omega
 unfold JG R7;simp only[h1,decide_false,h2,Q4]
end L3
namespace L2
open PySem PySem.Spec PyProof.Rows
abbrev uz(h:Heap)(z TI TO T:Addr)(f:Bool):Prop:=h.get? z=some { cls:=.type "zip",data:=.fields [rawInt (T:Int),.bool f,.bool false,.ref TI,.ref TO].toArray}
end L2
namespace L3
open PySem PySem.Spec PyProof.Rows L2
section
variable{X:Cx}{o:Expr}{to:bw}{apos aJ:Pos}
def yV:U3:=λx G q=>match x with|.int i=>q (.int (U7 i)) G|_=>False
theorem x81:xh X (Co .Invert) (v_ X.K yV):=YE wk4 <| by
 rintro x H Q ⟨d,G,q,r1,c,t,f⟩;unfold yV at t;split at t
 ·exact#[_,r1.int_inv,f _ _ _ _ ae.cz c (Le.refl H) t]
 ·exact t.elim
end
end L3
namespace L3
open PySem PySem.Spec PyProof.Rows L2 Rw
abbrev Mv:=Bool×Nat
def nD(x:Nat):D:=.int (x:Int)
def xr(m k:Nat):Nat:=m ^^^ 2^(k-1)
def hi(m:Nat):Nat:=if m=0 then 0 else m.log2+1
theorem xa5{m i:Nat}(h:m.testBit i=false):m ||| 2^i=m ^^^ 2^i:=Y7 λj=>by
 rw[C23,VC,W6]
 by_cases e:i=j
 ·subst e;rw[h];simp
 ·simp[e]
theorem wp7{m i:Nat}(h:m.testBit i=true):m ||| 2^i=m:=Y7 λj=>by
 rw[C23,W6]
 by_cases e:i=j
 ·subst e;rw[h];rfl
 ·simp[e]
theorem wi5{m i:Nat}(h:m.testBit i=true):m &&& 2^i=2^i:=Y7 λj=>by
 rw[C13,W6]
 by_cases e:i=j
 ·subst e;rw[h];rfl
 ·simp[e]
theorem x34{m i:Nat}(h:m.testBit i=false):m &&& 2^i=0:=Y7 λj=>by
 rw[C13,W6,Nat.zero_testBit]
 by_cases e:i=j
 ·subst e;rw[h];rfl
 ·simp[e]
theorem YJ:∀{i m:Nat},m.testBit i=true->(m ^^^ 2^i)+2^i=m
 | 0,m,h=>by
  have h1:m%2=1:=by rw[MU] at h;simpa using h
  have h2:(m ^^^ 1) / 2=m / 2:=by rw[C14];simp
  have h3:(m ^^^ 1)%2=0:=by
   have:(m ^^^ 1).testBit 0=false:=by rw[VC,h];rfl
   rw[MU] at this;have:=of_decide_eq_false this;omega
  show(m ^^^ 1)+1=m
  omega
 | i+1,m,h=>by
  have h0:(m / 2).testBit i=true:=by rw[<- Nat.testBit_succ];exact h
  have ih:=YJ h0;have e1:2^(i+1) / 2=2^i:=by rw[C68];omega
  have h2:(m ^^^ 2^(i+1)) / 2=m / 2 ^^^ 2^i:=by rw[C14,e1]
  have h3:(m ^^^ 2^(i+1))%2=m%2:=by
   have a:(m ^^^ 2^(i+1)).testBit 0=m.testBit 0:=by
    rw[VC,W6];simp
   rw[MU,MU] at a;have b:=decide_eq_decide.mp a;omega
  rw[C68] at h2 h3⊢;omega
theorem xor_int(m i:Nat):JH (m:Int) (1*2^i)=((m ^^^ 2^i:Nat):Int):=by
 have e:(1*2^i:Int)=((2^i:Nat):Int):=by simp
 unfold JH;rw[e,wp8,wi6];cases h:m.testBit i with
 | true =>
  rw[wp7 h,wi5 h];have:=YJ h;omega
 | false =>
  rw[xa5 h,x34 h];simp
def fin:Nat->List Mv->Nat
 | m,[]=>m
 | m,p::r=>fin (xr m p.2) r
def low:Nat->List Mv->Nat
 | m,[]=>hi m
 | m,p::r=>min (low (xr m p.2) r) (hi m)
def Ru:Nat->List Mv->List Mv
 | _,[]=>[]
 | m,p::r=>if p.2<=low (xr m p.2) r then p::Ru (xr m p.2) r else Ru (xr m p.2) r
def once(w:List Mv):List Mv:=Ru 0 w
def hD(x:Nat):D:=nD (hi x)
end L3
namespace L3
open PySem PySem.Spec PyProof.Rows L2
section
variable{X:Cx}{K:W.Frag}{H:Hp}
theorem ux8{H:Hp}:∀ns:List Int,af K H (ns.map D.int) (ns.map V.int)
 | []=>.nil
 | _::ns=>.cons ae.cz (ux8 ns)
end
end L3
namespace L3
open PySem PySem.Spec PyProof.Rows L2 Rw
def cnt:Nat->Nat->Nat
 | 0,_=>0
 | n+1,m=>cnt n m+(if m.testBit n then 1 else 0)
theorem vj5(ha:G a=some (.lst xs))(hb:G b=some (.lst ys))(hz:xs.length+ys.length<=sizeLine)(k:∀p,G p=none->q (.ref p) (aG G p (.lst (xs++ys)))):kg (.ref a) (.ref b) G q:=by
 unfold kg;simp only[ha,hb];exact#[hz,k]
theorem v54{G:Gp}{a:Addr}{ns:List Int}{q:DK}(h:bt (G a)=some (ns.map .int))(eC:0<ns.length)(k:∀M:Int,M∈ns->(∀z∈ns,z<=M)->q (.int M) G):CV [.ref a] G q:=by
 unfold CV;simp only[h,DB];exact#[eC,k]
theorem Dd(h:∀ds G R,¬ S ds G R):Ok P w mg base n d S :=
 #[λvs H Q E ⟨ds,G,R,_,_,s,_⟩=>absurd s (h ds G R),λA outer s H args us vs Q E _ _ _ _ ⟨ds,G,R,_,_,s,_⟩=>absurd s (h ds G R)]
theorem vz4(ha:G a=some (.lst xs))(hb:G b=some (.lst ys))(hz:xs.length+ys.length<=100000)(k:∀p,G p=none->q (.ref p) (aG G p (.lst (xs++ys)))):kg (.ref a) (.ref b) G q :=
 vj5 ha hb (O2 (C8 hz ∅)) k
end L3
namespace Law
open PySem L2 L3 Rw
theorem eV.grow(a:eV st G G1)(g:ax G1 G2):eV st G G2:=#[a.at_.grow g,λc o h e=>g.kp _ _ (a.kp c o h e)]
end Law
namespace L3
open PySem PySem.Spec PyProof.Rows L2
def kD:Key->D
 | .inl i=>.int i
 | .inr x=>.str x
section
variable{X:Cx}{K:W.Frag}{G:Gp}{H:Hp}{p:Addr}
theorem QQ:∀{ks:List Key} {xs:List V},af K H (ks.map kD) xs->xs=ks.map kV
 | [],xs,r=>r.aR
 | .inl i::ks,xs,r=>by
  obtain⟨x,rq,rfl,h1,h2⟩:=r.aj;rw[(show ae K H (.int i) x from h1).int_inv,QQ h2];rfl
 | .inr z::ks,xs,r=>by
  obtain⟨x,rq,rfl,h1,h2⟩:=r.aj;rw[(show ae K H (.str z) x from h1).str_inv,QQ h2];rfl
theorem Le.dT(h:H p=some (.dT xs)):Le H (upd H p (.dT ys)) :=
  ⟨fun b zs q => by by_cases e : b = p
                    · subst e;rw[h] at q;cases q
                    · rw[cq e];exact q,
   fun b o u q => by by_cases e : b = p
                     · subst e;rw[h] at q;cases q
                     · rw[cq e];exact q⟩
end
end L3
namespace L2
open PySem PySem.Spec PyProof.Rows
def ux1(ta:TA):TE:=λσ H Q=>ta σ H λvs H1=>∃i j:Int,vs=[.int i,.int j]/\(-1000000<=i/\i<=1000000/\-1000000<=j/\j<=1000000)/\∀l,H1 l=none->Q (.ref l) (upd H1 l (.lst ((D1 (j-i).toNat).map λk:Nat=>V.int (i+k))))
theorem ZL:Q6 "list" = some (.type "list"):=∅
theorem v26{X:Cx}(hr:aM k X.A)(hg:Gl X "range")(hm:X.mg "range" = none)(qQ:Gl X "list")(eD:X.mg "list" = none)(ha:PA X [a,b] ta)
  (hs:C5 [a,b] X.env=[(false,eval a X.env),(false,eval b X.env)]:=by rfl) (fW:C5 [b] X.env=[(false,eval b X.env)]:=by rfl)
  (cy:C5 [.Call (.Name "range" p) [a,b] [] pos] X.env=[(false,eval (.Call (.Name "range" p) [a,b] [] pos) X.env)]:=by rfl) :
  PE X (.Call (.Name "list" p2) [.Call (.Name "range" p) [a,b] [] pos] [] jr) (ux1 ta):=by
 intro pins s σ H Q I h;refine N6 (oj I qQ eD ZL ?_);refine J1 ?_ cy rfl;rw[cy]
 show wpAny _ _ (spliced ((false,eval (.Call (.Name "range" p) [a,b] [] pos) X.env)::backTo jr [])) _ _ s
 refine Q0 ?_;refine N6 (oj I hg hm Jv (J1 (a_ (ha pos pins s σ H _ I h) λus s1 ⟨vs,H1,I1,r1,q1⟩=>?_) (by rw[hs,fW]) (by rw[fW];rfl)));obtain⟨i,j,e,⟨b1,b2,b3,b4⟩,q⟩:=q1;subst e;cases r1 with
 | cons r rr =>
  cases rr with
  | cons r2 rr =>
   cases rr;obtain⟨t,rfl⟩:=r;obtain⟨t2,rfl⟩:=r2;refine call_range_2 ?_;refine R8 ?_;have hn:O5 i j 1=(((j-i).toNat:Nat):Int):=by rw[Vu];split <;> omega
   refine call_list_range (hh:=hr.hd) (Mt ..) (UW () () () ()) hn () λh' tk acc c kp su hit=>?_
   have FQ:∀b o,s1.heap.get? b=some o->h'.get? b=some o:=λb o e=>kp b o (B6 _ e)
   have hv:Vals ((D1 (j-i).toNat).map λk:Nat=>V.int (i+k)) acc.toList:=by
    have hz:acc.size=(j-i).toNat:=hit.1;have key:∀(m:Nat) (l:List Value),(∀(y:Nat) v,l[y]?=some v->∃t,v=.int (i+(y:Int)) t)->l.length=m->Vals ((D1 m).map λk:Nat=>V.int (i+k)) l:=by
     intro m
     induction m with
     | zero=>intro l _ hl;have:l=[]:=D7 hl;subst this;exact .nil
     | succ m ih =>
      intro l hl hz
      rcases B40 l with e|⟨l',v,e⟩
      ·subst e;simp at hz
      ·rw[B41] at e
       subst e;have FV:l'.length=m:=by simpa using hz
       rw[R0,B9];refine(ih l' (λy v e=>hl y v ?_) FV).append (.cons ?_ .nil)
       ·rw[F8 (M4.mp e).1];exact e
       ·obtain⟨t,e⟩:=hl m v (by rw[<- FV];simp)
        exact#[t,e]
    refine key _ acc.toList (λy v e=>?_) (by simpa using hz);obtain⟨t,e⟩:=hit.2 y v (by simpa using e);exact#[t,by rw[e,Mu]]
   have pN:((D1 (j-i).toNat).map λk:Nat=>V.int (i+k)).length<=sizeLine:=by
    rw[B0,D9];exact O2 (C8 (m:=3000000) () ∅)
   have I2:=I1.laid (h':=h') (a:=s1.heap.objs.size+1) (o:=.lst ((D1 (j-i).toNat).map λk:Nat=>V.int (i+k))) (t':=tk) FQ (X4 _) #[pN,acc.toList,c,hv,by simpa using su];exact#[_,_,I2,by simp;rfl,q _ (I1.az.fresh (X4 _))]
end L2
namespace L3
open PySem PySem.Spec PyProof.Rows L2
def QM(t:dz):bw:=λσ G q=>t σ G λds G1=>match ds with
 | [.int i,.int j]=>(-1000000<=i/\i<=1000000/\-1000000<=j/\j<=1000000)/\∀p,G1 p=none->q (.ref p) (aG G1 p (.lst (cn i (j-i).toNat)))
 | _=>False
theorem QA{K:W.Frag}{H:Hp}{i:Int}:∀l:List Nat,af K H (l.map λk:Nat=>D.int (i+k)) (l.map λk:Nat=>V.int (i+k))
 | []=>.nil
 | _::l=>.cons ae.cz (QA l)
theorem uu6{K:W.Frag}{t:dz}{σ:L2.St}{H:Hp}{Q:VK}(h:aI K (QM t) σ H Q):ux1 (dE K t) σ H Q:=by
 obtain⟨σd,G,q,rs,c,t,f⟩:=h;refine#[σd,G,_,rs,c,t,λds G1 vs H1 r1 c1 l1 t1=>?_];split at t1
 ·rename_i i j
  obtain⟨x,y,rfl,x1,x2⟩:=r1.two;cases x1.int_inv;cases x2.int_inv;exact#[i,j,rfl,t1.1,λp hp=>f _ _ _ _ ae.fh (c1.cL hp (QA _)) (l1.trans (Le.fresh hp)) (t1.2 p (c1.fresh hp))]
 ·exact t1.elim
theorem vf0{X:Cx}(hr:aM k X.A)(hg:Gl X "range")(hm:X.mg "range" = none)(qQ:Gl X "list")(eD:X.mg "list" = none)(ha:A3 X [a,b] ts)
  (hs:C5 [a,b] X.env=[(false,eval a X.env),(false,eval b X.env)]:=by rfl) (fW:C5 [b] X.env=[(false,eval b X.env)]:=by rfl)
  (cy:C5 [.Call (.Name "range" p) [a,b] [] pos] X.env=[(false,eval (.Call (.Name "range" p) [a,b] [] pos) X.env)]:=by rfl) :
  E3 X (.Call (.Name "list" p2) [.Call (.Name "range" p) [a,b] [] pos] [] jr) (QM ts):=dA (v26 hr hg hm qQ eD ha hs fW cy) λ_ _ _=>uu6
end L3
namespace L2
open PySem PySem.Spec PyProof.Rows
def jn(sep:Str)(ws:List Str):Str:=D09 sep ws
section
variable{X:Cx}
theorem up9:∀{ws:List Str} {us:List Value},Vals (ws.map V.str) us->∃l:List (Str×Tok),us=strValues l/\l.map (·.1)=ws
 | [],_,.nil=>#[[],rfl,rfl]
 | w::ws,_,.cons r t=>by
  obtain⟨l,rfl,e⟩:=up9 t;obtain⟨k,rfl⟩:=r;exact#[(w,k)::l,rfl,by rw[C0,e]]
def rJoin(K:W.Frag):V->List V->Hp->VK->Prop:=λx vs H Q=>∃(sep:Str) (p:Addr) (ws:List Str),x=.str sep/\vs=[.ref p]/\eG K H p (ws.map V.str)/\Z6 ((ws.toArray).foldl (·+·.length+sep.length) 0)=false/\(jn sep ws).length<=sizeLine/\Q (.str (jn sep ws)) H
theorem wc7:yn X "str.join" (rJoin X.K):=by
 intro pins s σ H x vs v us Q I rx rv h;obtain⟨sep,p,ws,rfl,rfl,hq,hl,hz,q⟩:=h;obtain⟨t,rfl⟩:=rx;obtain⟨u,rfl,ru⟩:=rv.one;cases ru;obtain⟨its,r',pl,_⟩:=I.list hq;obtain⟨l,rfl,e⟩:=up9 r';refine AR F.slot_str_join (Ml _ _ _) F.entry_str_join (F.args_str_join_2 _ _) (meets_str_join_list sep t p l (by rw[e];exact hl)) #[pl.isList,?_]
 match l,e with
 | [],e =>
  subst e;exact#[hz,.str _,H,I.tok _,#[_,rfl],q]
 | [a],e =>
  subst e;exact#[.str _,H,I,#[_,rfl],q]
 | a::b::l,e =>
  subst e;exact#[hz,.str _,H,I.tok _,#[_,rfl],q]
end
end L2
namespace L3
open PySem PySem.Spec PyProof.Rows L2
section
variable{X:Cx}{K:W.Frag}{H:Hp}{o e:Expr}{es:List Expr}{to:bw}{ts:dz}{apos aJ:Pos}
@[reducible] def WW:M3:=λx ds G q=>∃(sep:Str) (a:Addr) (ws:List Str),x=.str sep/\ds=[.ref a]/\bt (G a)=some (ws.map .str)/\Z6 ((ws.toArray).foldl (·+·.length+sep.length) 0)=false/\(jn sep ws).length<=sizeLine/\q (.str (jn sep ws)) G
theorem ux9:∀{ws:List Str} {vs:List V},af K H (ws.map .str) vs->vs=ws.map V.str
 | [],vs,r=>r.aR
 | w::ws,vs,r=>by
  obtain⟨x,ys,rfl,h1,h2⟩:=r.aj;rw[ux9 h2,h1.str_inv];rfl
theorem ty_str(K:W.Frag):∀G H x v,b_ K G H->ae K H x v->ko G "str" x->DC K "str" v H:=by
 intro G H x v c r t;cases x with
 | str i=>cases r.str_inv;exact rfl
 | int _=>simp[ko] at t
 | ref a=>cases e:G a with
  | none=>simp[ko,e] at t
  | some o=>cases o <;> simp[ko,e] at t
 | _=>exact t.elim
theorem x18(ho:E3 X o to)(ha:A3 X (e::es) ts)(cB:O1 o "join" X.env (eval o X.env)=eval o X.env:=by rfl)
  (gQ:((backTo aJ (C5 (e::es) X.env)).all (λx=>!x.1)&&(V8 aJ (P4 [] X.env)).all (λx=>x.1.isSome)
   && decide ((e::es).length+([]:List Keyword).length+(if([]:List Keyword).isEmpty then 0 else 1)<30))=true:=by rfl)
  (cA:(apos.endLine==aJ.line)=true:=by rfl) (hs:C5 (e::es) X.env=(false,eval e X.env)::C5 es X.env:=by rfl) (fM:(backTo aJ (C5 es X.env)).any (·.1)=false:=by rfl) :
  E3 X (.Call (.Attribute o "join" apos) (e::es) [] aJ) (Ce "str" WW to ts) :=
 dA (NX PySem.F.plainAttrs_str PySem.F.slot_str_join PySem.F.type_str_join (Qq (r':=wb X.K WW) wc7 <| by
  rintro x xs H Q ⟨d,ds,G,q,r1,r2,c,⟨sep,a,ws,rfl,rfl,es,h1,h2,t⟩,f⟩;obtain⟨v,rfl,r3⟩:=r2.one;cases r3.ai;cases r1.str_inv;obtain⟨ys,s1,q1⟩:=d_ c es;obtain rfl:=ux9 q1;exact#[sep,a,ws,rfl,rfl,s1,h1,h2,f _ _ _ _ ae.zt c (Le.refl H) t]) ho ha cB gQ cA hs fM) λ_ _ _=>Qc (ty_str X.K)
theorem wz6:∀ws:List Str,(jn Y2 ws).length=(ws.map Mp).sum:=by
 have key:∀(ws:List Str) (acc:Array Nat),(ws.foldl (λacc p=>acc++Y2.cps++p.cps) acc).size=acc.size+(ws.map Mp).sum:=by
  intro ws
  induction ws with
  | nil=>intro acc;simp
  | cons w ws ih =>
   intro acc;rw[VD,ih,VR,VR]
   show acc.size+0+w.cps.size+_=_
   rw[C0,N1]
   show _=acc.size+(w.cps.size+_)
   omega
 intro ws;cases ws with
 | nil=>rfl
 | cons w ws =>
  show(ws.foldl (λacc p=>acc++Y2.cps++p.cps) w.cps).size=_
  rw[key];rfl
end
end L3
namespace L3
open PySem PySem.Spec PyProof.Rows L2 Rw
inductive hV
 | num (i:Nat)
 | box (x:Str)
def aD:hV->D
 | .num i=>.int (i:Int)
 | .box x=>.str x
inductive aq
 | is (x:Str) (a:hV)
 | op (x o:Str) (a b:hV)
 | eF (a:hV) (ys ns:List aq)
 | gV (k:Nat) (ys:List aq)
mutual
def cI:aq->D
 | .is x a=>.tup [.str "is",.str x,aD a]
 | .op x o a b=>.tup [.str "op",.str x,.str o,aD a,aD b]
 | .eF a ys ns=>.tup [.str "choose",aD a,.tup (bB ys),.tup (bB ns)]
 | .gV k ys=>.tup [.str "times",.int (k:Int),.tup (bB ys)]
def bB:List aq->List D
 | []=>[]
 | r::rs=>cI r::bB rs
end
theorem vD:∀rs:List aq,bB rs=rs.map cI
 | []=>rfl
 | r::rs=>by rw[bB,vD rs];rfl
theorem oo(rs:List aq):(bB rs).length=rs.length:=by rw[vD,B0]
theorem DA(a b:List aq):bB (a++b)=bB a++bB b:=by rw[vD,vD,vD,B9]
def jt(W:Nat)(bs:List Str):hV->Prop
 | .num i=>i<2^W
 | .box x=>x∈bs
def signs:List Str:=["+", "-", "&", "|", "^", "<", "="]
mutual
def qI(W:Nat)(bs:List Str):aq->Prop
 | .is x a=>x∈bs/\jt W bs a
 | .op x o a b=>x∈bs/\o∈signs/\jt W bs a/\jt W bs b
 | .eF a ys ns=>jt W bs a/\dY W bs ys/\dY W bs ns
 | .gV k ys=>k<=20/\dY W bs ys
def dY(W:Nat)(bs:List Str):List aq->Prop
 | []=>True
 | r::rs=>qI W bs r/\dY W bs rs
end
theorem cP:∀{a b:List aq},dY W bs (a++b)↔dY W bs a/\dY W bs b
 | [],b=>by simp[dY]
 | r::a,b=>by
  show qI W bs r/\dY W bs (a++b)↔(qI W bs r/\dY W bs a)/\dY W bs b
  rw[cP,and_assoc]
mutual
def jB:aq->Nat
 | .is _ _=>0
 | .op _ _ _ _=>0
 | .eF _ ys ns=>1+max (aS ys) (aS ns)
 | .gV _ ys=>1+aS ys
def aS:List aq->Nat
 | []=>0
 | r::rs=>max (jB r) (aS rs)
end
theorem xM:∀{a b:List aq},aS (a++b)=max (aS a) (aS b)
 | [],b=>by simp[aS]
 | r::a,b=>by
  show max (jB r) (aS (a++b))=max (max (jB r) (aS a)) (aS b)
  rw[xM];omega
mutual
def kh:aq->Nat
 | .is _ _=>1
 | .op _ _ _ _=>1
 | .eF _ ys ns=>1+bX ys+bX ns
 | .gV k ys=>k*bX ys
def bX:List aq->Nat
 | []=>0
 | r::rs=>kh r+bX rs
end
theorem zi:∀{a b:List aq},bX (a++b)=bX a+bX b
 | [],b=>by simp[bX]
 | r::a,b=>by
  show kh r+bX (a++b)=kh r+bX a+bX b
  rw[zi];omega
mutual
def oq:aq->Nat
 | .is _ _=>1
 | .op _ _ _ _=>1
 | .eF _ ys ns=>1+cf ys+cf ns
 | .gV _ ys=>1+cf ys
def cf:List aq->Nat
 | []=>0
 | r::rs=>oq r+cf rs
end
theorem Bx:∀{a b:List aq},cf (a++b)=cf a+cf b
 | [],b=>by simp[cf]
 | r::a,b=>by
  show oq r+cf (a++b)=oq r+cf a+cf b
  rw[Bx];omega
theorem w17:∀r:aq,1<=oq r
 | .is _ _=>B8 _
 | .op _ _ _ _=>B8 _
 | .eF _ ys ns=>by show 1<=1+cf ys+cf ns;omega
 | .gV _ ys=>by show 1<=1+cf ys;omega
theorem Kg:∀rs:List aq,rs.length<=cf rs
 | []=>B8 _
 | r::rs=>by
  have:=w17 r;have:=Kg rs
  show rs.length+1<=oq r+cf rs
  omega
inductive Hd
 | c1 (a:hV)
 | c2 (a:hV) (ys:List aq)
 | tm (k:Nat)
def hdD:Hd->D
 | .c1 a=>.tup [.str "choose",aD a]
 | .c2 a ys=>.tup [.str "choose",aD a,.tup (bB ys)]
 | .tm k=>.tup [.str "times",.int (k:Int)]
structure Fr where
 p:Addr
 ahead:List aq
 hd:Hd
 o:Nat
def Hd.wt:Hd->Nat
 | .c1 _=>1
 | .c2 _ ys=>1+bX ys
 | .tm _=>0
def Hd.ok(W:Nat)(bs:List Str):Hd->Prop
 | .c1 a=>jt W bs a
 | .c2 a ys=>jt W bs a/\dY W bs ys
 | .tm k=>k<=20
theorem Dj:∀{ys:List aq} {d:Nat},aS ys<=d->∀r∈ys,jB r<=d
 | [],_,_,r,h=>by cases h
 | y::ys,d,hd,r,h=>by
  simp only[aS] at hd
  rcases E6.mp h with e|e
  ·subst e;omega
  ·exact Dj () r e
end L3
namespace L2
open PySem PySem.Spec PyProof.Rows
section
variable{X:Cx}
def x93(K:W.Frag):R2:=λx y H Q=>∃a b xs ys,x=.ref a/\y=.ref b/\dS K H a xs/\dS K H b ys/\xs.length+ys.length<=sizeLine /\
 (xs=[]->Q (.ref b) H)/\(xs≠[]->ys=[]->Q (.ref a) H)/\(∀p,H p=none->Q (.ref p) (upd H p (.tup (xs++ys))))
theorem wc1:dy X (M0 .Add) (x93 X.K):=by
 intro pins s σ H x y v u Q I rx ry h;obtain⟨a,b,xs,ys,rfl,rfl,ha,hb,hz,q0,q1,q2⟩:=h
 by_cases hx:xs=[]
 ·cases rx
  cases ry;obtain⟨its,r1,p1,_⟩:=I.tuple ha;obtain⟨aW,r2,p2,_⟩:=I.tuple hb;obtain⟨⟨cls,dd,data,sl⟩,ho,hc,n,hd⟩:=id p1;obtain⟨⟨Up,uX,data2,qE⟩,z9,yd,n2,hd2⟩:=id p2;simp only at hc hd yd hd2;subst hc hd yd hd2;exact Vk #[_,ho,rfl] #[_,z9,rfl] VI Vt Wm Wq (Z9 _ _)
   (tuple_addW0 a b its.toArray aW.toArray n n2 dd uX sl qE (by simp[r1.iz.mpr hx])) #[ho,z9,#[.ref b,H,I,rfl,q0 hx]]
 ·exact pH pins s σ H (.ref a) (.ref b) v u Q I rx ry #[a,b,xs,ys,rfl,rfl,ha,hb,hx,hz,q1 hx,λ_=>q2]
end
end L2
namespace L3
open PySem PySem.Spec PyProof.Rows L2
section
variable{X:Cx}
def J_:R3:=λx y G q=>match x,y with
 | .tup a,.tup b=>a.length+b.length<=sizeLine/\q (.tup (a++b)) G
 | _,_=>False
theorem YF:gF X (M0 .Add) J_:=rV wc1 <| by
 rintro x y H Q ⟨d,e,G,q,r1,r2,c,t,f⟩;unfold J_ at t;split at t
 ·obtain⟨a,xs,rfl,s1,q1⟩:=r1.aK
  obtain⟨b,ys,rfl,s2,q2⟩:=r2.aK;have e:∀{bs:List D},af X.K H bs []->bs=[]:=λh=>D7 h.length
  refine#[a,b,xs,ys,rfl,rfl,s1,s2,by rw[<- q1.length,<- q2.length];exact t.1,λz=>?_,λ_ z=>?_,λp hp=>?_]
  ·refine f (.tup _) G (.ref b) _ ?_ c (Le.refl _) t.2
   rw[ae];subst z;rw[e q1,J6];exact#[b,_,rfl,s2,q2]
  ·refine f (.tup _) G (.ref a) _ ?_ c (Le.refl _) t.2
   rw[ae];subst z;rw[e q2,E4];exact#[a,_,rfl,s1,q1]
  ·refine f (.tup _) G (.ref p) _ ?_ (c.side hp) (Le.fresh hp) t.2
   rw[ae];exact#[p,_,rfl,dS.of f',af.le (Le.fresh hp) (q1.append q2)]
 ·exact t.elim
end
end L3
namespace L2
open PySem PySem.Spec PyProof.Rows
def tyN:Bool->String
 | true => "tuple_iterator"
 | false => "list_iterator"
def dt(c:Bool)(h:Heap)(it l:Addr)(i:Nat):Prop:=∃o,h.get? it=some o/\o.cls=.type (tyN c)/\o.data=.fields [.ref l,.int i 0].toArray
def eK(c:Bool)(h:Heap)(l:Addr)(xs:Array Value):Prop:=∃o,h.get? l=some o/\o.cls=.type (cond c "tuple" "list")/\∃n,o.data=.seq xs n
theorem dt.at{h h':Heap}(x:dt c h it l i)(e:∀o,h.get? it=some o->h'.get? it=some o):dt c h' it l i:=let ⟨o,ho,r⟩:=x;#[o,e _ ho,r]
theorem eK.at{h h':Heap}(x:eK c h l xs)(e:∀o,h.get? l=some o->h'.get? l=some o):eK c h' l xs:=let ⟨o,ho,r⟩:=x;#[o,e _ ho,r]
section
variable{prog:Program}{w:World}{A:Around}{E:Value->Shared->Prop}{s:Shared}
theorem wy1(hj:s.heap.IsTupleIter j l i)(hl:s.heap.IsTuple l xs)(hx:xs[i]?=some x)
  (q:∀h',h'.IsTupleIter j l (i+1)->R6 j s.heap h'->Q x { s with heap:=h'}):wpAny (model prog w) A (K6 (.ref j)) Q E s:=by
 obtain⟨u,eu,cu,du⟩:=id hj;obtain⟨v,ev,_,nv,dv⟩:=hl;unfold K6;refine B5 (O7 (name:=C4 "__next__") hj.typeIs F.slot_tuple_iterator_next (P3 F.slot_tuple_iterator_next hj.typeIs F.entry_tuple_iterator_next ?_ (F.args_tuple_iterator_next_1 _)))
 show wpAny _ _ (field (.ref j) 0 >>= _) _ _ s
 refine B5 (L4 eu du (x:=.ref l) rfl ?_)
 show wpAny _ _ (if(F4 l==V9)=true then _ else _) _ _ s
 rw[if_neg (c:=(F4 l==V9)=true) λz=>D2 z]
 show wpAny _ _ (field (.ref j) 1 >>= _) _ _ s
 refine B5 (L4 eu du (x:=.int i 0) rfl ?_)
 show wpAny _ _ (seqItems? (.ref l) >>= _) _ _ s
 refine B5 (M7 ev dv ?_);simp only[Q4,hx];refine B5 (wpAny_setField eu du (by simp) (C2 #[x,rfl,C2 (q _ ?_ (B54 ..))]));refine#[_,B39 _ eu (Obj.isFreed_of_fields (B72 du _)),(Obj.cls_mapFields ..).trans cu,?_];rw[B72 du];simp[rawInt]
theorem v28(hh:A.handled=none)(hj:s.heap.IsTupleIter j l i)(hl:s.heap.IsTuple l xs)(hx:xs[i]?=none)
  (q:∀h' e,C85 j s.heap h'->(∃o,h'.get? e=some o/\o.cls=.type "StopIteration")->E (.ref e) { s with heap:=h'}):wpAny (model prog w) A (K6 (.ref j)) Q E s:=by
 obtain⟨u,eu,cu,du⟩:=id hj;obtain⟨v,ev,_,nv,dv⟩:=hl;unfold K6;refine B5 (O7 (name:=C4 "__next__") hj.typeIs F.slot_tuple_iterator_next (P3 F.slot_tuple_iterator_next hj.typeIs F.entry_tuple_iterator_next ?_ (F.args_tuple_iterator_next_1 _)))
 show wpAny _ _ (field (.ref j) 0 >>= _) _ _ s
 refine B5 (L4 eu du (x:=.ref l) rfl ?_)
 show wpAny _ _ (if(F4 l==V9)=true then _ else _) _ _ s
 rw[if_neg (c:=(F4 l==V9)=true) λz=>D2 z]
 show wpAny _ _ (field (.ref j) 1 >>= _) _ _ s
 refine B5 (L4 eu du (x:=.int i 0) rfl ?_)
 show wpAny _ _ (seqItems? (.ref l) >>= _) _ _ s
 refine B5 (M7 ev dv ?_);simp only[Q4,hx];refine B5 (AS (B5 (wpAny_setField eu du (by simp) ?_)))
 show wpAny _ _ (newExc (.type "StopIteration") [] >>= _) _ _ _
 refine B5 ?_;simp only[newExc,newTuple];refine B5 (T7 ?_ (by size_fits));refine B5 (m:=firstArgMember _ _) (wpAny_of_eq (a:=V9) (by first|rfl|(simp only[firstArgMember];rfl)) ?_);refine T7 ?_ (by size_fits);simp only[raiseNew];refine B5 (wpAny_handled ?_)
 first|rw[show A.in1.handled=none from hh]|rw[hh]
 refine B5 (C2 (wpAny_throw ?_));exact q _ _ (((B54 ..).extBut.push _).push _) ⟨_,D4 _ rfl,rfl⟩
theorem Dl(hj:dt c s.heap j l i)(hl:eK c s.heap l xs)(hx:xs[i]?=some x)
  (q:∀h',dt c h' j l (i+1)->R6 j s.heap h'->Q x { s with heap:=h'}):wpAny (model prog w) A (K6 (.ref j)) Q E s:=by
 cases c with
 | true=>exact wy1 hj hl hx q
 | false=>exact wpAny_nextOf_list_item hj hl hx q
theorem Qg(hh:A.handled=none)(hj:dt c s.heap j l i)(hl:eK c s.heap l xs)(hx:xs[i]?=none)
  (q:∀h' e,C85 j s.heap h'->(∃o,h'.get? e=some o/\o.cls=.type "StopIteration")->E (.ref e) { s with heap:=h'}):wpAny (model prog w) A (K6 (.ref j)) Q E s:=by
 cases c with
 | true=>exact v28 hh hj hl hx q
 | false=>exact wpAny_nextOf_list_end hh hj hl hx q
theorem vz2{c d:Bool}{z TI TO i1 i2 l1 l2:Addr}{k1 k2:Nat}{xs ys:Array Value}{x y a b:Value}{Q:Value->Shared->Prop}(D:ur z TI TO i1 i2 l1 l2)
  (ez:IsZip s.heap z TI TO .none) (eI:IsPair s.heap TI (.ref i1) (.ref i2)) (eO:IsPair s.heap TO a b) (j1:dt c s.heap i1 l1 k1) (j2:dt d s.heap i2 l2 k2) (m1:eK c s.heap l1 xs) (m2:eK d s.heap l2 ys) (hx:xs[k1]?=some x) (hy:ys[k2]?=some y)
  (q:∀h',IsZip h' z TI TO (rawInt s.heap.objs.size)->IsPair h' TO x y->dt c h' i1 l1 (k1+1)->dt d h' i2 l2 (k2+1)->IsPair h' s.heap.objs.size x y->h'.objs.size=s.heap.objs.size+1->(∀e o,e≠z->e≠TO->e≠i1->e≠i2->s.heap.get? e=some o->h'.get? e=some o)->Q (.ref s.heap.objs.size) { s with heap:=h'}) :
  wpAny (model prog w) A (Builtin.«zip.__next__» #[[.ref z],[]]) (λfin s'=>∃v,fin=.done (.ret v)/\Q v s') E s:=by
 show wpAny _ _ (field (.ref z) 2 >>= _) _ _ _
 refine B5 (L4 ez rfl (x:=.bool false) rfl ?_)
 show wpAny _ _ (field (.ref z) 3 >>= _) _ _ _
 refine B5 (L4 ez rfl (x:=.ref TI) rfl ?_);refine B5 (M7 eI rfl ?_)
 show wpAny _ _ (L6 (.ref z) >>= _) _ _ _
 refine B5 ?_;unfold L6;refine B5 (L4 ez rfl (x:=.none) rfl (C2 ?_));simp only[if_true];refine B5 (AS ?_);refine B5 (L4 ez rfl (x:=.ref TO) rfl ?_);refine B5 (Q1 ez (by simp) λg1 e1 b1=>?_)
 replace e1:IsZip g1 z TI TO .ellipsis:=e1
 have u1:∀{e o},e≠z->s.heap.get? e=some o->g1.get? e=some o:=λn z=>(b1.2 _ n).trans z
 refine B5 ?_;simp only[B98,C15,JL,MP];refine B5 (B5 (MI ?_))
 show wpAny _ _ (K6 (.ref i1) >>= _) _ _ _
 refine B5 (Dl (j1.at λo=>u1 D.i1z) (m1.at λo=>u1 D.l1z) hx λg2 n1 b2=>C2 ?_);have u2:∀{e o},e≠i1->g1.get? e=some o->g2.get? e=some o:=λn z=>(b2.2 _ n).trans z
 have o2:IsPair g2 TO a b:=u2 D.TOi1 (u1 D.TOz eO);refine B5 (M7 o2 rfl ?_);refine B5 (V' o2 λg3 o3 b3=>?_)
 replace o3:IsPair g3 TO x b:=o3
 have u3:∀{e o},e≠TO->g2.get? e=some o->g3.get? e=some o:=λn z=>(b3.2 _ n).trans z
 refine B5 (Vb (C2 ?_));refine B5 (B5 (MI ?_))
 show wpAny _ _ (K6 (.ref i2) >>= _) _ _ _
 refine B5 (Dl (j2.at λo e=>u3 (D8 D.TOi2) (u2 (D8 D.i12) (u1 D.i2z e))) (m2.at λo e=>u3 D.l2TO (u2 D.l2i1 (u1 D.l2z e))) hy λg4 n2 b4=>C2 ?_);have u4:∀{e o},e≠i2->g3.get? e=some o->g4.get? e=some o:=λn z=>(b4.2 _ n).trans z
 have o4:IsPair g4 TO x b:=u4 D.TOi2 o3;refine B5 (M7 o4 rfl ?_);refine B5 (V' o4 λg5 o5 b5=>?_)
 replace o5:IsPair g5 TO x y:=o5
 have u5:∀{e o},e≠TO->g4.get? e=some o->g5.get? e=some o:=λn z=>(b5.2 _ n).trans z
 refine B5 (Vb (C2 (C2 ?_)));refine B5 (M7 o5 rfl ?_);refine B5 (wpAny_newTuple ?_);have sz:g5.objs.size=s.heap.objs.size:=by rw[b5.1,b4.1,b3.1,b2.1,b1.1]
 have z5:IsZip g5 z TI TO .ellipsis:=u5 (D8 D.TOz) (u4 (D8 D.i2z) (u3 (D8 D.TOz) (u2 (D8 D.i1z) e1)));have zl:z<g5.objs.size:=D5 z5
 show wpAny _ _ (Z7 (.ref z) (.ref g5.objs.size) >>= _) _ _ _
 refine B5 ?_;unfold Z7;have z6:IsZip (g5.push { cls:=.type "tuple",data:=.seq [x,y].toArray}) z TI TO .ellipsis:=B6 _ z5;refine B5 (Q1 z6 (by simp) λg7 z7 b7=>?_)
 replace z7:IsZip g7 z TI TO (rawInt g5.objs.size):=z7
 refine Q1 z7 (by simp) λg8 z8 b8=>?_
 replace z8:IsZip g8 z TI TO (rawInt g5.objs.size):=z8
 have u8:∀{e o},e≠z->(g5.push { cls:=.type "tuple",data:=.seq [x,y].toArray}).get? e=some o->g8.get? e=some o:=λn z=>(b8.2 _ n).trans ((b7.2 _ n).trans z)
 have t8:IsPair g8 g5.objs.size x y:=u8 (X7 zl) (D4 _ rfl);have s8:g8.objs.size=g5.objs.size+1:=by rw[b8.1,b7.1,N7]
 rw[sz] at z8 t8 s8;refine C2 #[_,rfl,?_]
 show Q (.ref g5.objs.size) _
 rw[sz];have v8:∀{e o},e≠z->g5.get? e=some o->g8.get? e=some o:=λn z=>u8 n (B6 _ z)
 exact q g8 z8 (v8 D.TOz o5) (n1.at λo e=>v8 D.i1z (u5 (D8 D.TOi1) (u4 D.i12 (u3 (D8 D.TOi1) e)))) (n2.at λo e=>v8 D.i2z (u5 (D8 D.TOi2) e)) t8 s8
  λe o p1 p2 p3 p4 h=>v8 p1 (u5 p2 (u4 p4 (u3 p2 (u2 p3 (u1 p1 h)))))
theorem wj0{c d:Bool}{z TI TO i1 i2 l1 l2:Addr}{k1 k2:Nat}{xs ys:Array Value}{a b:Value}{Q:Fin->Shared->Prop}(hh:A.handled=none)(D:ur z TI TO i1 i2 l1 l2)
  (ez:IsZip s.heap z TI TO .none) (eI:IsPair s.heap TI (.ref i1) (.ref i2)) (eO:IsPair s.heap TO a b) (j1:dt c s.heap i1 l1 k1) (j2:dt d s.heap i2 l2 k2) (m1:eK c s.heap l1 xs) (m2:eK d s.heap l2 ys) (Ag:xs[k1]?=none\/ys[k2]?=none)
  (q:∀h' e,(∀e o,e≠z->e≠TO->e≠i1->e≠i2->s.heap.get? e=some o->h'.get? e=some o)->(∃o,h'.get? e=some o/\o.cls=.type "StopIteration")->E (.ref e) { s with heap:=h'}) :
  wpAny (model prog w) A (Builtin.«zip.__next__» #[[.ref z],[]]) Q E s:=by
 show wpAny _ _ (field (.ref z) 2 >>= _) _ _ _
 refine B5 (L4 ez rfl (x:=.bool false) rfl ?_)
 show wpAny _ _ (field (.ref z) 3 >>= _) _ _ _
 refine B5 (L4 ez rfl (x:=.ref TI) rfl ?_);refine B5 (M7 eI rfl ?_)
 show wpAny _ _ (L6 (.ref z) >>= _) _ _ _
 refine B5 ?_;unfold L6;refine B5 (L4 ez rfl (x:=.none) rfl (C2 ?_));simp only[if_true];refine B5 (AS ?_);refine B5 (L4 ez rfl (x:=.ref TO) rfl ?_);refine B5 (Q1 ez (by simp) λg1 e1 b1=>?_)
 replace e1:IsZip g1 z TI TO .ellipsis:=e1
 have u1:∀{e o},e≠z->s.heap.get? e=some o->g1.get? e=some o:=λn z=>(b1.2 _ n).trans z
 refine B5 ?_;simp only[B98,C15,JL,MP];refine B5 (B5 (MI ?_))
 show wpAny _ _ (K6 (.ref i1) >>= _) _ _ _
 have xS:∀{g:Heap} {e:Addr},IsZip g z TI TO .ellipsis->(∃o,g.get? e=some o/\o.cls=.type "StopIteration")->e≠z:=λhz ⟨o,h1,h2⟩ n=>by
  subst n;rw[hz] at h1;cases h1;simp at h2
 cases hx:xs[k1]? with
 | none =>
  refine B5 (Qg hh (j1.at λo=>u1 D.i1z) (m1.at λo=>u1 D.l1z) hx λg2 e b2 he=>?_);have z2:IsZip g2 z TI TO .ellipsis:=b2 _ _ (D8 D.i1z) e1;have ne:=xS z2 he;obtain⟨oe,k1,k2⟩:=he;refine Q1 z2 (by simp) λg3 _ b3=>q g3 e (λf o p1 _ p3 _ h=>(b3.2 _ p1).trans (b2 _ _ p3 (u1 p1 h))) #[oe,(b3.2 _ ne).trans k1,k2]
 | some x =>
  have hy:ys[k2]?=none:=by
   rcases Ag with h|h
   ·rw[hx] at h;cases h
   ·exact h
  refine B5 (Dl (j1.at λo=>u1 D.i1z) (m1.at λo=>u1 D.l1z) hx λg2 n1 b2=>C2 ?_);have u2:∀{e o},e≠i1->g1.get? e=some o->g2.get? e=some o:=λn z=>(b2.2 _ n).trans z
  have o2:IsPair g2 TO a b:=u2 D.TOi1 (u1 D.TOz eO);refine B5 (M7 o2 rfl ?_);refine B5 (V' o2 λg3 o3 b3=>?_);have u3:∀{e o},e≠TO->g2.get? e=some o->g3.get? e=some o:=λn z=>(b3.2 _ n).trans z
  refine B5 (Vb (C2 ?_));refine B5 (B5 (MI ?_))
  show wpAny _ _ (K6 (.ref i2) >>= _) _ _ _
  refine B5 (Qg hh (j2.at λo e=>u3 (D8 D.TOi2) (u2 (D8 D.i12) (u1 D.i2z e))) (m2.at λo e=>u3 D.l2TO (u2 D.l2i1 (u1 D.l2z e))) hy λg4 e b4 he=>?_);have z4:IsZip g4 z TI TO .ellipsis:=b4 _ _ (D8 D.i2z) (u3 (D8 D.TOz) (u2 (D8 D.i1z) e1));have ne:=xS z4 he;obtain⟨oe,k1,k2⟩:=he;refine Q1 z4 (by simp) λg5 _ b5=>q g5 e (λf o p1 p2 p3 p4 h=>(b5.2 _ p1).trans (b4 _ _ p4 (u3 p2 (u2 p3 (u1 p1 h))))) #[oe,(b5.2 _ ne).trans k1,k2]
theorem ZH{c d:Bool}{z TI TO i1 i2 l1 l2:Addr}{k1 k2:Nat}{xs ys:Array Value}{x y a b:Value}{Q:Option Value->Shared->Prop}(D:ur z TI TO i1 i2 l1 l2)
  (ez:IsZip s.heap z TI TO .none) (eI:IsPair s.heap TI (.ref i1) (.ref i2)) (eO:IsPair s.heap TO a b) (j1:dt c s.heap i1 l1 k1) (j2:dt d s.heap i2 l2 k2) (m1:eK c s.heap l1 xs) (m2:eK d s.heap l2 ys) (hx:xs[k1]?=some x) (hy:ys[k2]?=some y)
  (q:∀h',IsZip h' z TI TO (rawInt s.heap.objs.size)->IsPair h' TO x y->dt c h' i1 l1 (k1+1)->dt d h' i2 l2 (k2+1)->IsPair h' s.heap.objs.size x y->h'.objs.size=s.heap.objs.size+1->(∀e o,e≠z->e≠TO->e≠i1->e≠i2->s.heap.get? e=some o->h'.get? e=some o)->Q (some (.ref s.heap.objs.size)) { s with heap:=h'}) :
  wpAny (model prog w) A (pyNext (.ref z)) Q E s:=by
 have ty:s.TypeIs (.ref z) "zip" := #[_,ez,rfl];unfold pyNext;refine B5 (MH (O7 (name:=C4 "__next__") ty F.slot_zip_next (P3 F.slot_zip_next ty F.entry_zip_next ?_ (F.args_zip_next_1 _))));exact vz2 D ez eI eO j1 j2 m1 m2 hx hy λh' a1 a2 a3 a4 a5 a6 a7=>C2 (q h' a1 a2 a3 a4 a5 a6 a7)
theorem ZI{c d:Bool}{z TI TO i1 i2 l1 l2:Addr}{k1 k2:Nat}{xs ys:Array Value}{a b:Value}{Q:Option Value->Shared->Prop}(hh:A.handled=none)(D:ur z TI TO i1 i2 l1 l2)
  (ez:IsZip s.heap z TI TO .none) (eI:IsPair s.heap TI (.ref i1) (.ref i2)) (eO:IsPair s.heap TO a b) (j1:dt c s.heap i1 l1 k1) (j2:dt d s.heap i2 l2 k2) (m1:eK c s.heap l1 xs) (m2:eK d s.heap l2 ys) (Ag:xs[k1]?=none\/ys[k2]?=none)
  (q:∀h',(∀e o,e≠z->e≠TO->e≠i1->e≠i2->s.heap.get? e=some o->h'.get? e=some o)->Q none { s with heap:=h'}):wpAny (model prog w) A (pyNext (.ref z)) Q E s:=by
 have ty:s.TypeIs (.ref z) "zip" := #[_,ez,rfl];unfold pyNext;refine B5 (MH (O7 (name:=C4 "__next__") ty F.slot_zip_next (P3 F.slot_zip_next ty F.entry_zip_next ?_ (F.args_zip_next_1 _))));refine wj0 hh D ez eI eO j1 j2 m1 m2 Ag λh' e hk ⟨o,k1,k2⟩=>?_
 exact B5 (Z1 (T := "StopIteration") (b:=true) #[o,k1,k2] isSubtype_stop (C2 (q _ hk)))
end
abbrev itO(c:Bool)(l:Addr):Obj:={ cls:=.type (tyN c),data:=.fields [.ref l,.int 0 0].toArray}
abbrev AX(h:Heap)(c:Bool)(l1:Addr):Heap:=h.push (itO c l1)
abbrev AW(h:Heap)(c d:Bool)(l1 l2:Addr):Heap:=(AX h c l1).push (itO d l2)
abbrev AV(h:Heap)(c d:Bool)(l1 l2:Addr):Heap:=(AW h c d l1 l2).push { cls:=.type "tuple",data:=.seq [.ref h.objs.size,.ref (AX h c l1).objs.size].toArray}
abbrev AU(h:Heap)(c d:Bool)(l1 l2:Addr):Heap:=(AV h c d l1 l2).push { cls:=.type "tuple",data:=.seq [.none,.none].toArray}
abbrev rl(h:Heap)(c d:Bool)(l1 l2:Addr):Heap:=(AU h c d l1 l2).push { cls:=.type "zip",data:=.fields [.none,.bool false,.bool false,.ref (AW h c d l1 l2).objs.size,.ref (AV h c d l1 l2).objs.size].toArray}
theorem eK.push(x:eK c h l xs)(o:Obj):eK c (h.push o) l xs:=x.at λ_ e=>B6 o e
set_option maxHeartbeats 4000000 in
theorem YK(c d:Bool)(l1 l2:Addr)(xs ys:Array Value) :
  Meets (Builtin.«zip.__new__» #[[.type "zip",.ref l1,.ref l2],[]]) (λ_ R s=>eK c s.heap l1 xs/\eK d s.heap l2 ys/\R (.ok (.ret (.ref (AU s.heap c d l1 l2).objs.size))) { s with heap:=rl s.heap c d l1 l2}) :=
 .of_wp λprog w A R s h=>by
  obtain⟨hp,g,dd,tk,os⟩:=s;obtain⟨m1,m2,h⟩:=h;have sub:=sub_zip;cases c with
  | true =>
   have a1:Vl (Cu #[hp,g,dd,tk,os]) l1 xs:=m1;cases d with
   | true =>
    have a2:Vl (Cu #[hp.push { cls:=.type "tuple_iterator",data:=.fields [.ref l1,.int 0 0].toArray},g,dd,tk,os]) l2 ys:=m2.push _
    wp_walk using X9 a1,X9 a2
    exact#[_,rfl,h]
   | false =>
    have a2:Ve (Cu #[hp.push { cls:=.type "tuple_iterator",data:=.fields [.ref l1,.int 0 0].toArray},g,dd,tk,os]) l2 ys:=m2.push _
    wp_walk using X9 a1,T8 a2
    exact#[_,rfl,h]
  | false =>
   have a1:Ve (Cu #[hp,g,dd,tk,os]) l1 xs:=m1;cases d with
   | true =>
    have a2:Vl (Cu #[hp.push { cls:=.type "list_iterator",data:=.fields [.ref l1,.int 0 0].toArray},g,dd,tk,os]) l2 ys:=m2.push _
    wp_walk using T8 a1,X9 a2
    exact#[_,rfl,h]
   | false =>
    have a2:Ve (Cu #[hp.push { cls:=.type "list_iterator",data:=.fields [.ref l1,.int 0 0].toArray},g,dd,tk,os]) l2 ys:=m2.push _
    wp_walk using T8 a1,T8 a2
    exact#[_,rfl,h]
section
variable{prog:Program}{w:World}{A:Around}{E:Value->Shared->Prop}{s:Shared}
theorem vz3(m1:eK c s.heap l1 xs)(m2:eK d s.heap l2 ys)
  (q:∀h',IsZip h' (s.heap.objs.size+4) (s.heap.objs.size+2) (s.heap.objs.size+3) .none->IsPair h' (s.heap.objs.size+2) (.ref s.heap.objs.size) (.ref (s.heap.objs.size+1))->IsPair h' (s.heap.objs.size+3) .none .none ->
   dt c h' s.heap.objs.size l1 0->dt d h' (s.heap.objs.size+1) l2 0->(∀e o,s.heap.get? e=some o->h'.get? e=some o)->Q (.ref (s.heap.objs.size+4)) { s with heap:=h'}) :
  wpAny (model prog w) A (call (.type "zip") [.ref l1,.ref l2]) Q E s:=by
 refine callType_new F.called_zip ∅ (F.typeCall_zip_2 _ _) (F.newCall_zip_2 _ _) (λobj=>F.args_object_init_3 obj _ _) F.entry_zip_new (YK c d l1 l2 xs ys) #[m1,m2,?_];have n1:(AX s.heap c l1).objs.size=s.heap.objs.size+1:=N7 ..;have n2:(AW s.heap c d l1 l2).objs.size=s.heap.objs.size+2:=by rw[N7,n1]
 have n3:(AV s.heap c d l1 l2).objs.size=s.heap.objs.size+3:=by rw[N7,n2]
 have n4:(AU s.heap c d l1 l2).objs.size=s.heap.objs.size+4:=by rw[N7,n3]
 have r5:(rl s.heap c d l1 l2).get? (AU s.heap c d l1 l2).objs.size=some _:=D4 _ rfl;have r4:(rl s.heap c d l1 l2).get? (AV s.heap c d l1 l2).objs.size=some _:=B6 _ (D4 _ rfl);have r3:(rl s.heap c d l1 l2).get? (AW s.heap c d l1 l2).objs.size=some _:=B6 _ (B6 _ (D4 _ rfl));have r2:(rl s.heap c d l1 l2).get? (AX s.heap c l1).objs.size=some _:=B6 _ (B6 _ (B6 _ (D4 _ rfl)));have r1:(rl s.heap c d l1 l2).get? s.heap.objs.size=some _:=B6 _ (B6 _ (B6 _ (B6 _ (D4 _ rfl))))
 show _/\_
 rw[n2,n3,n4] at r5;rw[n1,n2] at r3;rw[n3] at r4;rw[n1] at r2;rw[n4];refine#[#[_,r5,rfl],q _ r5 r3 r4 #[_,r1,rfl,rfl] #[_,r2,rfl,rfl] λe o x=>?_];exact B6 _ (B6 _ (B6 _ (B6 _ (B6 _ x))))
end
def Sq(c:Bool)(K:W.Frag)(H:Hp)(a:Addr)(xs:List V):Prop:=match c with
 | true=>dS K H a xs
 | false=>eG K H a xs
theorem Inv.sq(I:Inv X pins σ H s)(h:Sq c X.K H a xs):∃its:List Value,Vals xs its/\eK c s.heap a its.toArray:=by
 cases c with
 | true =>
  obtain⟨its,r,p,_⟩:=I.tuple h;exact#[its,r,p]
 | false =>
  obtain⟨its,r,p,_⟩:=I.list h;obtain⟨o,e,h1,h2⟩:=p.isList;exact#[its,r,o,e,h1,h2]
theorem Inv.rZ(I:Inv X pins σ H s)(h:Sq c X.K H a xs)(h':Sq c X.K H a ys):xs=ys:=by
 cases c with
 | true=>exact I.gH h h'
 | false=>exact I.gj h h'
def UK(K:W.Frag)(c d:Bool)(a b:Addr):It :=
 #[λi H=>∃xs ys x y,Sq c K H a xs/\Sq d K H b ys/\xs[i]?=some x/\ys[i]?=some y,λi H v H'=>∃p x y,v=.ref p/\H p=none/\H'=upd H p (.tup [x,y])/\(∀xs,Sq c K H a xs->xs[i]?=some x)/\∀ys,Sq d K H b ys->ys[i]?=some y,
  λi H=>∃xs ys,Sq c K H a xs/\Sq d K H b ys/\(xs.length<=i\/ys.length<=i)]
def Ut(c d:Bool)(a b z TI TO i1 i2:Addr)(i:Nat)(h:Heap):Prop:=IsZip h z TI TO .none/\IsPair h TI (.ref i1) (.ref i2)/\(∃u v,IsPair h TO u v)/\dt c h i1 a i/\dt d h i2 b i
theorem w07{P:Program}{w:World}{K:W.Frag}{elts:List Expr}{x1}{pos:Pos}{c d:Bool}{a b z TI TO i1 i2:Addr}(ap:ur z TI TO i1 i2 a b):Turn P w K (.Tuple elts x1 pos) (UK K c d a b) [z,TI,TO,i1,i2] z (Ut c d a b z TI TO i1 i2) where
 mem:=by simp
 obj:=λi h st e he=>by
  obtain⟨h1,h2,⟨u,v,h3⟩,h4,h5⟩:=st;simp only[E6,O0,or_false] at he
  rcases he with q|q|q|q|q <;> subst q
  ·exact⟨_,h1,λv z=>by cases(show Mw _=Cr v from z)⟩
  ·exact⟨_,h2,λv z=>by cases(show UT _ _=Cr v from z)⟩
  ·exact⟨_,h3,λv z=>by cases(show UT _ _=Cr v from z)⟩
  ·obtain⟨o,e,_,k⟩:=h4
   exact#[o,e,λv z=>by rw[k] at z;cases z]
  ·obtain⟨o,e,_,k⟩:=h5
   exact#[o,e,λv z=>by rw[k] at z;cases z]
 keep:=λi h h' st k=>by
  obtain⟨h1,h2,⟨u,v,h3⟩,h4,h5⟩:=st;exact#[k z (by simp) _ h1,k TI (by simp) _ h2,#[u,v,k TO (by simp) _ h3],h4.at λo q=>k i1 (by simp) o q,h5.at λo q=>k i2 (by simp) o q]
 item:=by
  intro X hP hw hK hc i pins s σ H E I hf st hg;subst hP hw hK;obtain⟨h1,h2,⟨u0,v0,h3⟩,h4,h5⟩:=st;obtain⟨xs,ys,x,y,hq,ju,hx,hy⟩:=hg;obtain⟨its,rv,p⟩:=I.sq hq;obtain⟨aW,xU,p2⟩:=I.sq ju;obtain⟨u,hu,ru⟩:=rv.get hx;obtain⟨u2,uM,RE⟩:=xU.get hy;have hn:H s.heap.objs.size=none:=I.az.fresh (B8 _);have lt:∀{c o},s.heap.get? c=some o->c≠s.heap.objs.size:=λe=>I0 (D5 e)
  refine ZH ap h1 h2 h3 h4 h5 p p2 (x:=u) (y:=u2) (by simpa using hu) (by simpa using uM) λh' k1 k2 k3 k4 k5 k6 k7=>?_
  refine#[_,rfl,wpAny_letOwnedTupleGo_zip k1 λuU m1 m2=>?_]
  replace m2:R6 z h' uU:=m2
  have hk:∀e o,e∉[z,TI,TO,i1,i2]->s.heap.get? e=some o->uU.get? e=some o:=λe o he q=>by
   simp only[E6,O0,or_false,not_or] at he;exact(m2.2 e he.1).trans (k7 e o he.1 he.2.2.1 he.2.2.2.1 he.2.2.2.2 q)
  have k5':=(m2.2 s.heap.objs.size (D8 (lt h1))).trans k5;refine#[.ref s.heap.objs.size,upd H s.heap.objs.size (.tup [x,y]),I.vI (t':=s.toks) hk hf ?_,rfl,#[_,x,y,rfl,hn,rfl,λws e=>by rw[I.rZ e hq];exact hx,λws e=>by rw[I.rZ e ju];exact hy],#[m1,?_,#[u,u2,?_],?_,?_],λe he=>?_]
  ·exact#[show 2<=sizeLine by decide,[u,u2],.cons ru (.cons RE .nil),#[_,k5',rfl,#[_,rfl],rfl]]
  ·exact(m2.2 TI ap.TIz).trans (k7 TI _ ap.TIz ap.TITO ap.TIi1 ap.TIi2 h2)
  ·exact(m2.2 TO ap.TOz).trans k2
  ·exact k3.at λo q=>(m2.2 i1 ap.i1z).trans q
  ·exact k4.at λo q=>(m2.2 i2 ap.i2z).trans q
  ·rw[cq ?_]
   ·exact(hf e he).1
   ·simp only[E6,O0,or_false] at he
    rcases he with q|q|q|q|q <;> subst q
    ·exact lt h1
    ·exact lt h2
    ·exact lt h3
    ·obtain⟨o,e,_⟩:=h4;exact lt e
    ·obtain⟨o,e,_⟩:=h5;exact lt e
 done:=by
  intro X hP hw hK hc i pins s σ H E I hf st hg;subst hP hw hK;obtain⟨h1,h2,⟨u0,v0,h3⟩,h4,h5⟩:=st;obtain⟨xs,ys,hq,ju,hx⟩:=hg;obtain⟨its,rv,p⟩:=I.sq hq;obtain⟨aW,xU,p2⟩:=I.sq ju;have hl:=rv.length;have x_:=xU.length;refine ZI (I.ok.hd hc) ap h1 h2 h3 h4 h5 p p2 (by simp;omega) λh' k=>#[rfl,I.vH (fp:=[z,TI,TO,i1,i2]) (t':=s.toks) (λe o he q=>?_) hf]
  simp only[E6,O0,or_false,not_or] at he;exact k e o he.1 he.2.2.1 he.2.2.2.1 he.2.2.2.2 q
 self:=λ_ _ _ _ _ st h=>VH st.1 h
def iZt(K:W.Frag)(ta:TA):TI:=λσ H R=>ta σ H λvs H1=>∃c d a b,vs=[.ref a,.ref b]/\(∃xs,Sq c K H1 a xs)/\(∃xs,Sq d K H1 b xs)/\R (UK K c d a b) H1
theorem x97{X:Cx}{elts:List Expr}{x1}{jm:Pos}{a b:Expr}{ta:TA}{p pos:Pos}(hg:Gl X "zip")(hm:X.mg "zip" = none)(ha:PA X [a,b] ta)(hs:C5 [a,b] X.env=(false,eval a X.env)::C5 [b] X.env:=by rfl)(cy:(backTo pos (C5 [b] X.env)).any (·.1)=false:=by rfl) :
  PI X (.Tuple elts x1 jm) (.Call (.Name "zip" p) [a,b] [] pos) (iZt X.K ta):=by
 intro pins s σ H R I h;refine Call_ (oj I hg hm boot_zip (J1 (a_ (ha pos pins s σ H _ I h) λus s1 ⟨vs,H1,I1,r1,q1⟩=>?_) hs cy));obtain⟨c,d,l,m,e,⟨xs,hq⟩,⟨ys,ju⟩,q⟩:=q1;subst e;cases r1 with
 | cons r rr =>
  cases rr with
  | cons r2 rr =>
   cases rr;cases r;cases r2;obtain⟨its,rv,pl⟩:=I1.sq hq;obtain⟨aW,xU,BJ⟩:=I1.sq ju;have pN:l<s1.heap.objs.size:=by obtain⟨o,e,_⟩:=pl;exact D5 e
   have Ts:m<s1.heap.objs.size:=by obtain⟨o,e,_⟩:=BJ;exact D5 e
   refine vz3 pl BJ λh' k1 k2 k3 k4 k5 k7=>?_
   refine VH k1 ?_;have I2:Inv X pins σ H1 { s1 with heap:=h'}:=I1.kept (t':=s1.toks) k7
   refine#[_,_,_,_,H1,rfl,I2,w07 (zipApart_new pN Ts),#[k1,k2,#[_,_,k3],k4,k5],λe he=>?_,q];have hb:s1.heap.objs.size<=e:=by
    simp only[E6,O0,or_false] at he
    rcases he with q|q|q|q|q <;> subst q <;> omega
   exact I1.kY hb (I1.az.fresh hb)
end L2
namespace L3
open PySem PySem.Spec PyProof.Rows L2
def jo(G:Gp):D->Option (List D)
 | .tup ds=>some ds
 | .ref a=>bt (G a)
 | _=>none
theorem JZ{K:W.Frag}{G:Gp}{H0:Hp}{x:D}{v:V}{ds:List D}(r:ae K H0 x v)(c0:b_ K G H0)(h:jo G x=some ds):∃c a,v=.ref a/\(∃xs,Sq c K H0 a xs)/\∀G' H',Le H0 H'->b_ K G' H'->jo G' x=some ds->∃xs,Sq c K H' a xs/\af K H' ds xs:=by
 cases x with
 | tup es =>
  cases h;obtain⟨a,xs,rfl,s1,q1⟩:=r.aK;exact#[true,a,rfl,#[xs,s1],λG' H' l c _=>#[xs,l.DX s1,af.le l q1]]
 | ref a =>
  cases r.ai;obtain⟨xs,s1,q1⟩:=d_ c0 h;refine#[false,a,rfl,#[xs,s1],λG' H' l c h'=>d_ c h']
 | _=>cases h
theorem vp9{K:W.Frag}{H0:Hp}{c d:Bool}{a b:Addr}{ds es:List D}{x y:D}(hx:∀G' H',Le H0 H'->b_ K G' H'->jo G' x=some ds->∃xs,Sq c K H' a xs/\af K H' ds xs)(hy:∀G' H',Le H0 H'->b_ K G' H'->jo G' y=some es->∃xs,Sq d K H' b xs/\af K H' es xs) :
  gB K H0 #[vg ds es,λG=>jo G x=some ds/\jo G y=some es] (UK K c d a b) where
 go:=λi G H l c ok hi=>by
  obtain⟨xs,s,r⟩:=hx G H l c ok.1;obtain⟨ys,s2,r2⟩:=hy G H l c ok.2;rw[QI] at hi;exact#[xs,ys,xs[i]'(by rw[<- r.length];omega),ys[i]'(by rw[<- r2.length];omega),s,s2,B7 _,B7 _]
 stop:=λi G H l c ok hi=>by
  obtain⟨xs,s,r⟩:=hx G H l c ok.1;obtain⟨ys,s2,r2⟩:=hy G H l c ok.2;rw[QI] at hi;exact#[xs,ys,s,s2,by rw[<- r.length,<- r2.length];omega]
 nQ:=λi G H v H' l c ok hi y=>by
  obtain⟨p,v1,v2,rfl,hp,rfl,y1,y2⟩:=y;obtain⟨xs,s,r⟩:=hx G H l c ok.1;obtain⟨ys,s2,r2⟩:=hy G H l c ok.2;obtain⟨d,hd,rd⟩:=r.at_ (y1 xs s)
  obtain⟨e,he,re⟩:=r2.at_ (y2 ys s2)
  refine#[c.side hp,Le.fresh hp,.tup [d,e],ZG hd he,?_];rw[ae];exact#[p,_,rfl,dS.of f',.cons (ae.le (Le.fresh hp) rd) (.cons (ae.le (Le.fresh hp) re) .nil)]
def Xn(t:dz):pW:=λσ G r=>t σ G λds G1=>match ds with
 | [x,y]=>(match jo G1 x,jo G1 y with|some ds,some es=>r #[vg ds es,λG=>jo G x=some ds/\jo G y=some es] G1|_,_=>False)
 | _=>False
theorem wd0{K:W.Frag}{t:dz}{σ:L2.St}{H:Hp}{R:It->Hp->Prop}(h:kQ K (Xn t) σ H R):iZt K (dE K t) σ H R:=by
 obtain⟨σd,G,q,rs,c,t,f⟩:=h;refine#[σd,G,_,rs,c,t,λds G1 vs H1 r1 c1 l1 t1=>?_];split at t1
 ·rename_i x y
  split at t1
  ·rename_i ds es e e2
   obtain⟨v,YL,rfl,rv,r2⟩:=r1.aj;obtain⟨v2,rfl,xU⟩:=r2.one;obtain⟨k1,a,rfl,s1,q1⟩:=JZ rv c1 e;obtain⟨k2,b,rfl,s2,q2⟩:=JZ xU c1 e2;exact#[k1,k2,a,b,rfl,s1,s2,f _ _ _ _ (vp9 q1 q2) c1 l1 t1]
  ·exact t1.elim
 ·exact t1.elim
theorem x06{x1}(hg:Gl X "zip")(hm:X.mg "zip" = none)(ha:A3 X [a,b] ts)(hs:C5 [a,b] X.env=(false,eval a X.env)::C5 [b] X.env:=by rfl)(cy:(backTo pos (C5 [b] X.env)).any (·.1)=false:=by rfl) :
  I3 X (.Tuple elts x1 jm) (.Call (.Name "zip" p) [a,b] [] pos) (Xn ts):=xD (x97 hg hm ha hs cy) λ_ _ _=>wd0
end L3
namespace L3
open PySem PySem.Spec PyProof.Rows L2 Rw
mutual
def dO:aq->List aq
 | .is x a=>[.is x a]
 | .op x o a b=>[.op x o a b]
 | .eF a ys ns=>[.eF a (aF ys) (aF ns)]
 | .gV k ys=>(D0 k (aF ys)).flatten
def aF:List aq->List aq
 | []=>[]
 | r::rs=>dO r++aF rs
end
theorem KQ:∀{a b:List aq},aF (a++b)=aF a++aF b
 | [],b=>rfl
 | r::a,b=>by
  show dO r++aF (a++b)=(dO r++aF a)++aF b
  rw[KQ,E2]
theorem Zz:∀k:Nat,cf (D0 k ys).flatten=k*cf ys
 | 0=>by simp[cf]
 | k+1=>by rw[K3,M6,Bx,Zz k,Cy];omega
theorem ZR(h:aS ys<=d):∀k:Nat,aS (D0 k ys).flatten<=d
 | 0=>by simp[aS]
 | k+1=>by
  have:=ZR h k;rw[K3,M6,xM];omega
mutual
def uH:aq->Prop
 | .is _ _=>True
 | .op _ _ _ _=>True
 | .eF _ ys ns=>fk ys/\fk ns
 | .gV _ _=>False
def fk:List aq->Prop
 | []=>True
 | r::rs=>uH r/\fk rs
end
theorem eY:∀{a b:List aq},fk (a++b)↔fk a/\fk b
 | [],b=>by simp[fk]
 | r::a,b=>by
  show uH r/\fk (a++b)↔(uH r/\fk a)/\fk b
  rw[eY,and_assoc]
theorem Zm(h:fk ys):∀k:Nat,fk (D0 k ys).flatten
 | 0=>trivial
 | k+1=>by rw[K3,M6];exact eY.mpr #[h,Zm h k]
mutual
theorem Qi:∀r:aq,cf (dO r)=kh r
 | .is _ _=>rfl
 | .op _ _ _ _=>rfl
 | .eF a ys ns=>by
  have h1:=Bu ys;have h2:=Bu ns
  show(1+cf (aF ys)+cf (aF ns))+0=1+bX ys+bX ns
  omega
 | .gV k ys=>by
  show cf (D0 k (aF ys)).flatten=k*bX ys
  rw[Zz,Bu ys]
theorem Bu:∀rs:List aq,cf (aF rs)=bX rs
 | []=>rfl
 | r::rs=>by
  show cf (dO r++aF rs)=kh r+bX rs
  rw[Bx,Qi r,Bu rs]
end
mutual
theorem wc0:∀r:aq,aS (dO r)<=jB r
 | .is _ _=>B8 _
 | .op _ _ _ _=>B8 _
 | .eF a ys ns=>by
  have h1:=Ds ys;have h2:=Ds ns
  show max (1+max (aS (aF ys)) (aS (aF ns))) 0<=1+max (aS ys) (aS ns)
  omega
 | .gV k ys=>by
  have h1:=Ds ys
  show aS (D0 k (aF ys)).flatten<=1+aS ys
  exact ZR () k
theorem Ds:∀rs:List aq,aS (aF rs)<=aS rs
 | []=>B8 _
 | r::rs=>by
  have h1:=wc0 r;have h2:=Ds rs
  show aS (dO r++aF rs)<=max (jB r) (aS rs)
  rw[xM];omega
end
mutual
theorem wp6:∀r:aq,fk (dO r)
 | .is _ _=>#[trivial,trivial]
 | .op _ _ _ _=>#[trivial,trivial]
 | .eF a ys ns=>#[#[Dq ys,Dq ns],trivial]
 | .gV k ys=>Zm (Dq ys) k
theorem Dq:∀rs:List aq,fk (aF rs)
 | []=>trivial
 | r::rs=>eY.mpr #[wp6 r,Dq rs]
end
theorem Dp(rs:List aq):(aF rs).length<=bX rs:=by
 have:=Kg (aF rs);rw[Bu] at this;exact this
theorem Rh(ys:List aq):∀k:Nat,(D0 k (bB ys)).flatten=bB (D0 k ys).flatten
 | 0=>rfl
 | k+1=>by rw[K3,K3,M6,M6,Rh ys k,DA]
theorem Kr:∀{rs:List aq} {r:aq},r∈rs->kh r<=bX rs
 | s::rs,r,h=>by
  show kh r<=kh s+bX rs
  rcases E6.mp h with e|e
  ·subst e;omega
  ·have:=Kr e;omega
theorem XD:∀{rs:List aq} {r:aq},fk rs->r∈rs->uH r
 | s::rs,r,h,m=>by
  rcases E6.mp m with e|e
  ·subst e;exact h.1
  ·exact XD h.2 e
mutual
def yj:aq->Prop
 | .is _ _=>True
 | .op _ _ _ _=>True
 | .eF _ ys ns=>hJ ys/\hJ ns
 | .gV k ys=>bX ys<=10000000/\hJ ys/\k<=20
def hJ:List aq->Prop
 | []=>True
 | r::rs=>yj r/\hJ rs
end
theorem Ka:∀{rs:List aq} {r:aq},hJ rs->r∈rs->yj r
 | s::rs,r,h,m=>by
  rcases E6.mp m with e|e
  ·subst e;exact h.1
  ·exact Ka h.2 e
theorem up6:J_ (.tup a) (.tup b) G q=(a.length+b.length<=sizeLine/\q (.tup (a++b)) G):=rfl
end L3
namespace L2
open PySem PySem.Spec PyProof.Rows
theorem vq7:entryFor table "zip.__getattribute__" = some Builtin.«object.__getattribute__» :=
 entryFor_alias (id' := "object.__getattribute__") (by kernel_rfl) ∅ ∅ (by kernel_rfl)
theorem wg2:Ju (.type "zip") "__getattr__" = pure none:=by rw[Vz,Wf];kernel_rfl
theorem vf3:Ju (.type "zip") "keys" = pure none:=by rw[Vz,Wf];kernel_rfl
theorem wg3(z TI TO:Addr)(u:Tok):Meets (Builtin.«object.__getattribute__» ⟨[.ref z,.str "keys" u],[]⟩) (λA R s=>IsZip s.heap z TI TO .none/\raisesAttr (.ref z) "keys" A R s) :=
 Meets.of_wp λprog w A R s hs=>by
  obtain⟨hp,g,d,tk,os⟩:=s;obtain⟨hx,hs⟩:=hs;have ty:(#[hp,g,d,tk,os]:Shared).TypeIs (.ref z) "zip" := #[_,hx,rfl];have mi:=vf3;unfold Builtin.«object.__getattribute__»
  repeat(any_goals (first|assumption|wp_step))
  exact wpAny_raiseAttrError hs.1 hs.2 ∅
theorem wg5{prog:Program}{w:World}{A:Around}{E:Value->Shared->Prop}{s:Shared}{z TI TO:Addr}{Q:Option Value->Shared->Prop}(hx:IsZip s.heap z TI TO .none)(hA:A.handled=none)
  (q:∀h' tk,(∀b o,s.heap.get? b=some o->h'.get? b=some o)->Q none { s with heap:=h',toks:=tk}):wpAny (model prog w) A (Md (.ref z) "keys") Q E s:=by
 obtain⟨hp,g,d,tk,os⟩:=s;have ty:∀DD,(#[hp,g,d,DD,os]:Shared).TypeIs (.ref z) "zip" := λ_=>#[_,hx,rfl]
 have f1:=sub_AttributeError;have f3:=F.slot_zip_getattribute.lookup;have f4:=F.slot_zip_getattribute.bind (.ref z);have f5:=wg2;unfold Md getAttrBy? getAttrBy
 repeat(any_goals (first|assumption|exact ty _|((with_reducible show wpAny _ _ (call (Vw "zip.__getattribute__") _ _) _ _ _);refine AR F.slot_zip_getattribute (ty _) vq7 (F.args_zip_getattribute_2 _ _) (wg3 z TI TO _) ⟨hx,hA,λh' DD e iC=>?_⟩)|wp_step))
 obtain⟨t',u',he⟩:=iC.there
 show wpAny _ _ (M' _ _ _ _ _ _ _) _ _ _
 unfold M'
 repeat(any_goals (first|assumption|wp_step))
 exact q _ _ iC.keeps
section
variable{prog:Program}{w:World}{A:Around}{E:Value->Shared->Prop}{s:Shared}
theorem vj3{c d:Bool}{z TI TO i1 i2 l1 l2 T:Addr}{f:Bool}{oT:Obj}{k1 k2:Nat}{xs ys:Array Value}{x y:Value}{Q:Value->Shared->Prop}(D:ur z TI TO i1 i2 l1 l2)(ez:uz s.heap z TI TO T f)(hT:s.heap.get? T=some oT)
  (eI:IsPair s.heap TI (.ref i1) (.ref i2)) (j1:dt c s.heap i1 l1 k1) (j2:dt d s.heap i2 l2 k2) (m1:eK c s.heap l1 xs) (m2:eK d s.heap l2 ys) (hx:xs[k1]?=some x) (hy:ys[k2]?=some y)
  (q:∀h':Heap,uz h' z TI TO T true->dt c h' i1 l1 (k1+1)->dt d h' i2 l2 (k2+1)->IsPair h' s.heap.objs.size x y->h'.objs.size=s.heap.objs.size+1->(∀e o,e≠z->e≠i1->e≠i2->s.heap.get? e=some o->h'.get? e=some o)->Q (.ref s.heap.objs.size) { s with heap:=h'}) :
  wpAny (model prog w) A (Builtin.«zip.__next__» { pos:=[.ref z]}) (λfin s'=>∃v,fin=Fin.done (Flow.ret v)/\Q v s') E s:=by
 unfold Builtin.«zip.__next__»;refine B5 (C2 ?_);refine B5 (L4 ez rfl rfl ?_);refine B5 (L4 ez rfl rfl ?_);refine B5 (M7 eI rfl ?_);refine B5 ?_;unfold L6;refine B5 (L4 ez rfl rfl ?_);refine B5 (W.kdx_alive (a:=T) (o:=oT) hT ?_);refine a_ (Q:=λa s1=>a=false/\∃h1,s1={ s with heap:=h1}/\uz h1 z TI TO T true/\R6 z s.heap h1) ?_ ?_
 ·rw[if_neg (by simp)]
  refine B5 (L4 ez rfl rfl ?_);cases f with
  | true=>exact C2 #[rfl,s.heap,rfl,ez,rfl,λ_ _=>rfl]
  | false =>
   refine B5 (Q1 ez (by simp) λh' e sb=>?_);exact C2 #[rfl,h',rfl,e,sb]
 ·rintro a s1 ⟨rfl,h,rfl,jM,sb⟩
  simp only[L1,if_false];simp only[<- X6,JL,MP];have Lw:dt c h i1 l1 k1:=j1.at λo e=>(sb.2 i1 D.i1z).trans e
  have SI:dt d h i2 l2 k2:=j2.at λo e=>(sb.2 i2 D.i2z).trans e
  have m1':eK c h l1 xs:=m1.at λo e=>(sb.2 l1 D.l1z).trans e
  have m2':eK d h l2 ys:=m2.at λo e=>(sb.2 l2 D.l2z).trans e
  refine B5 (B5 (B5 (M8 ?_)));refine B5 (Dl Lw m1' hx λh' a1 sa=>?_);refine C2 ?_;refine C2 ?_;have SH:dt d h' i2 l2 k2:=SI.at λo e=>(sa.2 i2 (D8 D.i12)).trans e
  have So:eK d h' l2 ys:=m2'.at λo e=>(sa.2 l2 D.l2i1).trans e
  refine B5 (B5 (M8 ?_));refine B5 (Dl SH So hy λuU a2 sc=>?_);refine C2 ?_;refine C2 ?_;refine C2 ?_;refine B5 (wpAny_newTuple ?_ (by simp;decide));have hs:uU.objs.size=s.heap.objs.size:=sc.1.trans (sa.1.trans sb.1);refine C2 #[_,rfl,?_]
  show Q (.ref uU.objs.size) _
  rw[hs];have kp:∀c o,c≠z->c≠i1->c≠i2->s.heap.get? c=some o->uU.get? c=some o:=λc o c1 c2 c3 e=>(sc.2 c c3).trans ((sa.2 c c2).trans ((sb.2 c c1).trans e))
  refine q _ ?_ ?_ ?_ ?_ ?_ λc o c1 c2 c3 e=>B6 _ (kp c o c1 c2 c3 e)
  ·exact B6 _ ((sc.2 z (D8 D.i2z)).trans ((sa.2 z (D8 D.i1z)).trans jM))
  ·exact a1.at λo e=>B6 _ ((sc.2 i1 D.i12).trans e)
  ·exact a2.at λo e=>B6 _ e
  ·rw[<- hs];exact D4 _ rfl
  ·show(uU.push _).objs.size=_
   rw[<- hs];simp[Heap.push]
theorem vz1{c d:Bool}{z TI TO i1 i2 l1 l2 T:Addr}{f:Bool}{oT:Obj}{k1 k2:Nat}{xs ys:Array Value}{Q:D11->Shared->Prop}(hh:A.handled=none)(D:ur z TI TO i1 i2 l1 l2)(ez:uz s.heap z TI TO T f)(hT:s.heap.get? T=some oT)
  (eI:IsPair s.heap TI (.ref i1) (.ref i2)) (j1:dt c s.heap i1 l1 k1) (m1:eK c s.heap l1 xs) (hx:xs[k1]?=none)
  (q:∀(h':Heap) (e:Addr),(∀e o,e≠z->e≠i1->e≠i2->s.heap.get? e=some o->h'.get? e=some o)->(∃o,h'.get? e=some o/\o.cls=.type "StopIteration")->E (.ref e) { s with heap:=h'}) :
  wpAny (model prog w) A (Builtin.«zip.__next__» { pos:=[.ref z]}) Q E s:=by
 unfold Builtin.«zip.__next__»;refine B5 (C2 ?_);refine B5 (L4 ez rfl rfl ?_);refine B5 (L4 ez rfl rfl ?_);refine B5 (M7 eI rfl ?_);refine B5 ?_;unfold L6;refine B5 (L4 ez rfl rfl ?_);refine B5 (W.kdx_alive (a:=T) (o:=oT) hT ?_);refine a_ (Q:=λa s1=>a=false/\∃h1,s1={ s with heap:=h1}/\uz h1 z TI TO T true/\R6 z s.heap h1) ?_ ?_
 ·rw[if_neg (by simp)]
  refine B5 (L4 ez rfl rfl ?_);cases f with
  | true=>exact C2 #[rfl,s.heap,rfl,ez,rfl,λ_ _=>rfl]
  | false =>
   refine B5 (Q1 ez (by simp) λh' e sb=>?_);exact C2 #[rfl,h',rfl,e,sb]
 ·rintro a s1 ⟨rfl,h,rfl,jM,sb⟩
  simp only[L1,if_false];simp only[<- X6,JL,MP];refine B5 (B5 (B5 (M8 ?_)));refine B5 (Qg hh (j1.at λo e=>(sb.2 i1 D.i1z).trans e) (m1.at λo e=>(sb.2 l1 D.l1z).trans e) hx λh' e ext he=>?_);exact q h' e (λc o c1 c2 c3 e=>ext c o c2 ((sb.2 c c1).trans e)) he
theorem vj2{c d:Bool}{z TI TO i1 i2 l1 l2 T:Addr}{f:Bool}{oT:Obj}{k1 k2:Nat}{xs ys:Array Value}{x y:Value}{Q:Option Value->Shared->Prop}(D:ur z TI TO i1 i2 l1 l2)(ez:uz s.heap z TI TO T f)(hT:s.heap.get? T=some oT)
  (eI:IsPair s.heap TI (.ref i1) (.ref i2)) (j1:dt c s.heap i1 l1 k1) (j2:dt d s.heap i2 l2 k2) (m1:eK c s.heap l1 xs) (m2:eK d s.heap l2 ys) (hx:xs[k1]?=some x) (hy:ys[k2]?=some y)
  (q:∀h':Heap,uz h' z TI TO T true->dt c h' i1 l1 (k1+1)->dt d h' i2 l2 (k2+1)->IsPair h' s.heap.objs.size x y->h'.objs.size=s.heap.objs.size+1->(∀e o,e≠z->e≠i1->e≠i2->s.heap.get? e=some o->h'.get? e=some o)->Q (some (.ref s.heap.objs.size)) { s with heap:=h'}) :
  wpAny (model prog w) A (pyNext (.ref z)) Q E s:=by
 have ty:s.TypeIs (.ref z) "zip" := #[_,ez,rfl];refine B5 (MH (O7 ty F.slot_zip_next (P3 F.slot_zip_next ty F.entry_zip_next ?_ (F.args_zip_next_1 (.ref z)))));exact vj3 D ez hT eI j1 j2 m1 m2 hx hy λh' a1 a2 a3 a4 a5 a6=>C2 (q h' a1 a2 a3 a4 a5 a6)
theorem vj1{c d:Bool}{z TI TO i1 i2 l1 l2 T:Addr}{f:Bool}{oT:Obj}{k1:Nat}{xs:Array Value}{Q:Option Value->Shared->Prop}(hh:A.handled=none)(D:ur z TI TO i1 i2 l1 l2)(ez:uz s.heap z TI TO T f)(hT:s.heap.get? T=some oT)
  (eI:IsPair s.heap TI (.ref i1) (.ref i2)) (j1:dt c s.heap i1 l1 k1) (m1:eK c s.heap l1 xs) (hx:xs[k1]?=none)
  (q:∀h':Heap,(∀e o,e≠z->e≠i1->e≠i2->s.heap.get? e=some o->h'.get? e=some o)->Q none { s with heap:=h'}):wpAny (model prog w) A (pyNext (.ref z)) Q E s:=by
 have ty:s.TypeIs (.ref z) "zip" := #[_,ez,rfl];refine B5 (MH (O7 ty F.slot_zip_next (P3 F.slot_zip_next ty F.entry_zip_next ?_ (F.args_zip_next_1 (.ref z)))));refine vz1 (d:=d) (k2:=k1) (ys:=xs) hh D ez hT eI j1 m1 hx λh' e hk ⟨o,e1,e2⟩=>?_
 exact B5 (Z1 #[o,e1,e2] isSubtype_stop (C2 (q h' hk)))
end
structure UP(c d:Bool)(l1 l2 z TI TO i1 i2 S:Addr)(xs ys:Array Value)(i:Nat)(h:Heap):Prop where
 zz:IsZip h z TI TO .none\/∃T f oT,uz h z TI TO T f/\h.get? T=some oT/\T≠z/\T≠TO/\T≠i1/\T≠i2/\T≠S
 ti:IsPair h TI (.ref i1) (.ref i2)
 to:∃u v,IsPair h TO u v
 h1:dt c h i1 l1 i
 h2:dt d h i2 l2 i
 m1:eK c h l1 xs
 m2:eK d h l2 ys
def putAll:List Key->List V->List (Key×V)->List (Key×V)
 | k::ks,v::vs,kvs=>putAll ks vs (putK kvs k v)
 | _,_,kvs=>kvs
theorem KY:entryFor table "dict.update.loop" = some Builtin.«dict.update.loop»:=entryFor_of_tree (by kernel_rfl)
theorem xN:plainId "dict.update.loop" = true:=∅
theorem wg4{prog:Program}{w:World}{A:Around}{s:Shared}{R:Result->Shared->Prop}{c d:Bool}{l1 l2 z TI TO i1 i2 S:Addr}{xs ys:Array Value}{h1:Heap}(hh:A.in1.handled=none)(D:ur z TI TO i1 i2 l1 l2)(hS:S≠z/\S≠TI/\S≠TO/\S≠i1/\S≠i2/\S≠l1/\S≠l2)
  {ks:List Key} {rv:List V} (rk:Vals (ks.map kV) xs.toList) (rr:Vals rv ys.toList) (hn:ks.length=rv.length) (hz:ks.length<=1000)
  (q:∀(h':Heap) (tk:Nat) (vs:List (Key×Value)),(∀b o,b≠S->b≠z->b≠TO->b≠i1->b≠i2->h1.get? b=some o->h'.get? b=some o)->KV (putAll ks rv []) vs->h'.DictOf (dX prog w) S vs->R (.ok (.ret .none)) { s with heap:=h',toks:=tk}) :
  ∀(k i:Nat) (h:Heap) (tk:Nat) (ii:Int) (kvs:List (Key×V)) (vs:List (Key×Value)),ks.length-i=k->i<=ks.length->UP c d l1 l2 z TI TO i1 i2 S xs ys i h->KV kvs vs->h.DictOf (dX prog w) S vs->kvs.length<=i->putAll (ks.drop i) (rv.drop i) kvs=putAll ks rv [] ->
   (∀b o,b≠S->b≠z->b≠TO->b≠i1->b≠i2->h1.get? b=some o->h.get? b=some o)->rj (model prog w) A (.builtin "dict.update.loop" { pos:=[.ref S,.ref z,rawInt ii,.none]}) R { s with heap:=h,toks:=tk}:=by
 obtain⟨S1,S2,S3,S4,S5,S6,S7⟩:=hS;have lx:xs.size=ks.length:=by have:=rk.length;simp at this;omega
 have ly:ys.size=ks.length:=by have:=rr.length;simp at this;omega
 intro k
 induction k with
 | zero =>
  intro i h tk ii kvs vs hk hi st rel dd hl he kp;have hi:i=ks.length:=()
  subst hi;have hx:xs[ks.length]?=none:=by simp[lx]
  have qR:putAll ks rv []=kvs:=by rw[<- he,B99];rfl
  refine MQ KY ?_;rw[Y8 xN]
  rcases st.zz with zz|⟨T,f,oT,zz,hT,T1,T2,T3,T4,T5⟩
  ·obtain⟨u,v,to⟩:=st.to
   refine B5 (ZI (s:={ s with heap:=h,toks:=tk}) hh D zz st.ti to st.h1 st.h2 st.m1 st.m2 (.inl hx) λh' k2=>?_);refine B5 (C2 (C2 ?_));exact q h' tk vs (λb o b1 b2 b3 b4 b5 e=>k2 b o b2 b3 b4 b5 (kp b o b1 b2 b3 b4 b5 e)) (by rw[qR];exact rel) (dd.at λo e=>k2 S o S1 S3 S4 S5 e)
  ·refine B5 (vj1 (s:={ s with heap:=h,toks:=tk}) (d:=d) hh D zz hT st.ti st.h1 st.m1 hx λh' k2=>?_)
   refine B5 (C2 (C2 ?_));exact q h' tk vs (λb o b1 b2 b3 b4 b5 e=>k2 b o b2 b4 b5 (kp b o b1 b2 b3 b4 b5 e)) (by rw[qR];exact rel) (dd.at λo e=>k2 S o S1 S4 S5 e)
 | succ k ih =>
  intro i h tk ii kvs vs hk hi st rel dd hl he kp;have dQ:i<ks.length:=()
  have hx:xs[i]?=some (xs[i]'()):=A76 _;have hy:ys[i]?=some (ys[i]'()):=A76 _;obtain⟨kk,ek⟩:∃kk,ks[i]?=some kk:=#[ks[i],B7 dQ];obtain⟨vv,ev⟩:∃vv,rv[i]?=some vv:=#[rv[i]'(),B7 _];have rkk:RelV (kV kk) (xs[i]'()):=by
   obtain⟨u,hu,ru⟩:=rk.get (i:=i) (x:=kV kk) (by rw[F0,ek];rfl);have:u=xs[i]'():=by simp only[Y3,hx] at hu;exact(E7 hu).symm
   rw[<- this];exact ru
  have rvv:RelV vv (ys[i]'()):=by
   obtain⟨u,hu,ru⟩:=rr.get ev;have:u=ys[i]'():=by simp only[Y3,hy] at hu;exact(E7 hu).symm
   rw[<- this];exact ru
  have GC:putAll (ks.drop (i+1)) (rv.drop (i+1)) (putK kvs kk vv)=putAll ks rv []:=by
   rw[<- he];have e1:ks.drop i=kk::ks.drop (i+1):=by rw[N5 dQ];congr 1;exact E7 ((B7 dQ).symm.trans ek)
   have e2:rv.drop i=vv::rv.drop (i+1):=by rw[N5 ()];congr 1;exact E7 ((B7 ()).symm.trans ev)
   rw[e1,e2];rfl
  refine MQ KY ?_;rw[Y8 xN];have hsz:vs.length<=sizeLine:=by rw[<- rel.length];exact D6 (m:=1000) () ∅
  have go:∀h':Heap,(∃T f oT,uz h' z TI TO T f/\h'.get? T=some oT/\T≠z/\T≠TO/\T≠i1/\T≠i2/\T≠S)->(∃u v,IsPair h' TO u v)->dt c h' i1 l1 (i+1)->dt d h' i2 l2 (i+1)->IsPair h' h.objs.size (xs[i]'()) (ys[i]'())->(∀c o,c≠z->c≠TO->c≠i1->c≠i2->h.get? c=some o->h'.get? c=some o) ->
    wpAny (model prog w) A.in1 (dictSet S (xs[i]'()) (ys[i]'())) (λ_ s1=>wpAny (model prog w) A.in1 (again (.builtin "dict.update.loop" { pos:=[.ref S,.ref z,rawInt (ii+1),.none]}))
     (λfin s'=>match fin with|.done f=>R (.ok f) s'|.again c'=>c'.quiet=true/\rj (model prog w) A c' R s') (λe s'=>R (.error e) s') s1) (λe s'=>R (.error e) s') { s with heap:=h',toks:=tk}:=by
   rintro h' ⟨T,f,oT,zz,hT,T1,T2,T3,T4,T5⟩ ⟨u,v,to⟩ a1 a2 a3 a5;have pb:h'.DictOf (dX prog w) S vs:=dd.at λo e=>a5 S o S1 S3 S4 S5 e
   refine wpAny_dictSet_pairs (s:={ s with heap:=h',toks:=tk}) (hsz:=hsz) (za rkk) pb λuU uX cy=>?_
   refine C2 #[MG xN _,?_];have vV:∀b o,b≠S->h'.get? b=some o->uU.get? b=some o:=λb o hb e=>(cy.2 b hb).trans e
   have hlp:=zp kvs kk vv;refine ih (i+1) _ _ _ (putK kvs kk vv) _ () dQ #[.inr #[T,f,oT,vV _ _ (D8 S1) zz,vV _ _ T5 hT,T1,T2,T3,T4,T5],vV _ _ (D8 S2) (a5 TI _ D.TIz D.TITO D.TIi1 D.TIi2 st.ti),#[u,v,vV _ _ (D8 S3) to],a1.at λo e=>vV _ _ (D8 S4) e,a2.at λo e=>vV _ _ (D8 S5) e,st.m1.at λo e=>vV _ _ (D8 S6) (a5 l1 _ D.l1z D.l1TO D.l1i1 D.l1i2 e),st.m2.at λo e=>vV _ _ (D8 S7) (a5 l2 _ D.l2z D.l2TO D.l2i1 D.l2i2 e)] (rel.put kk rvv) uX () GC λb o b1 b2 b3 b4 b5 e=>vV b o b1 (a5 b o b2 b3 b4 b5 (kp b o b1 b2 b3 b4 b5 e))
  rcases st.zz with zz|⟨T,f,oT,zz,hT,T1,T2,T3,T4,T5⟩
  ·obtain⟨u,v,to⟩:=st.to
   have ne:∀{b o},h.get? b=some o->h.objs.size≠b:=λe=>X7 (D5 e)
   refine B5 (ZH (s:={ s with heap:=h,toks:=tk}) D zz st.ti to st.h1 st.h2 st.m1 st.m2 hx hy λh' b1 b2 b3 b4 b5 b6 b7=>?_);have neS:h.objs.size≠S:=by obtain⟨o,_,_,e,_⟩:=dd;exact ne e
   have:=go h' #[h.objs.size,false,_,b1,b5,ne zz,ne to,(by obtain⟨o,e,_⟩:=st.h1;exact ne e),(by obtain⟨o,e,_⟩:=st.h2;exact ne e),neS] #[_,_,b2] b3 b4 b5 b7;refine B5 (M8 (B5 (Vx ?_)));unfold Wl;refine B5 (Cv #[_,b5,rfl] ?_);rw[if_pos ∅];refine B5 (M7 b5 rfl (C2 ?_));exact M8 this
  ·refine B5 (vj2 (s:={ s with heap:=h,toks:=tk}) D zz hT st.ti st.h1 st.h2 st.m1 st.m2 hx hy λh' b1 b3 b4 b5 b6 b7=>?_)
   obtain⟨u,v,to⟩:=st.to;have:=go h' #[T,true,_,b1,b7 T _ T1 T3 T4 hT,T1,T2,T3,T4,T5] #[u,v,b7 TO _ D.TOz D.TOi1 D.TOi2 to] b3 b4 b5 λc o c1 c2 c3 c4 e=>b7 c o c1 c3 c4 e
   refine B5 (M8 (B5 (Vx ?_)));unfold Wl;refine B5 (Cv #[_,b5,rfl] ?_);rw[if_pos ∅];refine B5 (M7 b5 rfl (C2 ?_));exact M8 this
section
variable{prog:Program}{w:World}{A:Around}{E:Value->Shared->Prop}{s:Shared}
theorem vj4(m1:eK c s.heap l1 xs)(m2:eK d s.heap l2 ys)
  (q:∀h',IsZip h' (s.heap.objs.size+4) (s.heap.objs.size+2) (s.heap.objs.size+3) .none->IsPair h' (s.heap.objs.size+2) (.ref s.heap.objs.size) (.ref (s.heap.objs.size+1))->IsPair h' (s.heap.objs.size+3) .none .none ->
   dt c h' s.heap.objs.size l1 0->dt d h' (s.heap.objs.size+1) l2 0->h'.objs.size=s.heap.objs.size+5->(∀e o,s.heap.get? e=some o->h'.get? e=some o)->Q (.ref (s.heap.objs.size+4)) { s with heap:=h'}) :
  wpAny (model prog w) A (call (.type "zip") [.ref l1,.ref l2]) Q E s:=by
 refine callType_new F.called_zip ∅ (F.typeCall_zip_2 _ _) (F.newCall_zip_2 _ _) (λobj=>F.args_object_init_3 obj _ _) F.entry_zip_new (YK c d l1 l2 xs ys) #[m1,m2,?_];have n1:(AX s.heap c l1).objs.size=s.heap.objs.size+1:=N7 ..;have n2:(AW s.heap c d l1 l2).objs.size=s.heap.objs.size+2:=by rw[N7,n1]
 have n3:(AV s.heap c d l1 l2).objs.size=s.heap.objs.size+3:=by rw[N7,n2]
 have n4:(AU s.heap c d l1 l2).objs.size=s.heap.objs.size+4:=by rw[N7,n3]
 have n5:(rl s.heap c d l1 l2).objs.size=s.heap.objs.size+5:=by rw[N7,n4]
 have r5:(rl s.heap c d l1 l2).get? (AU s.heap c d l1 l2).objs.size=some _:=D4 _ rfl;have r4:(rl s.heap c d l1 l2).get? (AV s.heap c d l1 l2).objs.size=some _:=B6 _ (D4 _ rfl);have r3:(rl s.heap c d l1 l2).get? (AW s.heap c d l1 l2).objs.size=some _:=B6 _ (B6 _ (D4 _ rfl));have r2:(rl s.heap c d l1 l2).get? (AX s.heap c l1).objs.size=some _:=B6 _ (B6 _ (B6 _ (D4 _ rfl)));have r1:(rl s.heap c d l1 l2).get? s.heap.objs.size=some _:=B6 _ (B6 _ (B6 _ (B6 _ (D4 _ rfl))))
 show _/\_
 rw[n2,n3,n4] at r5;rw[n1,n2] at r3;rw[n3] at r4;rw[n1] at r2;rw[n4];refine#[#[_,r5,rfl],q _ r5 r3 r4 #[_,r1,rfl,rfl] #[_,r2,rfl,rfl] n5 λe o x=>?_];exact B6 _ (B6 _ (B6 _ (B6 _ (B6 _ x))))
end
theorem uo6{prog:Program}{w:World}{A:Around}{E:Value->Shared->Prop}{s:Shared}{c d:Bool}{l1 l2 z TI TO i1 i2:Addr}{xs ys:Array Value}{Q:Value->Shared->Prop}(hh:A.in1.in1.handled=none)(D:ur z TI TO i1 i2 l1 l2)
  (zz:IsZip s.heap z TI TO .none) (ti:IsPair s.heap TI (.ref i1) (.ref i2)) (to:∃u v,IsPair s.heap TO u v) (h1:dt c s.heap i1 l1 0) (h2:dt d s.heap i2 l2 0) (m1:eK c s.heap l1 xs) (m2:eK d s.heap l2 ys)
  {ks:List Key} {rv:List V} (rk:Vals (ks.map kV) xs.toList) (rr:Vals rv ys.toList) (hn:ks.length=rv.length) (hz:ks.length<=1000)
  (q:∀(h':Heap) (tk:Nat) (vs:List (Key×Value)),(∀b o,b≠z->b≠TO->b≠i1->b≠i2->s.heap.get? b=some o->h'.get? b=some o)->KV (putAll ks rv []) vs->h'.DictOf (dX prog w) s.heap.objs.size vs->Q (.ref s.heap.objs.size) { s with heap:=h',toks:=tk}) :
  wpAny (model prog w) A (call (.type "dict") [.ref z]) Q E s:=by
 refine callType_codes (Q₁:=λobj s1=>obj=.ref s.heap.objs.size/\s1={ s with heap:=s.heap.push { cls:=.type "dict",data:=.dict [].toArray}}) F.kt_called_dict (F.kt_typeCall_dict_1 (.ref z)) F.entry_dict_init (kt_code_dict_new (.ref z) #[rfl,rfl]) λobj s1 fW=>?_
 obtain⟨e1,e2⟩:=fW;subst e1;subst e2;have ed:(s.heap.push { cls:=.type "dict",data:=.dict [].toArray}).DictOf (dX prog w) s.heap.objs.size []:=VF s.heap;have up:∀b o,s.heap.get? b=some o->(s.heap.push { cls:=.type "dict",data:=.dict [].toArray}).get? b=some o:=λb o e=>B6 _ e
 have ne:∀{b o},s.heap.get? b=some o->s.heap.objs.size≠b:=λe=>X7 (D5 e)
 obtain⟨u,v,to⟩:=to;refine#[ed.typeIs,F.args_dict_init_2 _ _,?_];unfold Builtin.«dict.__init__» A88;refine B5 (B5 (wpAny_notOrdered_dict ed.typeIs (C2 ?_)))
 show wpAny _ _ (W9 "dict.__init__" s.heap.objs.size (.ref z) [] .none) _ _ { s with heap:=s.heap.push { cls:=.type "dict",data:=.dict [].toArray}}
 unfold W9;refine B5 (Cv #[_,up _ _ zz,rfl] ?_);rw[if_pos ∅];refine B5 (wg5 (s:={ s with heap:=s.heap.push { cls:=.type "dict",data:=.dict [].toArray}}) (up _ _ zz) hh λh' tk kp=>?_);simp only[B73,if_true];refine B5 (AS ?_);have pA:∀b o,s.heap.get? b=some o->h'.get? b=some o:=λb o e=>kp b o (up b o e)
 refine B5 (VH (s:={ s with heap:=h',toks:=tk}) (pA _ _ zz) ?_);refine C2 #[MG xN _,?_];have S7:s.heap.objs.size≠z/\s.heap.objs.size≠TI/\s.heap.objs.size≠TO/\s.heap.objs.size≠i1/\s.heap.objs.size≠i2/\s.heap.objs.size≠l1/\s.heap.objs.size≠l2:=by
  refine#[ne zz,ne ti,ne to,?_,?_,?_,?_]
  ·obtain⟨o,e,_⟩:=h1;exact ne e
  ·obtain⟨o,e,_⟩:=h2;exact ne e
  ·obtain⟨o,e,_⟩:=m1;exact ne e
  ·obtain⟨o,e,_⟩:=m2;exact ne e
 refine wg4 (s:=s) (h1:=h') (c:=c) (d:=d) hh D S7 rk rr hn hz (λh2 Rt vs k2 rel dd=>#[rfl,q h2 Rt vs (λb o b2 b3 b4 b5 e=>k2 b o (D8 (ne e)) b2 b3 b4 b5 (pA b o e)) rel dd]) ks.length 0 h' tk 0 [] [] rfl (J8 _)
  #[.inl (pA _ _ zz),pA _ _ ti,#[u,v,pA _ _ to],h1.at λo e=>pA _ _ e,h2.at λo e=>pA _ _ e,m1.at λo e=>pA _ _ e,m2.at λo e=>pA _ _ e] .nil (ed.at λo e=>kp _ _ e) (B8 _) rfl λb o _ _ _ _ _ e=>e
def ux2(K:W.Frag)(ta:TA):TE:=λσ H Q=>ta σ H λvs H1=>∃c d a b ks rv,vs=[.ref a,.ref b]/\Sq c K H1 a (ks.map kV)/\Sq d K H1 b rv/\ks.length=rv.length/\ks.length<=1000/\∀p,H1 p=none->Q (.ref p) (upd H1 p (.dK (putAll ks rv [])))
theorem Rm:∀(ks:List Key) (rv:List V) (kvs:List (Key×V)),(putAll ks rv kvs).length<=ks.length+kvs.length
 | [],_,kvs=>by simp[putAll]
 | _::_,[],kvs=>by simp[putAll]
 | k::ks,v::rv,kvs=>by
  have h1:=Rm ks rv (putK kvs k v);have h2:=zp kvs k v
  show(putAll ks rv (putK kvs k v)).length<=(ks.length+1)+kvs.length
  omega
theorem v27{X:Cx}{a b:Expr}{ta:TA}{p p2 pos jr:Pos}{k:Nat}(hr:aM k X.A)(hg:Gl X "zip")(hm:X.mg "zip" = none)(qQ:Gl X "dict")(eD:X.mg "dict" = none)(ha:PA X [a,b] ta)
  (hs:C5 [a,b] X.env=(false,eval a X.env)::C5 [b] X.env:=by rfl) (zT:(backTo pos (C5 [b] X.env)).any (·.1)=false:=by rfl)
  (cy:C5 [.Call (.Name "zip" p) [a,b] [] pos] X.env=[(false,eval (.Call (.Name "zip" p) [a,b] [] pos) X.env)]:=by rfl) :
  PE X (.Call (.Name "dict" p2) [.Call (.Name "zip" p) [a,b] [] pos] [] jr) (ux2 X.K ta):=by
 intro pins s σ H Q I h;refine N6 (oj I qQ eD (show Q6 "dict" = some (.type "dict") by decide) ?_);refine J1 ?_ cy rfl;rw[cy]
 show wpAny _ _ (spliced ((false,eval (.Call (.Name "zip" p) [a,b] [] pos) X.env)::backTo jr [])) _ _ s
 refine Q0 ?_;refine N6 (oj I hg hm boot_zip (J1 (a_ (ha pos pins s σ H _ I h) λus s1 ⟨vs,H1,I1,r1,q1⟩=>?_) hs zT));obtain⟨c,d,l,m,ks,rv,e,hq,ju,hn,hz,q⟩:=q1;subst e;cases r1 with
 | cons r rr =>
  cases rr with
  | cons r2 rr =>
   cases rr;cases r;cases r2;obtain⟨its,r1,pl⟩:=I1.sq hq;obtain⟨aW,r2,BJ⟩:=I1.sq ju;have pN:l<s1.heap.objs.size:=by obtain⟨o,e,_⟩:=pl;exact D5 e
   have Ts:m<s1.heap.objs.size:=by obtain⟨o,e,_⟩:=BJ;exact D5 e
   refine vj4 pl BJ λh0 k1 k2 k3 k4 k5 k6 k7=>?_
   refine R8 ?_;refine uo6 hr.hd (zipApart_new pN Ts) k1 k2 #[_,_,k3] k4 k5 (pl.at λo e=>k7 _ _ e) (BJ.at λo e=>k7 _ _ e) (ks:=ks) (rv:=rv) (by simpa using r1) (by simpa using r2) hn hz λh' tk vs kp rel dd=>?_
   have FQ:∀b o,s1.heap.get? b=some o->h'.get? b=some o:=λb o e=>kp b o (I0 (C9 (D5 e) (Q2 _ _))) (I0 (C9 (D5 e) (Q2 _ _))) (I0 (D5 e)) (I0 (C9 (D5 e) (Q2 _ _))) (k7 b o e)
   have hle:s1.heap.objs.size<=h0.objs.size:=by rw[k6];exact Q2 _ _
   have hp:H1 h0.objs.size=none:=I1.az.fresh hle;have hlen:(putAll ks rv []).length<=sizeLine:=D6 (Rm ks rv []) (D6 (m:=1000) (by simpa using hz) ∅);have zR:(h0.objs.size==Q5)=false:=beq_eq_false_iff_ne.mpr (X7 (C9 I1.big hle));have I2:=I1.laid (a:=h0.objs.size) (t':=tk) (o:=.dK (putAll ks rv [])) FQ hle #[hlen,zR,vs,rel,dd];exact#[.ref h0.objs.size,_,I2,rfl,q _ hp]
end L2
namespace L3
open PySem PySem.Spec PyProof.Rows L2
def di(kvs:List (Key×D))(k:Key):Option D:=(kvs.find? λkv=>decide (kv.1=k)).map (·.2)
def lA(kvs:List (Key×D))(k:Key)(v:D):List (Key×D) :=
 if(kvs.any λkv=>decide (kv.1=k))=true then kvs.map (λkv=>if kv.1=k then(kv.1,v) else kv) else kvs++[(k,v)]
def qy:List Key->List D->List (Key×D)->List (Key×D)
 | k::ks,v::vs,kvs=>qy ks vs (lA kvs k v)
 | _,_,kvs=>kvs
section
variable{X:Cx}{K:W.Frag}{G:Gp}{H:Hp}{p:Addr}
theorem Du:∀{kvs:List (Key×D)} {ys:List (Key×V)},ay K H kvs ys->(di kvs k=none/\cV ys k=none)\/∃d v,di kvs k=some d/\cV ys k=some v/\ae K H d v
 | [],ys,⟨h1,h2⟩=>by
  have:ys=[]:=by cases ys with|nil=>rfl|cons y ys=>simp at h1
  subst this;exact .inl #[rfl,rfl]
 | (k',d)::kvs,[],⟨h1,h2⟩=>by simp at h1
 | (k',d)::kvs,(k2,v)::ys,⟨h1,h2⟩=>by
  rw[C0,C0] at h1;obtain⟨e1,e2⟩:=W2 h1;have e1:k'=k2:=e1;subst e1;obtain⟨x,rq,e3,q1,q2⟩:=h2.aj;rw[C0] at e3;obtain⟨e4,e5⟩:=W2 e3;have e4:v=x:=e4;subst e4
  by_cases hk:k'=k
  ·right
   exact#[d,v,by simp[di,M5,hk],BB hk,q1]
  ·have ih:=Du (k:=k) (kvs:=kvs) (ys:=ys) #[e2,by rw[e5];exact q2]
   have a1:di ((k',d)::kvs) k=di kvs k:=by simp[di,M5,hk]
   rw[a1,BA hk];exact ih
theorem ZX(q:ae K H d v):∀{kvs:List (Key×D)} {ys:List (Key×V)},ay K H kvs ys->ay K H (kvs.map (λkv=>if kv.1=k then(kv.1,d) else kv)) (ys.map (λkv=>if kv.1=k then(kv.1,v) else kv))/\(kvs.any λkv=>decide (kv.1=k))=(ys.any λkv=>decide (kv.1=k))
 | [],ys,⟨h1,h2⟩=>by
  have:ys=[]:=by cases ys with|nil=>rfl|cons y ys=>simp at h1
  subst this;exact#[#[rfl,.nil],rfl]
 | (k',d')::kvs,[],⟨h1,h2⟩=>by simp at h1
 | (k',d')::kvs,(k2,v')::ys,⟨h1,h2⟩=>by
  rw[C0,C0] at h1;obtain⟨e1,e2⟩:=W2 h1;have e1:k'=k2:=e1;subst e1;obtain⟨x,rq,e3,q1,q2⟩:=h2.aj;rw[C0] at e3;obtain⟨e4,e5⟩:=W2 e3;have e4:v'=x:=e4;subst e4;obtain⟨⟨i1,i2⟩,i3⟩:=ZX (k:=k) q (kvs:=kvs) (ys:=ys) #[e2,by rw[e5];exact q2];refine#[#[?_,?_],by rw[P0,P0,i3]]
  ·rw[C0,C0,C0,C0,i1]
   by_cases hk:k'=k <;> simp[hk]
  ·rw[C0,C0,C0,C0]
   by_cases hk:k'=k
   ·simp only[hk,if_true];exact .cons q i2
   ·simp only[hk,if_false];exact .cons q1 i2
theorem QP(q:ae K H d v)(h:ay K H kvs ys):ay K H (lA kvs k d) (putK ys k v):=by
 obtain⟨i1,i3⟩:=ZX (k:=k) q h;unfold lA putK;rw[i3];split
 ·exact i1
 ·exact#[by rw[B9,B9,h.1];rfl,by rw[B9,B9];exact h.2.append (.cons q .nil)]
theorem Rn:∀{ks:List Key} {ds:List D} {vs:List V} {kvs:List (Key×D)} {ys:List (Key×V)},af K H ds vs->ay K H kvs ys->ay K H (qy ks ds kvs) (putAll ks vs ys)
 | [],_,_,_,_,_,h=>h
 | _::_,[],vs,_,_,r,h=>by rw[r.aR];exact h
 | k::ks,d::ds,vs,kvs,ys,r,h=>by
  obtain⟨x,rq,rfl,q1,q2⟩:=r.aj;exact Rn (ks:=ks) q2 (QP q1 h)
theorem zf(r:ae K H (kD k) v):v=kV k:=by
 cases k with
 | inl i=>exact(show ae K H (.int i) v from r).int_inv
 | inr x=>exact(show ae K H (.str x) v from r).str_inv
def vq(td ti:bw):bw:=λσ G q=>td σ G λx G1=>ti σ G1 λy G2=>∃a kvs k d,x=.ref a/\y=kD k/\G2 a=some (.bN kvs)/\di kvs k=some d/\q d G2
theorem vo7(h:aI K (vq td ti) σ H Q):PC (aI K td) (aI K ti) σ H Q:=by
 obtain⟨σd,G,q,rs,c,t,f⟩:=h;refine#[σd,G,_,rs,c,t,λx G1 v H1 r1 c1 l1 t1=>#[σd,G1,_,rs.le l1,c1,t1,λy G2 u H2 r2 c2 l2 t2=>?_]];obtain⟨a,kvs,k,d,rfl,rfl,hg,hv,t3⟩:=t2;have Ee:=ae.le l2 r1;cases Ee.ai;obtain rfl:=zf r2;obtain⟨ys,e,rp⟩:=c2 a _ hg
 rcases Du (k:=k) rp with⟨z,_⟩|⟨d',w,z1,z2,z3⟩
 ·rw[hv] at z;cases z
 ·rw[hv] at z1;cases z1
  exact⟨a,w,rfl,by rw[<- z2];exact lq.k e,f _ _ _ _ z3 c2 (l1.trans l2) t3⟩
theorem vA(hr:aM k X.A)(ho:E3 X o to)(hi:E3 X i ti)(hs:rg i:=by exact λ_ _=>rfl):E3 X (.Subscript o i pos) (vq to ti) :=
 dA (Zp (JT hr) ho hi hs) λ_ _ _=>vo7
def CP(td ti tv:bw):fz:=λDn σ G=>tv σ G λv G1=>td σ G1 λx G2=>ti σ G2 λy G3=>∃(a:Addr) (kvs:List (Key×D)) (k:Key),x=.ref a/\y=kD k/\G3 a=some (.bN kvs)/\kvs.length<sizeLine/\Dn.nx σ (aG G3 a (.bN (lA kvs k v)))
theorem KD{pos pos':Pos}(hr:aM k X.A)(ho:E3 X o to)(hi:E3 X i ti)(hv:E3 X value tv)
  (hs:V2 value (some (.Subscript o i pos')) pos.line X.env=pure false:=by rfl):S3 X (.Assign [.Subscript o i pos'] value pos) (CP to ti tv) :=
 oi (wa3 (JT hr) ho hi hv hs) λD σ H h=>by
  obtain⟨σd,G,d,rs,c,t,f⟩:=h;refine#[σd,G,_,rs,c,t,λv G1 w H1 r1 c1 l1 t1=>#[σd,G1,_,rs.le l1,c1,t1,λx G2 u H2 r2 c2 l2 t2=>#[σd,G2,_,rs.le (l1.trans l2),c2,t2,λy G3 z H3 r3 c3 l3 t3=>?_]]];obtain⟨a,kvs,k,rfl,rfl,hg,hl,t4⟩:=t3;have RN:=ae.le l3 r2;cases RN.ai;obtain rfl:=zf r3;obtain⟨ys,e,rp⟩:=c3 a _ hg;have l5:Le H3 (upd H3 a (.dK (putK ys k w))):=Le.dK e;have Sr:ys.length=kvs.length:=by
   have:=congrArg F9 rp.1;rw[B0,B0] at this;exact this.symm
  refine#[a,_,rfl,um.k e (by rw[Sr];exact hl),?_];refine f.nx _ _ _ _ (((rs.le l1).le l2).le (l3.trans l5)) ?_ (l1.trans (l2.trans (l3.trans l5))) t4;exact c3.put l5 #[_,f',(QP (ae.le (l2.trans l3) r1) rp).le l5]
def QL(t:dz):bw:=λσ G q=>t σ G λds G1=>match ds with
 | [x,y]=>∃(ks:List Key) (es:List D),jo G1 x=some (ks.map kD)/\jo G1 y=some es/\ks.length=es.length/\ks.length<=1000/\∀p,G1 p=none->q (.ref p) (aG G1 p (.bN (qy ks es [])))
 | _=>False
theorem uu7(h:aI K (QL t) σ H Q):ux2 K (dE K t) σ H Q:=by
 obtain⟨σd,G,q,rs,c,t,f⟩:=h;refine#[σd,G,_,rs,c,t,λds G1 vs H1 r1 c1 l1 t1=>?_];split at t1
 ·rename_i x y
  obtain⟨ks,es,e,e2,hn,hz,t2⟩:=t1;obtain⟨v,YL,rfl,rv,r2⟩:=r1.aj;obtain⟨v2,rfl,xU⟩:=r2.one;obtain⟨k1,a,rfl,_,q1⟩:=JZ rv c1 e;obtain⟨k2,b,rfl,_,q2⟩:=JZ xU c1 e2;obtain⟨xs,s1,rx⟩:=q1 G1 H1 (Le.refl _) c1 e;obtain⟨ys,s2,ry⟩:=q2 G1 H1 (Le.refl _) c1 e2;obtain rfl:=QQ rx;refine#[k1,k2,a,b,ks,ys,rfl,s1,s2,by rw[hn,ry.length],hz,λp hp=>?_];refine f (.ref p) _ (.ref p) _ ae.fh (c1.put (o:=.bN (qy ks es [])) (Le.fresh hp) #[_,f',?_]) (l1.trans (Le.fresh hp)) (t2 p (c1.fresh hp));exact(Rn ry #[rfl,.nil]).le (Le.fresh hp)
 ·exact t1.elim
theorem vf1{a b:Expr}{ts:dz}{p p2 pos jr:Pos}{k:Nat}(hr:aM k X.A)(hg:Gl X "zip")(hm:X.mg "zip" = none)(qQ:Gl X "dict")(eD:X.mg "dict" = none)(ha:A3 X [a,b] ts)
  (hs:C5 [a,b] X.env=(false,eval a X.env)::C5 [b] X.env:=by rfl) (zT:(backTo pos (C5 [b] X.env)).any (·.1)=false:=by rfl)
  (cy:C5 [.Call (.Name "zip" p) [a,b] [] pos] X.env=[(false,eval (.Call (.Name "zip" p) [a,b] [] pos) X.env)]:=by rfl) :
  E3 X (.Call (.Name "dict" p2) [.Call (.Name "zip" p) [a,b] [] pos] [] jr) (QL ts):=dA (v27 hr hg hm qQ eD ha hs zT cy) λ_ _ _=>uu7
end
end L3
namespace L3
open PySem PySem.Spec PyProof.Rows L2 Rw
def gN:List Str->Str->Nat
 | [],_=>0
 | b::bs,x=>if b=x then 0 else 1+gN bs x
def gtB(bs:List Str)(vs:List Nat)(x:Str):Nat:=(vs[gN bs x]?).getD 0
def eh(bs:List Str)(vs:List Nat)(x:Str)(v:Nat):List Nat:=vs.set (gN bs x) v
def bI(bs:List Str)(vs:List Nat):List (Key×D):=(bs.zip vs).map λp=>(W5 p.1,D.int (p.2:Int))
theorem PZ:∀{bs:List Str} {x:Str},x∈bs->gN bs x<bs.length
 | b::bs,x,h=>by
  unfold gN
  by_cases e:b=x
  ·rw[if_pos e];simp
  ·rw[if_neg e]
   have:=PZ (bs:=bs) (x:=x) (by rcases E6.mp h with z|z;exact absurd z.symm e;exact z);simp only[C1];omega
theorem vC:∀{bs:List Str} {vs:List Nat} {x:Str},x∈bs->vs.length=bs.length->di (bI bs vs) (.inr x)=some (.int (gtB bs vs x:Int))
 | b::bs,[],x,h,hl=>by simp at hl
 | b::bs,v::vs,x,h,hl=>by
  by_cases e:b=x
  ·subst e
   simp[di,bI,gtB,gN,M5]
  ·have hx:x∈bs:=by rcases E6.mp h with z|z;exact absurd z.symm e;exact z
   have ih:=vC (bs:=bs) (vs:=vs) (x:=x) hx (by simpa using hl);have e2:di (bI (b::bs) (v::vs)) (.inr x)=di (bI bs vs) (.inr x):=by
    simp[di,bI,M5,e]
   rw[e2,ih];have:gtB (b::bs) (v::vs) x=gtB bs vs x:=by
    unfold gtB;rw[show gN (b::bs) x=1+gN bs x from by rw[gN,if_neg e],P7,R9]
   rw[this]
theorem Qk:∀{bs:List Str} {vs:List Nat},x∉bs->(bI bs vs).map (λkv=>if kv.1=W5 x then(kv.1,w) else kv)=bI bs vs/\((bI bs vs).any λkv=>decide (kv.1=W5 x))=false
 | [],_,_=>#[rfl,rfl]
 | _::_,[],_=>#[rfl,rfl]
 | b::bs,v::vs,h=>by
  have hb:b≠x:=λe=>h (by rw[e];simp)
  obtain⟨i1,i2⟩:=Qk (x:=x) (w:=w) (bs:=bs) (vs:=vs) λz=>h (C7 _ z)
  unfold bI at i1 i2⊢;refine#[?_,?_]
  ·rw[P8,C0,C0,i1]
   simp[hb]
  ·rw[P8,C0,P0,i2]
   simp[hb]
theorem Rg:∀{bs:List Str} {vs:List Nat} {x:Str} {v:Nat},x∈bs->bs.Nodup->vs.length=bs.length->lA (bI bs vs) (.inr x) (.int (v:Int))=bI bs (eh bs vs x v):=by
 intro bs vs x v h hn hl;have key:((bI bs vs).any λkv=>decide (kv.1=W5 x))=true/\(bI bs vs).map (λkv=>if kv.1=W5 x then(kv.1,D.int (v:Int)) else kv)=bI bs (eh bs vs x v):=by
  induction bs generalizing vs with
  | nil=>cases h
  | cons b bs ih =>
   cases vs with
   | nil=>simp at hl
   | cons u vs =>
    obtain⟨n1,n2⟩:=O9.mp hn
    by_cases e:b=x
    ·subst e
     obtain⟨i1,i2⟩:=Qk (x:=b) (w:=D.int (v:Int)) (vs:=vs) n1;unfold bI at i1⊢;refine#[by simp,?_];rw[P8,C0,C0,i1];simp[eh,gN]
    ·have hx:x∈bs:=by rcases E6.mp h with z|z;exact absurd z.symm e;exact z
     obtain⟨i1,i2⟩:=ih (vs:=vs) hx n2 (by simpa using hl);have ep:eh (b::bs) (u::vs) x v=u::eh bs vs x v:=by
      unfold eh;rw[show gN (b::bs) x=gN bs x+1 from by rw[gN,if_neg e,P7],B74]
     rw[ep];unfold bI at i1 i2⊢;refine#[?_,?_]
     ·rw[P8,C0,P0,i1,Mz]
     ·rw[P8,P8,C0,C0,C0,i2]
      simp[e]
 unfold lA;rw[if_pos key.1];exact key.2
theorem uk1:∀{bs cs:List Str} {vs us:List Nat},vs.length=bs.length->us.length=cs.length->(cs++bs).Nodup->qy (bs.map W5) (vs.map nD) (bI cs us)=bI (cs++bs) (us++vs)
 | [],cs,[],us,_,_,_=>by simp[qy]
 | [],cs,_::_,us,h,_,_=>by simp at h
 | _::_,cs,[],us,h,_,_=>by simp at h
 | b::bs,cs,v::vs,us,h,h2,hn=>by
  show qy (bs.map W5) (vs.map nD) (lA (bI cs us) (.inr b) (.int (v:Int)))=_
  have hb:b∉cs:=λz=>by
   have:=MZ.mp hn;exact this.2.2 b z b (by simp) rfl
  obtain⟨_,i2⟩:=Qk (x:=b) (w:=D.int (v:Int)) (vs:=us) hb;have e1:lA (bI cs us) (.inr b) (.int (v:Int))=bI (cs++[b]) (us++[v]):=by
   unfold lA;rw[i2,if_neg (by simp)];unfold bI;rw[C16 h2.symm,B9];rfl
  rw[e1];have pM:((cs++[b])++bs).Nodup:=by rw[E2];exact hn
  rw[uk1 (bs:=bs) (cs:=cs++[b]) (vs:=vs) (us:=us++[v]) (by simpa using h) (by simp[h2]) pM,E2,E2];rfl
theorem v24{bs:List Str}{vs:List Nat}(hl:vs.length=bs.length)(hn:bs.Nodup):qy (bs.map W5) (vs.map nD) []=bI bs vs:=by
 have:=uk1 (bs:=bs) (cs:=[]) (vs:=vs) (us:=[]) hl rfl hn;simpa[bI] using this
theorem Dy(bs:List Str)(vs:List Nat):(bI bs vs).length<=bs.length:=by
 unfold bI;rw[B0,JK];exact Nat.min_le_left _ _
theorem XF:∀{rs:List aq} {r:aq},dY W bs rs->r∈rs->qI W bs r
 | s::rs,r,h,m=>by
  rcases E6.mp m with e|e
  ·subst e;exact h.1
  ·exact XF h.2 e
theorem pw(W:Nat):(1:Int)*2^W=((2^W:Nat):Int):=by rw[Ms,Int.natCast_pow];rfl
theorem vq2(e:G h=some o):aG G h o=G:=by
 funext b
 unfold aG;split
 ·rename_i z;rw[z];exact e.symm
 ·rfl
theorem Qz:∀{bs:List Str} {vs:List Nat},bs.Nodup->vs.length=bs.length->bs.map (gtB bs vs)=vs
 | [],[],_,_=>rfl
 | [],_::_,_,h=>by simp at h
 | _::_,[],_,h=>by simp at h
 | b::bs,v::vs,hn,h=>by
  obtain⟨n1,n2⟩:=O9.mp hn;have e1:gtB (b::bs) (v::vs) b=v:=by simp[gtB,gN]
  have e2:bs.map (gtB (b::bs) (v::vs))=bs.map (gtB bs vs):=by
   refine K9 λx hx=>?_
   have hb:b≠x:=λz=>n1 (z▸hx)
   unfold gtB;rw[show gN (b::bs) x=gN bs x+1 from by rw[gN,if_neg hb,P7],R9]
  rw[C0,e1,e2,Qz n2 (by simpa using h)]
theorem Zn(h:dY W bs ys):∀k:Nat,dY W bs (D0 k ys).flatten
 | 0=>trivial
 | k+1=>by rw[K3,M6];exact cP.mpr #[h,Zn h k]
mutual
theorem wc2:∀(r:aq),qI W bs r->dY W bs (dO r)
 | .is _ _,h=>#[h,trivial]
 | .op _ _ _ _,h=>#[h,trivial]
 | .eF a ys ns,h=>#[#[h.1,Dm ys h.2.1,Dm ns h.2.2],trivial]
 | .gV k ys,h=>Zn (Dm ys h.2) k
theorem Dm:∀(rs:List aq),dY W bs rs->dY W bs (aF rs)
 | [],_=>trivial
 | r::rs,h=>cP.mpr #[wc2 r h.1,Dm rs h.2]
end
end L3
namespace Rw
open PySem PySem.Spec PyProof.Rows L2 L3
theorem vg8{α:Type}{xs:List α}{n:Nat}:L3.cutD xs (some (n:Int)) none=xs.drop n:=by
 unfold L3.cutD;rw[HT.lW,HT.kH]
 rcases Nat.le_total n xs.length with h|h
 ·rw[VB h]
  exact B17 (by rw[MV];exact B8 _)
 ·rw[Nat.min_eq_right h,U2 (B8 _),U2 h,List.take_nil]
end Rw
namespace L2
open PySem PySem.Spec PyProof.Rows
section
variable{X:Cx}{tg:Expr}
theorem wm4:q_ X (λx _ _ H Q=>∃y:Str,x=.str y/\y.length<=sizeLine/\∀z:Str,z.length<=y.length->Q (.str z) H):=by
 intro pins s σ H x v vl vu lo hi sl Q I rx hs pl pu h;obtain⟨y,rfl,hy,q⟩:=h;obtain⟨t,rfl⟩:=rx;refine#["str",_,PySem.F.slot_str_getitem.lookup,Ml _ _ _,?_];obtain⟨l,rfl⟩:∃l,vl=partValue l:=by cases pl with
  | none=>exact#[none,rfl]
  | int i t=>exact#[some (i,t),rfl]
 obtain⟨u,rfl⟩:∃l,vu=partValue l:=by cases pu with
  | none=>exact#[none,rfl]
  | int i t=>exact#[some (i,t),rfl]
 refine wpAny_getItem_str_slice (l:=l) (u:=u) (st:=none) hs rfl ?_;unfold sliceMade;split
 ·exact#[.str y,H,I,#[t,rfl],q y (B8 _)]
 ·have hl:(#[((slicePicked y l u none).filterMap (y.cps[·]?)).toArray]:Str).length<=y.length:=by
   show(List.filterMap _ _).toArray.size<=_
   rw[E5];exact D6 (List.length_filterMap_le _ _) (sliceIndices_le _ _ _)
  exact#[D6 hl hy,.str _,H,I.tok _,#[_,rfl],q _ hl]
end
end L2
namespace L3
open PySem PySem.Spec PyProof.Rows L2
section
variable{X:Cx}{K:W.Frag}{H:Hp}{o e tg:Expr}{es:List Expr}{te to:bw}{ts:dz}{apos aJ pos:Pos}{x:Str}
def CD:Hv:=λx _ _ G q=>∃y:Str,x=.str y/\y.length<=sizeLine/\∀z:Str,z.length<=y.length->q (.str z) G
theorem x79:q_ X (JV X.K CD):=YC wm4 <| by
 rintro x lo hi H Q ⟨d,G,q,r1,c,⟨y,rfl,hy,t⟩,f⟩;exact#[y,r1.str_inv,hy,λz hz=>f _ _ _ _ (by rw[ae]) c (Le.refl H) (t z hz)]
def WL:bw:=λ_ G q=>∀p,G p=none->q (.ref p) (aG G p (.bN []))
theorem wg0:E3 X (.Dict [] [] pos) WL:=dA vm6 λσ H Q h=>by
 obtain⟨σd,G,q,rs,c,t,f⟩:=h;exact λp hp=>f (.ref p) _ (.ref p) _ (by rw[ae]) (c.put (o:=.bN []) (Le.fresh hp) #[[],f',rfl,.nil]) (Le.fresh hp) (t p (c.fresh hp))
end
end L3
namespace L2
open PySem PySem.Spec PyProof.Rows
def xn(lo st:Int)(n:Nat):It:=#[λi _=>i<n,λi H x H'=>H'=H/\x=.int (lo+i*st),λi _=>n<=i]
theorem ut6{P:Program}{w:World}{K:C63}{tg:Expr}(it:Addr)(lo c:Int)(n:Nat):Turn P w K tg (xn lo c n) [it] it (λi h=>Mq h it (lo+(i:Nat)*c) ((n:Int)-(i:Nat)) c) where
 mem:=by simp
 obj:=λi h st b hb=>by
  have e:b=it:=by simpa using hb
  subst e;exact#[_,st,λv z=>by
   have z':Mw _=Cr v:=z;cases z']
 keep:=λi h h' st k=>k it (by simp) _ st
 item:=by
  intro X hP hw hK hc i pins s σ H E I hf st hg;subst hP hw hK;obtain⟨f0,f1,f2,f3,f4,f5⟩:=hf it (by simp);have W:=C76 (prog:=X.prog) (w:=X.w) (I.ok.hd hc) it lo c n;refine W.item i s _ _ hg st λv h' tk hv jI kk=>?_
  obtain⟨t,rfl⟩:=hv;have I1:Inv X pins σ H { s with heap:=h',toks:=tk}:=I.turned (λb o hb e=>kk b o (by simpa using hb) e) f0 f1 f3 f4 f5
  exact#[_,rfl,Bb (s:={ s with heap:=h',toks:=tk}) (n := "range_iterator") jI rfl rfl ∅ #[.int (lo+i*c),H,I1,#[t,rfl],#[rfl,rfl],jI,λb hb=>(hf b hb).1]]
 done:=by
  intro X hP hw hK hc i pins s σ H E I hf st hg;subst hP hw hK;obtain⟨f0,f1,f2,f3,f4,f5⟩:=hf it (by simp);exact wpAny_pyNext_range_end (I.ok.hd hc) st (by have:n<=i:=hg;omega) λh' eb=>#[rfl,I.turned (t':=s.toks) (λb o hb e=>eb b o hb e) f0 f1 f3 f4 f5]
 self:=λ_ _ _ _ _ st h=>wpAny_pyIter_rangeiter st h
end L2
namespace L3
open PySem PySem.Spec PyProof.Rows L2
def ib(lo c:Int)(n:Nat):List D:=(D1 n).map λ(i:Nat)=>D.int (lo+(i:Int)*c)
theorem v35{K:W.Frag}{H0:Hp}{lo c:Int}{n:Nat}:gB K H0 #[ib lo c n,λ_=>True] (xn lo c n) where
 go:=λi G H l c _ hi=>by
  have hi:i<(ib lo _ n).length:=hi
  show i<n
  simpa[ib] using hi
 stop:=λi G H l c _ hi=>by
  have hi:(ib lo _ n).length<=i:=hi
  show n<=i
  simpa[ib] using hi
 nQ:=λi G H v H' l c _ hi y=>by
  obtain⟨rfl,rfl⟩:=y;refine#[c,Le.refl _,.int (lo+i*_),?_,ae.cz];have hi:i<(ib lo _ n).length:=hi;have hi:i<n:=by simpa[ib] using hi
  show(ib lo _ n)[i]?=_
  unfold ib;rw[F0,Z5 hi];rfl
end L3
namespace L2
open PySem PySem.Spec PyProof.Rows
def uq1(ta:TA):TE:=λσ H Q=>ta σ H λvs H1=>∃j:Int,vs=[.int j]/\(-1000000<=j/\j<=1000000)/\∀l,H1 l=none->Q (.ref l) (upd H1 l (.lst ((D1 (j-0).toNat).map λk:Nat=>V.int (0+k))))
theorem uu2{X:Cx}(hr:aM k X.A)(hg:Gl X "range")(hm:X.mg "range" = none)(qQ:Gl X "list")(eD:X.mg "list" = none)(ha:PA X [a] ta)
  (hs:C5 [a] X.env=[(false,eval a X.env)]:=by rfl)
  (cy:C5 [.Call (.Name "range" p) [a] [] pos] X.env=[(false,eval (.Call (.Name "range" p) [a] [] pos) X.env)]:=by rfl) :
  PE X (.Call (.Name "list" p2) [.Call (.Name "range" p) [a] [] pos] [] jr) (uq1 ta):=by
 intro pins s σ H Q I h;refine N6 (oj I qQ eD ZL ?_);refine J1 ?_ cy rfl;rw[cy]
 show wpAny _ _ (spliced ((false,eval (.Call (.Name "range" p) [a] [] pos) X.env)::backTo jr [])) _ _ s
 refine Q0 ?_;refine N6 (oj I hg hm Jv (J1 (a_ (ha pos pins s σ H _ I h) λus s1 ⟨vs,H1,I1,r1,q1⟩=>?_) hs rfl));obtain⟨j,e,⟨b3,b4⟩,q⟩:=q1;subst e;cases r1 with
 | cons r rr =>
   cases rr;obtain⟨t2,rfl⟩:=r;refine call_range_1 ?_;refine R8 ?_;have hn:O5 0 j 1=(((j-0).toNat:Nat):Int):=by rw[Vu];split <;> omega
   refine call_list_range (hh:=hr.hd) (Mt ..) (UW () () () ()) hn () λh' tk acc c kp su hit=>?_
   have FQ:∀b o,s1.heap.get? b=some o->h'.get? b=some o:=λb o e=>kp b o (B6 _ e)
   have hv:Vals ((D1 (j-0).toNat).map λk:Nat=>V.int (0+k)) acc.toList:=by
    have hz:acc.size=(j-0).toNat:=hit.1;have key:∀(m:Nat) (l:List Value),(∀(y:Nat) v,l[y]?=some v->∃t,v=.int (0+(y:Int)) t)->l.length=m->Vals ((D1 m).map λk:Nat=>V.int (0+k)) l:=by
     intro m
     induction m with
     | zero=>intro l _ hl;have:l=[]:=D7 hl;subst this;exact .nil
     | succ m ih =>
      intro l hl hz
      rcases B40 l with e|⟨l',v,e⟩
      ·subst e;simp at hz
      ·rw[B41] at e
       subst e;have FV:l'.length=m:=by simpa using hz
       rw[R0,B9];refine(ih l' (λy v e=>hl y v ?_) FV).append (.cons ?_ .nil)
       ·rw[F8 (M4.mp e).1];exact e
       ·obtain⟨t,e⟩:=hl m v (by rw[<- FV];simp)
        exact#[t,e]
    refine key _ acc.toList (λy v e=>?_) (by simpa using hz);obtain⟨t,e⟩:=hit.2 y v (by simpa using e);exact#[t,by rw[e,Mu]]
   have pN:((D1 (j-0).toNat).map λk:Nat=>V.int (0+k)).length<=sizeLine:=by
    rw[B0,D9];exact O2 (C8 (m:=3000000) () ∅)
   have I2:=I1.laid (h':=h') (a:=s1.heap.objs.size+1) (o:=.lst ((D1 (j-0).toNat).map λk:Nat=>V.int (0+k))) (t':=tk) FQ (X4 _) #[pN,acc.toList,c,hv,by simpa using su];exact#[_,_,I2,by simp;rfl,q _ (I1.az.fresh (X4 _))]
end L2
namespace L3
open PySem PySem.Spec PyProof.Rows L2
def Q_(t:dz):bw:=λσ G q=>t σ G λds G1=>match ds with
 | [.int j]=>(-1000000<=j/\j<=1000000)/\∀p,G1 p=none->q (.ref p) (aG G1 p (.lst (cn 0 (j-0).toNat)))
 | _=>False
theorem ur6{K:W.Frag}{t:dz}{σ:L2.St}{H:Hp}{Q:VK}(h:aI K (Q_ t) σ H Q):uq1 (dE K t) σ H Q:=by
 obtain⟨σd,G,q,rs,c,t,f⟩:=h;refine#[σd,G,_,rs,c,t,λds G1 vs H1 r1 c1 l1 t1=>?_];split at t1
 ·rename_i j
  obtain⟨x,rfl,x1⟩:=r1.one;cases x1.int_inv;exact#[j,rfl,t1.1,λp hp=>f _ _ _ _ ae.fh (c1.cL hp (QA _)) (l1.trans (Le.fresh hp)) (t1.2 p (c1.fresh hp))]
 ·exact t1.elim
theorem v42{X:Cx}(hr:aM k X.A)(hg:Gl X "range")(hm:X.mg "range" = none)(qQ:Gl X "list")(eD:X.mg "list" = none)(ha:A3 X [a] ts)
  (hs:C5 [a] X.env=[(false,eval a X.env)]:=by rfl)
  (cy:C5 [.Call (.Name "range" p) [a] [] pos] X.env=[(false,eval (.Call (.Name "range" p) [a] [] pos) X.env)]:=by rfl) :
  E3 X (.Call (.Name "list" p2) [.Call (.Name "range" p) [a] [] pos] [] jr) (Q_ ts):=dA (uu2 hr hg hm qQ eD ha hs cy) λ_ _ _=>ur6
def PV(td ti tf:bw):bw:=λσ G q=>td σ G λx G1=>(∃a kvs,x=.ref a/\G1 a=some (.bN kvs))/\ti σ G1 λy G2=>tf σ G2 λz G3=>∃a kvs k,x=.ref a/\y=kD k/\G3 a=some (.bN kvs)/\q ((di kvs k).getD z) G3
theorem vc6{K:W.Frag}{H:Hp}{td ti tf:bw}{σ:L2.St}{Q:VK}(h:aI K (PV td ti tf) σ H Q):Yt (aI K td) (aI K ti) (aI K tf) σ H Q:=by
 obtain⟨σd,G,q,rs,c,t,f⟩:=h;refine#[σd,G,_,rs,c,t,λx G1 v H1 r1 c1 l1 t1=>?_];obtain⟨⟨a,kvs,rfl,ha⟩,t1⟩:=t1;obtain⟨ys,e,rp⟩:=c1 a _ ha;refine#[a,r1.ai,.inl #[ys,.of e],σd,G1,_,rs.le l1,c1,t1,λy G2 u H2 r2 c2 l2 t2=>#[σd,G2,_,rs.le (l1.trans l2),c2,t2,λz G3 w H3 r3 c3 l3 t3=>?_]];obtain⟨a',FP,k,e1,rfl,hg,t4⟩:=t3;cases e1;obtain rfl:=zf r2;obtain⟨JM,e3,Lf⟩:=c3 a _ hg;refine#[cV JM k,lq.k e3,?_]
 rcases Du (k:=k) Lf with⟨z1,z2⟩|⟨d',w',z1,z2,z3⟩
 ·rw[z1] at t4
  rw[z2];exact f _ _ _ _ r3 c3 (l1.trans (l2.trans l3)) t4
 ·rw[z1] at t4
  rw[z2];exact f _ _ _ _ z3 c3 (l1.trans (l2.trans l3)) t4
theorem x20{X:Cx}{apos aJ:Pos}(hr:aM k X.A)(ho:E3 X o to)(he:E3 X e te)(hf:E3 X f tf)(cB:O1 o "get" X.env (eval o X.env)=eval o X.env:=by rfl)
  (gQ:((backTo aJ (C5 [e,f] X.env)).all (λx=>!x.1)&&(V8 aJ (P4 [] X.env)).all (λx=>x.1.isSome)
   && decide (([e,f]:List Expr).length+([]:List Keyword).length+(if([]:List Keyword).isEmpty then 0 else 1)<30))=true:=by rfl)
  (cA:(apos.endLine==aJ.line)=true:=by rfl) (FZ:C5 [e,f] X.env=[(false,eval e X.env),(false,eval f X.env)]:=by rfl):E3 X (.Call (.Attribute o "get" apos) [e,f] [] aJ) (PV to te tf) :=
 dA (vm8 (JT hr) ho he hf ⟨cB,gQ,cA,by rw[FZ];rfl⟩) λ_ _ _=>vc6
end L3
namespace Rw
open PySem PySem.Spec PyProof.Rows L2 L3 Law
def jK(rs:List Row)(bs:List Int):List Int:=rs.foldl (cH 1) bs
theorem KR:jK (r::b) bs=jK b (cH 1 bs r):=rfl
theorem w91:jK [] bs=bs:=rfl
def tg(fr cQ:Nat):Row->Prop
 | .add x o=>fr<=x/\x<cQ/\o.ok cQ x
 | .take x o=>fr<=x/\x<cQ/\o.ok cQ x
 | .turn x i cs=>fr<=x/\x<cQ/\i<32/\cs.length<=2/\∀c∈cs,c.1<cQ/\c.1≠x/\c.2<32
 | _=>False
theorem KP{a b x:Nat}{o:nY}(h:o.ok a x)(hb:a<=b):o.ok b x:=by
 cases o with
 | num n=>exact h
 | box y=>exact#[C9 h.1 hb,h.2]
theorem zh(h:tg fr Cc r)(h0:fr0<=fr)(h1:Cc<=cQ):tg fr0 cQ r:=by
 cases r with
 | add x o=>exact#[D6 h0 h.1,C9 h.2.1 h1,KP h.2.2 h1]
 | take x o=>exact#[D6 h0 h.1,C9 h.2.1 h1,KP h.2.2 h1]
 | turn x i cs=>exact#[D6 h0 h.1,C9 h.2.1 h1,h.2.2.1,h.2.2.2.1,λc hc=>#[C9 (h.2.2.2.2 c hc).1 h1,(h.2.2.2.2 c hc).2]]
 | _=>exact h.elim
theorem v20(h:tg fr cQ r)(hs:cQ<=sz):r.ok sz:=by
 have h:=zh h (B8 _) hs;cases r with
 | add x o=>exact#[h.2.1,h.2.2]
 | take x o=>exact#[h.2.1,h.2.2]
 | turn x i cs=>exact#[h.2.1,h.2.2.1,h.2.2.2.1,h.2.2.2.2]
 | _=>exact h.elim
theorem Bz(h:tg fr cQ r):r.plain=true:=by
 cases r with
 | go=>exact h.elim
 | aL=>exact h.elim
 | _=>rfl
theorem Dc{bs:List Int}(h:x<bs.length):gt (cH 1 bs (.add x o)) i=if i=x then(gt bs x+val bs o)%4294967296 else gt bs i:=by
 show gt (bs.set x ((gt bs x+1*val bs o)%4294967296)) i=_
 rw[lC h,Ms]
theorem Bt{bs:List Int}(h:x<bs.length):gt (cH 1 bs (.take x o)) i=if i=x then(gt bs x-val bs o)%4294967296 else gt bs i:=by
 show gt (bs.set x ((gt bs x-1*val bs o)%4294967296)) i=_
 rw[lC h,Ms]
theorem Dh{bs:List Int}(h:x<bs.length):gt (cH 1 bs (.turn x i cs)) j=if j=x then(if con bs cs=true then fq (gt bs x) i else gt bs x) else gt bs j:=by
 show gt (if con bs cs=true then bs.set x (fq (gt bs x) i) else bs) j=_
 by_cases hc:con bs cs=true
 ·rw[if_pos hc,if_pos hc,lC h]
 ·rw[if_neg hc,if_neg hc]
  split
  ·rename_i e;rw[e]
  ·rfl
theorem w12{bs:List Int}(h:tg fr cQ r)(hb:cQ<=bs.length)(hi:i<fr\/cQ<=i):gt (cH 1 bs r) i=gt bs i:=by
 cases r with
 | add x o=>have:=h.1;have:=h.2.1;rw[Dc (),if_neg ()]
 | take x o=>have:=h.1;have:=h.2.1;rw[Bt (),if_neg ()]
 | turn x j cs=>have:=h.1;have:=h.2.1;rw[Dh (),if_neg ()]
 | _=>exact h.elim
structure Wv(fr cQ:Nat)(new:List Row)(F:List Int->List Int->Prop):Prop where
 le:fr<=cQ
 tg:∀r∈new,tg fr cQ r
 ef:∀sz bs,cM sz bs->cQ<=sz->(∀i,fr<=i->gt bs i=0)->F bs (jK new bs)
theorem QV:∀{new:List Row} {bs:List Int},(∀r∈new,Rw.tg fr cQ r)->cM sz bs->cQ<=sz->cM sz (jK new bs)/\∀i,i<fr\/cQ<=i->gt (jK new bs) i=gt bs i
 | [],bs,_,hb,_=>#[hb,λ_ _=>rfl]
 | r::new,bs,h,hb,hz=>by
  have h1:=h r D3;have Ln:=Qn (s:=1) hb (v20 h1 hz);obtain⟨i1,i2⟩:=QV (new:=new) (bs:=cH 1 bs r) (λx hx=>h x (C7 _ hx)) Ln hz;exact#[i1,λi hi=>by rw[KR,i2 i hi,w12 h1 (by rw[hb.len];exact hz) hi]]
theorem Wv.keep(h:Wv fr cQ new F)(hb:cM sz bs)(hz:cQ<=sz):cM sz (jK new bs)/\∀i,i<fr\/cQ<=i->gt (jK new bs) i=gt bs i:=QV h.tg hb hz
theorem Wv.nil(h:∀bs,F bs bs):Wv fr fr [] F:=#[B8 _,λr hr=>(by cases hr),λ_ bs _ _ _=>h bs]
theorem Wv.imp(h:Wv fr cQ new F)(k:∀bs wZ,F bs wZ->F' bs wZ):Wv fr cQ new F':=#[h.le,h.tg,λsz bs a b c=>k _ _ (h.ef sz bs a b c)]
theorem QR(h:∀r∈rs,r.plain=true)(m:Nat):∀(t:List Row) (s:Nat) (bs:List Int),rs.drop s=t->s+t.length=rs.length->rn true rs (t.length+m) s bs=(t.length,rs.length,jK t bs)
 | [],s,bs,e,hl=>by
  have hl:s=rs.length:=by simpa using hl
  rw[xJ (by
   show bu rs bs s=false
   unfold bu;rw[L9 ()])]
  rw[hl];rfl
 | r::t,s,bs,e,hl=>by
  have hs:s<rs.length:=by rw[C1] at hl;omega
  rw[N5 hs] at e;injection e with e1 e2
  obtain⟨p1,p2⟩:=Kn (bs:=bs) hs (h _ (N0 _));rw[show(r::t).length+m=(t.length+m)+1 by rw[C1];omega,ux (show fj true rs bs s=true from p1)];have p2:dP true rs bs s=(s+1,cH 1 bs rs[s]):=p2;rw[p2];have ih:=QR h m t (s+1) (cH 1 bs rs[s]) e2 (by rw[C1] at hl;omega)
  show((rn true rs (t.length+m) (s+1) (cH 1 bs rs[s])).1+1,(rn true rs (t.length+m) (s+1) (cH 1 bs rs[s])).2)=_
  rw[ih,e1];rfl
theorem BD(h:∀r∈rs,r.plain=true):Pairs rs:=by
 refine#[λj x n k e=>?_,λj x n k e=>?_]
 ·have:=h _ (K4 e);cases this
 ·have:=h _ (K4 e);cases this
theorem Lk(h:W<=16):2^W<=65536:=Wb ∅ h
theorem uC:(cH 1 bs r).length=bs.length:=by
 cases r with
 | add=>exact J5
 | take=>exact J5
 | turn x i cs=>show(if con bs cs=true then bs.set x _ else bs).length=_;split;exact J5;rfl
 | swap=>show((bs.set _ _).set _ _).length=_;rw[J5,J5]
 | go=>rfl
 | aL=>rfl
theorem Ub(i:Nat):fq 0 i=2^i:=by
 have:bit 0 i=0:=by unfold bit;rw[Int.zero_ediv];rfl
 show(0:Int)+2^i*(1-2*bit 0 i)=_
 rw[this];omega
theorem o1(k:Nat)(h:x<fr):x<fr+k:=Nat.lt_add_right k h
theorem o2(k:Nat)(h:x<fr):x≠fr+k:=I0 (o1 k h)
theorem o3{a:Nat}(h:a<65536):((0:Int)+a)%4294967296=a:=()
theorem o4{a c:Nat}(h:a<65536)(h':c<65536):((a:Int)+c)%4294967296=((a+c:Nat):Int):=()
theorem o5{v k:Nat}(h:v<4294967296)(h':k<=v):((v:Int)-k)%4294967296=((v-k:Nat):Int):=()
theorem o8{a c P:Nat}(ha:a<P)(hc:c<P)(hp:P<=65536):(((a:Int)-c)%4294967296+(if a<c then(P:Int) else 0))%4294967296=(((a+(P-c))%P:Nat):Int):=by
 by_cases q:a<c
 ·rw[if_pos q,C00 ()];omega
 ·rw[if_neg q,Nat.mod_eq_sub_mod (),C00 ()];omega
def cD(fr x y:Nat)(k:Nat):List Row:=(D1 k).map λi=>.turn fr i [(x,i),(y,i)]
def oR(rp:Addr)(W fr st:Nat):List (Str×D):=[("wide",.int (W:Int)),("fresh",.int (fr:Int)),("rows",.ref rp),("steps",.int (st:Int))]
theorem BM:(("fresh" :Str) == "wide")=false/\(("rows" :Str) == "wide")=false/\(("rows" :Str) == "fresh")=false/\(("steps" :Str) == "wide")=false/\(("steps" :Str) == "fresh")=false/\(("steps" :Str) == "rows")=false /\
  (("fresh_box" :Str) == "wide")=false/\(("fresh_box" :Str) == "fresh")=false/\(("fresh_box" :Str) == "rows")=false/\(("fresh_box" :Str) == "steps")=false/\(("put" :Str) == "wide")=false/\(("put" :Str) == "fresh")=false/\(("put" :Str) == "rows")=false/\(("put" :Str) == "steps")=false /\
  (("wide" :Str) = "fresh")=False/\(("wide" :Str) = "rows")=False/\(("wide" :Str) = "steps")=False/\(("fresh" :Str) = "rows")=False/\(("fresh" :Str) = "steps")=False/\(("rows" :Str) = "steps")=False/\(("fresh" :Str) = "wide")=False/\(("rows" :Str) = "wide")=False/\(("rows" :Str) = "fresh")=False/\(("steps" :Str) = "wide")=False/\(("steps" :Str) = "fresh")=False/\(("steps" :Str) = "rows")=False /\
  (("put_unless" :Str) == "wide")=false/\(("put_unless" :Str) == "fresh")=false/\(("put_unless" :Str) == "rows")=false/\(("put_unless" :Str) == "steps")=false/\(("put_by_choice" :Str) == "wide")=false/\(("put_by_choice" :Str) == "fresh")=false/\(("put_by_choice" :Str) == "rows")=false/\(("put_by_choice" :Str) == "steps")=false:=by
 refine#[?_,?_,?_,?_,?_,?_,?_,?_,?_,?_,?_,?_,?_,?_,?_,?_,?_,?_,?_,?_,?_,?_,?_,?_,?_,?_,?_,?_,?_,?_,?_,?_,?_,?_] <;> first|decide|exact eq_false ∅
theorem aB{rp:Addr}{W fr st:Nat}:J4 ("wide" :Str) (oR rp W fr st)=some (.int (W:Int))/\J4 ("fresh" :Str) (oR rp W fr st)=some (.int (fr:Int))/\J4 ("rows" :Str) (oR rp W fr st)=some (.ref rp)/\J4 ("steps" :Str) (oR rp W fr st)=some (.int (st:Int)) /\
  J4 ("fresh_box" :Str) (oR rp W fr st)=none/\J4 ("put" :Str) (oR rp W fr st)=none/\J4 ("put_unless" :Str) (oR rp W fr st)=none/\J4 ("put_by_choice" :Str) (oR rp W fr st)=none/\(∀v:Nat,putD ("fresh" :Str) (.int (v:Int)) (oR rp W fr st)=oR rp W v st)/\(∀v:Nat,putD ("steps" :Str) (.int (v:Int)) (oR rp W fr st)=oR rp W fr v):=by
 refine⟨?_,?_,?_,?_,?_,?_,?_,?_,λv=>?_,λv=>?_⟩ <;> simp only[oR,BM,beq_self_eq_true,F6,P1,putD,if_false,if_true]
theorem Qa{rp:Addr}{W fr st:Nat}:(oR rp W fr st).length<1000:=show 4<1000 by decide
structure ar(C:Addr)(G:Gp)(p rp:Addr)(W fr:Nat)(rows:List Row)(st:Nat):Prop where
 ob:G p=some (.ins C (oR rp W fr st))
 ro:G rp=some (.lst (rows.map Row.d))
theorem ar.pr{C:Addr}{G:Gp}{p rp:Addr}{W fr st:Nat}{rows:List Row}(h:ar C G p rp W fr rows st):p≠rp:=λe=>by have:=h.ro;rw[<- e,h.ob] at this;cases this
def cw(p rp:Addr)(G G':Gp):Prop:=∀b o,b≠p->b≠rp->G b=some o->G' b=some o
theorem cw.refl:cw p rp G G:=λ_ _ _ _ h=>h
theorem cw.trans(h:cw p rp G G1)(k:cw p rp G1 G2):cw p rp G G2:=λb o h1 h2 e=>k b o h1 h2 (h b o h1 h2 e)
theorem cw.new(h:cw p rp G G1)(hq:G1 q=none):cw p rp G (aG G1 q o):=λb o h1 h2 e=>by have:=h b o h1 h2 e;rw[av (aU this hq)];exact this
theorem ar.new{C:Addr}{G:Gp}{p rp q:Addr}{W fr st:Nat}{rows:List Row}{o:DO}(h:ar C G p rp W fr rows st)(hq:G q=none):ar C (aG G q o) p rp W fr rows st:=#[by rw[av (aU h.ob hq)];exact h.ob,by rw[av (aU h.ro hq)];exact h.ro]
def fT(W x y fr:Nat)(o:Str):List Row :=
 if o = "+" then[.add fr (.box x),.add fr (.box y),.turn (fr+1) W [(fr,W)],.take fr (.box (fr+1))]
 else if o = "-" then[.add fr (.box x),.take fr (.box y)]++[.turn (fr+1) W [(fr,31)],.add fr (.box (fr+1))]
 else if o = "&" then cD fr x y W
 else if o = "|" then cD fr x y W++([.add (fr+1) (.box x),.add (fr+1) (.box y)]++D0 1 (.take (fr+1) (.box fr)))
 else if o = "^" then cD fr x y W++([.add (fr+1) (.box x),.add (fr+1) (.box y)]++D0 2 (.take (fr+1) (.box fr)))
 else if o = "<" then[.add fr (.box x),.take fr (.box y)]++[.turn (fr+1) 0 [(fr,31)]]
 else([.add fr (.box x),.take fr (.box y)]++[.add (fr+1) (.box y),.take (fr+1) (.box x)])++[.turn (fr+2) 0 [],.turn (fr+2) 0 [(fr,31)],.turn (fr+2) 0 [(fr+1,31)]]
def zu(fr:Nat)(o:Str):Nat:=if o = "+" then fr else if o = "-" then fr else if o = "&" then fr else if o = "|" then fr+1 else if o = "^" then fr+1 else if o = "<" then fr+1 else fr+2
def lV(fr:Nat)(o:Str):Nat:=if o = "+" then fr+2 else if o = "-" then fr+2 else if o = "&" then fr+1 else if o = "|" then fr+2 else if o = "^" then fr+2 else if o = "<" then fr+2 else fr+3
theorem QT(h:o∈L3.signs):o = "+" \/ o = "-" \/ o = "&" \/ o = "|" \/ o = "^" \/ o = "<" \/ o = "=" := by simpa[L3.signs] using h
theorem wm5(hW:W<=16)(ho:o∈L3.signs):(fT W x y fr o).length<=20:=by
 have ha:(cD fr x y W).length=W:=by unfold cD;rw[B0,D9]
 rcases QT ho with rfl|rfl|rfl|rfl|rfl|rfl|rfl
 ·exact(by decide:4<=20)
 ·exact(by decide:4<=20)
 ·show(cD fr x y W).length<=20;omega
 ·show(cD fr x y W++_).length<=20;rw[B4,ha];show W+3<=20;omega
 ·show(cD fr x y W++_).length<=20;rw[B4,ha];show W+4<=20;omega
 ·exact(by decide:3<=20)
 ·exact(by decide:7<=20)
theorem Yr:fr<=lV fr o/\lV fr o<=fr+3/\zu fr o<lV fr o:=by
 unfold lV zu;split
 ·omega
 split
 ·omega
 split
 ·omega
 split
 ·omega
 split
 ·omega
 split <;> omega
def de(fr:Nat):hV->List Row
 | .num i=>[.add fr (.num (i:Int))]
 | .box _=>[]
def aY(fr:Nat):hV->Nat
 | .num _=>fr+1
 | .box _=>fr
def eW(bs:List Str)(pl:List Nat)(fr:Nat):hV->Nat
 | .num _=>fr
 | .box x=>gtB bs pl x
theorem vq3{pl:List Nat}(hx:x∈bs)(hl:pl.length=bs.length):pl[gN bs x]?=some (gtB bs pl x):=by
 have:gN bs x<pl.length:=by rw[hl];exact PZ hx
 unfold gtB;rw[B7 this];rfl
theorem om(a:hV):fr<=aY fr a/\aY fr a<=fr+1/\(de fr a).length<=1:=by
 cases a with
 | num i=>exact#[X4 _,B8 _,by show 1<=1;omega]
 | box x=>exact#[B8 _,X4 _,by show 0<=1;omega]
def uu(W:Nat)(bs:List Str)(pl:List Nat)(fr:Nat):aq->List Row×List Nat×Nat
 | .is x a=>(de fr a,eh bs pl x (eW bs pl fr a),aY fr a)
 | .op x o a b=>(de fr a++de (aY fr a) b++fT W (eW bs pl fr a) (eW bs pl (aY fr a) b) (aY (aY fr a) b) o,eh bs pl x (zu (aY (aY fr a) b) o),lV (aY (aY fr a) b) o)
 | _=>([],pl,fr)
end Rw
namespace L3
open PySem PySem.Spec PyProof.Rows L2
section
variable{X:Cx}
theorem Xo{w1 w2 w3 w4 w5 w6:Str}{k1 k2 k3 k4 k5 k6:Nat}{p1 p2 p3 p4 p5 p6:Pos}{es:List Expr}{ts:dz}(hr:A3 X es ts) :
  A3 X (.Constant (.str w1) k1 p1::.Constant (.str w2) k2 p2::.Constant (.str w3) k3 p3::.Constant (.str w4) k4 p4::.Constant (.str w5) k5 p5::.Constant (.str w6) k6 p6::es) (lQ (dC (.str w1)) (lQ (dC (.str w2)) (lQ (dC (.str w3)) (lQ (dC (.str w4)) (lQ (dC (.str w5)) (lQ (dC (.str w6)) ts)))))) :=
 nS aZ (nS aZ (nS aZ (nS aZ (nS aZ (nS aZ hr rfl) rfl) rfl) rfl) rfl) rfl
@[irreducible] def ve(X:Cx)(es:List Expr)(t:dz):Prop:=A3 X es t
@[irreducible] def tU(X:Cx)(st:Stmt)(t:fz):Prop:=S3 X st t
@[irreducible] def jD(X:Cx)(l:List Stmt)(t:fz):Prop:=qZ X l t
theorem ve.of(h:A3 X es t):ve X es t:=by unfold ve;exact h
theorem ve.to(h:ve X es t):A3 X es t:=by unfold ve at h;exact h
theorem tU.of{st:Stmt}{t:fz}(h:S3 X st t):tU X st t:=by unfold tU;exact h
theorem tU.to{st:Stmt}{t:fz}(h:tU X st t):S3 X st t:=by unfold tU at h;exact h
theorem jD.of(h:qZ X l t):jD X l t:=by unfold jD;exact h
theorem jD.to(h:jD X l t):qZ X l t:=by unfold jD at h;exact h
theorem ux4{st:Stmt}{vK:List Stmt}{s1 s2:fz}(h1:tU X st s1)(h2:jD X vK s2):jD X (st::vK) (ij s1 s2):=.of (au h1.to h2.to)
theorem w18{st:Stmt}{s1:fz}(h:tU X st s1):jD X [st] s1:=.of (aE h.to)
theorem x36:ve X [] nk:=.of lu
theorem YN{w1 w2 w3 w4 w5 w6:Str}{k1 k2 k3 k4 k5 k6:Nat}{p1 p2 p3 p4 p5 p6:Pos}{es:List Expr}{ts:dz}(hr:ve X es ts) :
  ve X (.Constant (.str w1) k1 p1::.Constant (.str w2) k2 p2::.Constant (.str w3) k3 p3::.Constant (.str w4) k4 p4::.Constant (.str w5) k5 p5::.Constant (.str w6) k6 p6::es) (lQ (dC (.str w1)) (lQ (dC (.str w2)) (lQ (dC (.str w3)) (lQ (dC (.str w4)) (lQ (dC (.str w5)) (lQ (dC (.str w6)) ts)))))):=.of (Xo hr.to)
theorem wm7(i:Nat){pos pos' FN:Pos}(hN:X.N.Nodup)(he:ve X es ts)(hi:X.N[i]?=some x:=by rfl)(hx:Loc X.env.scope x:=by first|exact AK rfl|exact yL rfl)(hs:V2 (.List es FN) (some (.Name x pos')) pos.line X.env=pure false:=by rfl)
  (hf:X.fn x=true\/X.env.scope.names.lookup x=some .local:=by first|exact .inl rfl|exact .inr rfl|assumption):tU X (.Assign [.Name x pos'] (.List es FN) pos) (i5 (sL ts) (rS i)):=.of (aQ i hN (dU he.to) hi hx hs hf)
end
end L3
namespace Rw
open PySem PySem.Spec PyProof.Rows L2 L3 Law
def At(rs:List Row)(a:Nat)(new:List Row):Prop:=∀(j:Nat) (r:Row),new[j]?=some r->rs[a+j]?=some r
theorem At.left(h:At rs a (n1++n2)):At rs a n1:=λj r e=>h j r (by rw[F8 (oh e)];exact e)
theorem At.right(h:At rs a (n1++n2)):At rs (a+n1.length) n2:=λj r e=>by
 rw[K5];exact h _ r (by rw[E8 (Q2 _ _),Wo];exact e)
theorem At.head(h:At rs a (r::t)):rs[a]?=some r:=h 0 r rfl
theorem At.tail(h:At rs a (r::t)):At rs (a+1) t:=λj x e=>by rw[K5,P7 1 j];exact h (j+1) x e
def d9(rs:List Row)(n s:Nat)(b:List Int)(s':Nat)(b':List Int):Prop:=∀m,rn true rs (n+m) s b=(n+(rn true rs m s' b').1,(rn true rs m s' b').2)
theorem d9.refl:d9 rs 0 s b s b:=λm=>by rw[L0,L0]
theorem d9.trans(h1:d9 rs n1 s b s1 b1)(h2:d9 rs n2 s1 b1 s2 b2):d9 rs (n1+n2) s b s2 b2:=λm=>by
 rw[K5,h1 (n2+m),h2 m]
 show(n1+(n2+_),_)=_
 rw[K5]
theorem d9.step(h:bu rs b s=true)(e:bV rs b s=(s',b')):d9 rs 1 s b s' b':=λm=>by
 rw[P7 1 m,ux (fw:=true) h]
 show((rn true rs m (bV rs b s).1 (bV rs b s).2).1+1,(rn true rs m (bV rs b s).1 (bV rs b s).2).2)=_
 rw[e,P7]
theorem d9.cast(h:d9 rs n s b s' b')(e:n=n')(e2:s'=t):d9 rs n' s b t b':=by subst e e2;exact h
theorem d9.plain(e:rs[s]?=some r)(hp:r.plain=true):d9 rs 1 s b (s+1) (cH 1 b r):=by
 have hl:=oh e;have er:rs[s]=r:=by rw[B7 hl] at e;exact E7 e
 have h:=Kn (bs:=b) hl (by rw[er];exact hp);rw[er] at h;exact d9.step h.1 h.2
theorem d9.kI:∀{t:List Row} {s:Nat} {b:List Int},At rs s t->(∀r∈t,r.plain=true)->d9 rs t.length s b (s+t.length) (jK t b)
 | [],s,b,_,_=>d9.refl
 | r::t,s,b,h,hp=>by
  have ih:=d9.kI (t:=t) (s:=s+1) (b:=cH 1 b r) h.tail λx hx=>hp x (C7 _ hx)
  exact((d9.plain h.head (hp r D3)).trans ih).cast (by rw[C1];omega) (by rw[C1];omega)
theorem d9.goT(e:rs[s]?=some (.go x n k))(h:gt b x=n):d9 rs 1 s b (k+1) b :=
 d9.step (by unfold bu;rw[e]) (by unfold bV;rw[e];exact if_pos h)
theorem d9.goF(e:rs[s]?=some (.go x n k))(h:gt b x≠n):d9 rs 1 s b (s+1) b :=
 d9.step (by unfold bu;rw[e]) (by unfold bV;rw[e];exact if_neg h)
theorem d9.aL(e:rs[s]?=some (.aL x n k))(h:gt b x≠n):d9 rs 1 s b (s+1) b :=
 d9.step (by unfold bu;rw[e];show(!decide (gt b x=n))=true;rw[decide_eq_false h];rfl) (by unfold bV;rw[e];rfl)
theorem QS{a b:Nat}{r:Row}(h:r.ok a)(hb:a<=b):r.ok b:=by
 cases r with
 | add x o=>exact#[C9 h.1 hb,KP h.2 hb]
 | take x o=>exact#[C9 h.1 hb,KP h.2 hb]
 | turn x i cs=>exact#[C9 h.1 hb,h.2.1,h.2.2.1,λc hc=>#[C9 (h.2.2.2 c hc).1 hb,(h.2.2.2 c hc).2]]
 | swap x y=>exact#[C9 h.1 hb,C9 h.2.1 hb,h.2.2]
 | go x n k=>exact#[C9 h.1 hb,h.2]
 | aL x n k=>exact#[C9 h.1 hb,h.2]
structure cj(a:Nat)(new:List Row):Prop where
 go:∀(j x:Nat) (n:Int) (k:Nat),new[j]?=some (Row.go x n k)->a<=k/\new[k-a]?=some (.aL x n (a+j))
 co:∀(j x:Nat) (n:Int) (k:Nat),new[j]?=some (Row.aL x n k)->a<=k/\new[k-a]?=some (.go x n (a+j))
theorem cj.plain(h:∀r∈new,r.plain=true):cj a new:=by
 refine#[λj x n k e=>?_,λj x n k e=>?_]
 ·have:=h _ (K4 e);cases this
 ·have:=h _ (K4 e);cases this
theorem cj.pairs(h:cj 0 new):Pairs new :=
 #[λj x n k e=>by have:=(h.go j x n k e).2;rw[JE,L0] at this;exact this,λj x n k e=>by have:=(h.co j x n k e).2;rw[JE,L0] at this;exact this]
theorem cj.app(h1:cj a n1)(h2:cj (a+n1.length) n2):cj a (n1++n2):=by
 refine#[λj x n k e=>?_,λj x n k e=>?_]
 ·rcases Cw j n1.length with q|q
  ·rw[F8 q] at e
   obtain⟨u,v⟩:=h1.go j x n k e;exact#[u,by rw[F8 (oh v)];exact v]
  ·rw[E8 q] at e
   obtain⟨u,v⟩:=h2.go _ x n k e;refine#[(),?_];rw[E8 (),show k-a-n1.length=k-(a+n1.length) by omega,v]
   congr 2;omega
 ·rcases Cw j n1.length with q|q
  ·rw[F8 q] at e
   obtain⟨u,v⟩:=h1.co j x n k e;exact#[u,by rw[F8 (oh v)];exact v]
  ·rw[E8 q] at e
   obtain⟨u,v⟩:=h2.co _ x n k e;refine#[(),?_];rw[E8 (),show k-a-n1.length=k-(a+n1.length) by omega,v]
   congr 2;omega
theorem cj.fence(h:∀r∈t,r.plain=true):cj a (.go x n (a+t.length+1)::(t++[.aL x n a])):=by
 have key:∀(j:Nat) (r:Row),(Row.go x n (a+t.length+1)::(t++[.aL x n a]))[j]?=some r->(j=0/\r=.go x n (a+t.length+1))\/(j=t.length+1/\r=.aL x n a)\/r.plain=true:=by
  intro j r e;cases j with
  | zero=>exact .inl #[rfl,(E7 e).symm]
  | succ j =>
   rw[R9] at e
   rcases Cw j t.length with q|q
   ·rw[F8 q] at e
    exact .inr (.inr (h r (K4 e)))
   ·rw[E8 q] at e
    have hj:j-t.length<1:=by simpa using oh e
    rw[show j-t.length=0 by omega] at e;exact .inr (.inl ⟨(),(E7 e).symm⟩)
 refine⟨λj x' n' k e=>?_,λj x' n' k e=>?_⟩
 ·rcases key j _ e with⟨rfl,q⟩|⟨rfl,q⟩|q
  ·cases q
   refine⟨(),?_⟩;rw[show a+t.length+1-a=t.length+1 by omega,R9,E8 (B8 _),U4];rfl
  ·cases q
  ·cases q
 ·rcases key j _ e with⟨rfl,q⟩|⟨rfl,q⟩|q
  ·cases q
  ·cases q
   refine⟨B8 _,?_⟩;rw[U4]
   show some (Row.go x n (a+t.length+1))=some (Row.go x n (a+(t.length+1)))
   rw[K5]
  ·cases q
structure Wk(a fr cQ:Nat)(new:List Row)(st:Nat)(P:List Int->Prop)(F:List Int->List Int->Prop):Prop where
 le:fr<=cQ
 ok:∀r∈new,r.ok cQ
 pr:cj a new
 run:∀sz rs bs,At rs a new->cM sz bs->cQ<=sz->(∀i,fr<=i->gt bs i=0)->P bs->∃wZ,cM sz wZ/\(∀i,i<fr\/cQ<=i->gt wZ i=gt bs i)/\F bs wZ/\d9 rs st a bs (a+new.length) wZ
theorem Wk.of(h:Wv fr cQ new F):Wk a fr cQ new new.length P F:=by
 have hp:∀r∈new,r.plain=true:=λr hr=>Bz (h.tg r hr)
 refine#[h.le,λr hr=>v20 (h.tg r hr) (B8 _),cj.plain hp,λsz rs bs ha hb hz h0 _=>?_];have k:=h.keep hb hz;exact#[jK new bs,k.1,k.2,h.ef sz bs hb hz h0,d9.kI ha hp]
theorem Wk.imp{a fr cQ st:Nat}{new:List Row}{P P':List Int->Prop}{F F':List Int->List Int->Prop}(h:Wk a fr cQ new st P F)(hp:∀b,P' b->P b)(hf:∀b b',P' b->(∀i,i<fr->gt b' i=gt b i)->F b b'->F' b b'):Wk a fr cQ new st P' F' :=
 #[h.le,h.ok,h.pr,λsz rs bs ha hb hz h0 p=>by
  obtain⟨b',q1,q2,q3,q4⟩:=h.run sz rs bs ha hb hz h0 (hp _ p);exact#[b',q1,q2,hf _ _ p (λi hi=>q2 i (.inl hi)) q3,q4]]
theorem Wk.seq(h1:Wk a fr Cc n1 s1 P F1)(h2:Wk (a+n1.length) Cc Ua n2 s2 P2 F2)(hp:∀b b1,P b->F1 b b1->(∀i,i<fr->gt b1 i=gt b i)->P2 b1) :
  Wk a fr Ua (n1++n2) (s1+s2) P (λb b'=>∃b1,F1 b b1/\F2 b1 b'/\(∀i,i<fr->gt b1 i=gt b i)/\∀i,i<Cc->gt b' i=gt b1 i):=by
 refine#[D6 h1.le h2.le,λr hr=>?_,h1.pr.app h2.pr,λsz rs bs ha hb hz h0 p=>?_]
 ·rcases K1.mp hr with hr|hr
  ·exact QS (h1.ok r hr) h2.le
  ·exact h2.ok r hr
 ·have l1:=h1.le
  have l2:=h2.le;obtain⟨b1,q1,q2,q3,q4⟩:=h1.run sz rs bs ha.left hb () h0 p;obtain⟨b2,r1,r2,r3,r4⟩:=h2.run sz rs b1 ha.right q1 hz (λi hi=>by rw[q2 i (.inr hi)];exact h0 i ()) (hp _ _ p q3 λi hi=>q2 i (.inl hi));refine#[b2,r1,λi hi=>?_,#[b1,q3,r3,λi hi=>q2 i (.inl hi),λi hi=>r2 i (.inl hi)],(q4.trans r4).cast rfl (by rw[B4];omega)];rw[r2 i (),q2 i ()]
def qY(a ch:Nat)(ys ns:List Row):List Row:=(.go ch 0 (a+ys.length+1)::(ys++[.aL ch 0 a]))++(.go ch 1 (a+(ys.length+2)+ns.length+1)::(ns++[.aL ch 1 (a+(ys.length+2))]))
theorem Wk.choice(hy:Wv fr cQ ys Fy)(hn:Wv fr cQ ns Fn)(hl:ys.length=ns.length)(hc:ch<fr) :
  Wk a fr cQ (qY a ch ys ns) (ys.length+3) (λb=>gt b ch=0\/gt b ch=1) (λb b'=>(gt b ch=1->Fy b b')/\(gt b ch=0->Fn b b')):=by
 have py:∀r∈ys,r.plain=true:=λr hr=>Bz (hy.tg r hr)
 have pn:∀r∈ns,r.plain=true:=λr hr=>Bz (hn.tg r hr)
 have le:=hy.le;have l1:(Row.go ch 0 (a+ys.length+1)::(ys++[.aL ch 0 a])).length=ys.length+2:=by rw[C1,B4];rfl
 have fok:∀(n:Int) (k:Nat) (t:List Row) (k2:Nat) (F:List Int->List Int->Prop),0<=n->n<4294967296->Wv fr cQ t F->∀r∈(Row.go ch n k::(t++[.aL ch n k2])),r.ok cQ:=by
  intro n k t k2 F h1 h2 hw r hr
  rcases E6.mp hr with e|hr
  ·rw[e];exact⟨(),h1,h2⟩
  rcases K1.mp hr with hr|hr
  ·exact v20 (hw.tg r hr) (B8 _)
  ·rw[J9.mp hr];exact⟨(),h1,h2⟩
 refine⟨le,λr hr=>?_,?_,λsz rs bs ha hb hz h0 p=>?_⟩
 ·rcases K1.mp hr with hr|hr
  ·exact fok 0 _ ys _ Fy ∅ ∅ hy r hr
  ·exact fok 1 _ ns _ Fn ∅ ∅ hn r hr
 ·refine cj.app (cj.fence py) ?_
  rw[l1];exact cj.fence pn
 ·have a1:=At.left ha
  have a2:=At.right ha;rw[l1] at a2;have g1:=a1.head;have y1:=(At.left a1.tail);have c1:=(At.right a1.tail).head;have g2:=a2.head;have y2:=(At.left a2.tail);have c2:=(At.right a2.tail).head;have hlen:(qY a ch ys ns).length=ys.length+2+(ns.length+2):=by
   unfold qY;rw[B4,l1,C1,B4];rfl
  rw[hlen]
  rcases p with p|p
  ·have k:=hn.keep hb hz
   refine⟨jK ns bs,k.1,k.2,⟨λq=>(by rw[p] at q;cases q),λ_=>hn.ef sz bs hb hz h0⟩,?_⟩;have e1:=d9.goT (b:=bs) g1 p;have e2:=(d9.goF (b:=bs) g2 (by rw[p];decide));have e3:=d9.kI (b:=bs) y2 pn;have e4:=d9.aL (b:=jK ns bs) c2 (by rw[k.2 ch (.inl hc),p];decide);exact(((e1.cast rfl (show a+ys.length+1+1=a+(ys.length+2) by omega)).trans e2).trans e3 |>.trans e4).cast () ()
  ·have k:=hy.keep hb hz
   refine⟨jK ys bs,k.1,k.2,⟨λ_=>hy.ef sz bs hb hz h0,λq=>(by rw[p] at q;cases q)⟩,?_⟩;have e1:=d9.goF (b:=bs) g1 (by rw[p];decide);have e2:=d9.kI (b:=bs) y1 py;have e3:=d9.aL (b:=jK ys bs) c1 (by rw[k.2 ch (.inl hc),p];decide);have e4:=d9.goT (b:=jK ys bs) g2 (by rw[k.2 ch (.inl hc),p]);exact((e1.trans e2).trans e3 |>.cast rfl (show a+1+ys.length+1=a+(ys.length+2) by omega) |>.trans e4).cast () ()
def iy(fr:Nat):List Nat->List Row
 | []=>[]
 | p::ps=>.add fr (.box p)::iy (fr+1) ps
theorem vB:∀{ps:List Nat} {fr:Nat},(iy fr ps).length=ps.length
 | [],_=>rfl
 | p::ps,fr=>by show(iy (fr+1) ps).length+1=_;rw[vB];rfl
def fV(fr:Nat):List Nat->List Nat->List Nat
 | p::ps,q::qs=>if p=q then p::fV fr ps qs else fr::fV (fr+1) ps qs
 | _,_=>[]
def uY:List Nat->List Nat->List Nat
 | p::ps,q::qs=>if p=q then uY ps qs else p::uY ps qs
 | _,_=>[]
def uN:List Nat->List Nat->List Nat
 | p::ps,q::qs=>if p=q then uN ps qs else q::uN ps qs
 | _,_=>[]
theorem Bg:∀{ps qs:List Nat},(uY ps qs).length=(uN ps qs).length
 | [],_=>by cases ‹List Nat› <;> rfl
 | _::_,[]=>rfl
 | p::ps,q::qs=>by
  unfold uY uN;split
  ·exact Bg
  ·rw[C1,C1,Bg]
theorem Qp:∀{ps qs:List Nat} {x:Nat},x∈uY ps qs->x∈ps
 | [],qs,x,h=>by cases qs <;> exact h
 | _::_,[],x,h=>by cases h
 | p::ps,q::qs,x,h=>by
  unfold uY at h;split at h
  ·exact C7 _ (Qp h)
  ·rcases E6.mp h with e|h
   ·rw[e];exact D3
   ·exact C7 _ (Qp h)
theorem Qo:∀{ps qs:List Nat} {x:Nat},x∈uN ps qs->x∈qs
 | [],qs,x,h=>by cases qs <;> cases h
 | _::_,[],x,h=>by cases h
 | p::ps,q::qs,x,h=>by
  unfold uN at h;split at h
  ·exact C7 _ (Qo h)
  ·rcases E6.mp h with e|h
   ·rw[e];exact D3
   ·exact C7 _ (Qo h)
theorem Dk:∀{ps qs:List Nat} {fr:Nat},ps.length=qs.length->(fV fr ps qs).length=ps.length
 | [],qs,fr,h=>by cases qs <;> rfl
 | p::ps,[],fr,h=>by cases h
 | p::ps,q::qs,fr,h=>by
  have h:ps.length=qs.length:=O4 h;unfold fV;split
  ·rw[C1,Dk h,C1]
  ·rw[C1,Dk h,C1]
theorem Qd:∀{ps qs:List Nat} {fr f0:Nat},f0<=fr->(∀p∈ps,p<f0)->∀x∈fV fr ps qs,x<fr+(uY ps qs).length
 | [],qs,fr,f0,_,_,x,hx=>by cases qs <;> cases hx
 | p::ps,[],fr,f0,_,_,x,hx=>by cases hx
 | p::ps,q::qs,fr,f0,hf,h,x,hx=>by
  have hp:=h p D3;have ht:=λy hy=>h y (C7 _ hy)
  unfold fV at hx;unfold uY;split at hx
  ·rename_i e
   rw[if_pos e]
   rcases E6.mp hx with z|hx
   ·omega
   ·exact Qd hf ht x hx
  ·rename_i e
   rw[if_neg e,C1]
   rcases E6.mp hx with z|hx
   ·omega
   ·have:=Qd (fr:=fr+1) (f0:=f0) () ht x hx
    omega
mutual
def cx(W:Nat)(bs:List Str):aq->Nat->List Nat->Nat->List Row×List Nat×Nat×Nat
 | .is x c,_,pl,fr=>((uu W bs pl fr (.is x c)).1,(uu W bs pl fr (.is x c)).2.1,(uu W bs pl fr (.is x c)).2.2,(uu W bs pl fr (.is x c)).1.length)
 | .op x o c d,_,pl,fr=>((uu W bs pl fr (.op x o c d)).1,(uu W bs pl fr (.op x o c d)).2.1,(uu W bs pl fr (.op x o c d)).2.2,(uu W bs pl fr (.op x o c d)).1.length)
 | .eF c ys ns,a,pl,fr =>
  let y:=bf W bs ys a pl fr
  let n:=bf W bs ns (a+y.1.length) pl y.2.2.1
  let f:=aY n.2.2.1 c
  let pre:=y.1++n.1++de n.2.2.1 c++[.take f (.box (eW bs pl n.2.2.1 c)),.turn (f+1) 0 [(f,31)]]
  (pre++qY (a+pre.length) (f+1) (iy (f+2) (uY y.2.1 n.2.1)) (iy (f+2) (uN y.2.1 n.2.1)),fV (f+2) y.2.1 n.2.1,f+2+(uY y.2.1 n.2.1).length,y.2.2.2+n.2.2.2+(de n.2.2.1 c).length+2+((uY y.2.1 n.2.1).length+3))
 | .gV _ _,_,pl,fr=>([],pl,fr,0)
def bf(W:Nat)(bs:List Str):List aq->Nat->List Nat->Nat->List Row×List Nat×Nat×Nat
 | [],_,pl,fr=>([],pl,fr,0)
 | r::rs,a,pl,fr =>
  let x:=cx W bs r a pl fr
  let t:=bf W bs rs (a+x.1.length) x.2.1 x.2.2.1
  (x.1++t.1,t.2.1,t.2.2.1,x.2.2.2+t.2.2.2)
end
theorem zj:∀{ps qs:List Nat},(uY ps qs).length<=ps.length
 | [],qs=>by cases qs <;> exact B8 _
 | _::_,[]=>J8 _
 | p::ps,q::qs=>by
  have:=zj (ps:=ps) (qs:=qs);unfold uY;split
  ·rw[C1];omega
  ·rw[C1,C1];omega
theorem wi0:(qY a ch ys ns).length=ys.length+ns.length+4:=by
 unfold qY;rw[B4,C1,C1,B4,B4]
 show ys.length+1+1+(ns.length+1+1)=_
 omega
def Cj(bs:List Str)(fr sz:Nat)(x:List Row×List Nat×Nat×Nat):Prop:=x.1.length<=22*sz/\x.2.2.1<=fr+9*sz/\fr<=x.2.2.1/\x.2.1.length=bs.length/\x.2.2.2<=22*sz
mutual
theorem ZE{bs:List Str}(hW:W<=16)(hb:bs.length<=6):∀(r:aq) {a:Nat} {pl:List Nat} {fr:Nat},qI W bs r->uH r->pl.length=bs.length->Cj bs fr (oq r) (cx W bs r a pl fr)
 | .is x c,a,pl,fr,hr,_,hl=>by
  have la:=om (fr:=fr) c;exact#[by show(de fr c).length<=22*1;omega,by show aY fr c<=fr+9*1;omega,la.1,by show(eh bs pl x _).length=_;unfold eh;rw[J5];exact hl,by show(de fr c).length<=22*1;omega]
 | .op x o c d,a,pl,fr,hr,_,hl=>by
  obtain⟨hx,ho,_,_⟩:x∈bs/\o∈L3.signs/\jt W bs c/\jt W bs d:=hr;have la:=om (fr:=fr) c;have lc:=om (fr:=aY fr c) d;have sl:=Yr (fr:=aY (aY fr c) d) (o:=o);have lg:=wm5 (W:=W) (x:=eW bs pl fr c) (y:=eW bs pl (aY fr c) d) (fr:=aY (aY fr c) d) hW ho;have ig:(de fr c++de (aY fr c) d++fT W (eW bs pl fr c) (eW bs pl (aY fr c) d) (aY (aY fr c) d) o).length<=22*1:=by rw[B4,B4];omega
  exact#[ig,by show lV _ o<=fr+9*1;omega,by show fr<=lV _ o;omega,by show(eh bs pl x _).length=_;unfold eh;rw[J5];exact hl,ig]
 | .eF c ys ns,a,pl,fr,hr,hn,hl=>by
  obtain⟨_,S',Tb⟩:jt W bs c/\dY W bs ys/\dY W bs ns:=hr;obtain⟨Gu,Gx⟩:fk ys/\fk ns:=hn;have hy:=rX hW hb ys (a:=a) (fr:=fr) S' Gu hl
  show Cj bs fr (1+cf ys+cf ns) ((bf W bs ys a pl fr).1++(bf W bs ns (a+(bf W bs ys a pl fr).1.length) pl (bf W bs ys a pl fr).2.2.1).1++_++_++_,_,_,_)
  generalize bf W bs ys a pl fr=y at hy⊢;obtain⟨yr,yp,yf,nP⟩:=y;obtain⟨y1,y2,y3,y4,y5⟩:yr.length<=22*cf ys/\yf<=fr+9*cf ys/\fr<=yf/\yp.length=bs.length/\nP<=22*cf ys:=hy;have pM:=rX hW hb ns (a:=a+yr.length) (fr:=yf) Tb Gx hl
  show Cj bs fr (1+cf ys+cf ns) (yr++(bf W bs ns (a+yr.length) pl yf).1++_++_++_,_,_,_)
  generalize bf W bs ns (a+yr.length) pl yf=n at pM⊢;obtain⟨nr,np,nf,qJ⟩:=n;obtain⟨n1,n2,n3,n4,n5⟩:nr.length<=22*cf ns/\nf<=yf+9*cf ns/\yf<=nf/\np.length=bs.length/\qJ<=22*cf ns:=pM;have hp:=om (fr:=nf) c;have hu:=zj (ps:=yp) (qs:=np);have hul:=Bg (ps:=yp) (qs:=np);refine#[?_,?_,?_,?_,?_]
  ·show(yr++nr++de nf c++[_,_]++qY _ _ (iy _ (uY yp np)) (iy _ (uN yp np))).length<=_
   rw[B4,B4,B4,B4,wi0,vB,vB]
   show yr.length+nr.length+(de nf c).length+2+_<=_
   omega
  ·show aY nf c+2+(uY yp np).length<=_
   omega
  ·show fr<=aY nf c+2+(uY yp np).length
   omega
  ·show(fV _ yp np).length=_
   rw[Dk ()];exact y4
  ·show nP+qJ+(de nf c).length+2+((uY yp np).length+3)<=_
   omega
 | .gV k ys,a,pl,fr,_,hn,_=>hn.elim
theorem rX{bs:List Str}(hW:W<=16)(hb:bs.length<=6):∀(rs:List aq) {a:Nat} {pl:List Nat} {fr:Nat},dY W bs rs->fk rs->pl.length=bs.length->Cj bs fr (cf rs) (bf W bs rs a pl fr)
 | [],a,pl,fr,_,_,hl=>#[J8 _,Q2 _ _,B8 _,hl,J8 _]
 | r::rs,a,pl,fr,hr,hn,hl=>by
  obtain⟨Lz,BQ⟩:qI W bs r/\dY W bs rs:=hr;obtain⟨Ac,pM⟩:uH r/\fk rs:=hn;have h1:=ZE hW hb r (a:=a) (fr:=fr) Lz Ac hl
  show Cj bs fr (oq r+cf rs) ((cx W bs r a pl fr).1++_,_,_,_)
  generalize cx W bs r a pl fr=y at h1⊢;obtain⟨yr,yp,yf,nP⟩:=y;obtain⟨y1,y2,y3,y4,y5⟩:yr.length<=22*oq r/\yf<=fr+9*oq r/\fr<=yf/\yp.length=bs.length/\nP<=22*oq r:=h1;have h2:=rX hW hb rs (a:=a+yr.length) (fr:=yf) BQ pM y4
  show Cj bs fr (oq r+cf rs) (yr++(bf W bs rs (a+yr.length) yp yf).1,_,_,_)
  generalize bf W bs rs (a+yr.length) yp yf=n at h2⊢;obtain⟨nr,np,nf,qJ⟩:=n;obtain⟨n1,n2,n3,n4,n5⟩:nr.length<=22*cf rs/\nf<=yf+9*cf rs/\yf<=nf/\np.length=bs.length/\qJ<=22*cf rs:=h2;exact#[by show(yr++nr).length<=_;rw[B4];omega,by show nf<=_;omega,by show fr<=nf;omega,n4,by show nP+qJ<=_;omega]
end
end Rw
namespace L2
open PySem PySem.Spec PyProof.Rows
section
variable{X:Cx}{tg:Expr}
theorem us4:bK X (.type "dict") (λxs H Q=>∃a kvs,xs=[.ref a]/\H a=some (.dK kvs)/\∀p,H p=none->Q (.ref p) (upd H p (.dK kvs))):=by
 intro pins s σ H xs us Q I r h;obtain⟨a,kvs,rfl,ha,q⟩:=h;obtain⟨u,rfl,rx⟩:=vals1 r;cases rx;exact vr0 I (.of ha) λp s' hp I'=>#[.ref p,_,I',rfl,q p hp]
def W'(td ty:TE):TE:=λσ H Q=>td σ H λx H1=>∃a,x=.ref a/\LZ H1 a/\ty σ H1 λy H2=>∃b k1 k2,y=.ref b/\a≠b/\H2 a=some (.dK k1)/\H2 b=some (.dK k2)/\k1.length+k2.length<=sizeLine/\Q .non (upd H2 a (.dK (Bp k1 k2)))
theorem wb3(ho:PE X o td)(he:PE X e ty)(m:M1 X o "update" apos e aJ):PE X (.Call (.Attribute o "update" apos) [e] [] aJ) (W' td ty):=by
 intro pins s σ H Q I h
 (refine VP m.base m.few m.line W8 A89 PySem.F.type_dict_update (a_ (ho pins s σ H _ I h) ?_);rintro u s1 ⟨x,H1,I1,rx,a,ex,d,q1⟩)
 subst ex;obtain rfl:u=F4 a:=rx;obtain⟨t1,t2,_⟩:=Ke I1 d;refine#[t1,t2,?_];rw[m.trees]
 (refine U1 rfl (Y6 (Q0 (a_ (he pins s1 σ H1 _ I1 q1) ?_)));rintro iv s2 ⟨y,H2,I2,ry,b,k1,k2,ey,fX,ha,hb,hz,q2⟩;refine R8 ?_)
 subst ey;obtain rfl:iv=F4 b:=ry;obtain⟨z1,Ai,PU,zx,G_⟩:=CQ I2.az ha;obtain⟨z2,hd2,vs2,D',uX⟩:=CQ I2.az hb;refine JD A89 G_.typeIs PySem.F.entry_dict_update (PySem.F.args_dict_update_2 _ _) (meets_dict_update (dX X.prog X.w) a b fX hd2) #[PU,vs2,G_,uX,by rw[<- zx.length,<- D'.length];exact hz,λh' d1 d2 sb=>?_];have he:∃q,h'.get? a=some q:=let ⟨q,_,_,hq,_⟩:=d1;#[q,hq];have hl:=uc5 k2 k1;exact#[.non,_,Bs (t':=s2.toks) I2 (by rw[ha];exact P9) sb he (Kc (D6 hl hz) Ai (D'.merge zx) d1),rfl,q2]
def UJ(a:Addr)(o:Obj)(kvs:List (Key×V)):It:=#[λi H=>(∃ys,H a=some (.dg o (.dK ys))/\ys.map (·.1)=kvs.map (·.1))/\i<kvs.length,λi H v H'=>H'=H/\∃p,kvs[i]?=some p/\v=kV p.1,λi H=>(∃ys,H a=some (.dg o (.dK ys))/\ys.map (·.1)=kvs.map (·.1))/\kvs.length<=i]
theorem WV(h:(dX P w).is k u=true):RelV (kV k) u:=by
 rcases uG h with⟨i,t,rfl,rfl⟩|⟨x,t,rfl,rfl⟩
 ·exact⟨t,rfl⟩
 ·exact⟨t,rfl⟩
theorem Xz(ok:fR P w H h)(e:H a=some (.dg o (.dK kvs)))(hd:o.data=.dict es ep):(a==Q5)=false/\∃vs,KV kvs vs/\h.DictAt (dX P w) a vs ep:=by
 obtain⟨ho,z,hs,vs,rel,o',rM,LP,kS,hc,jy,hk,hp,hn⟩:=(show bh P w H h a (.dg o (.dK kvs)) from ok a _ e);rw[ho] at kS;cases kS;rw[hd] at jy;cases jy;exact#[hs,vs,rel,o,es,ho,hc,hd,hk,hp,hn]
theorem v70{P:Program}{w:World}{K:W.Frag}(it a:Addr)(o:Obj)(kvs:List (Key×V)){es:Array C61}{ep:Nat}(hd:o.data=.dict es ep):Turn P w K tg (UJ a o kvs) [it] it (λi h=>h.IsKeyIter it a i kvs.length ep) where
 mem:=by simp
 obj:=λi h st b hb=>by
  have e:b=it:=by simpa using hb
  subst e;obtain⟨o,e,c,d⟩:=st;exact#[o,e,λv z=>by rw[d] at z;cases z]
 keep:=λi h h' st k=>let ⟨o,e,r⟩:=st;#[o,k it (by simp) o e,r]
 item:=by
  intro X hP hw hK hc i pins s σ H E I hf st hg;subst hP hw hK;obtain⟨f0,f1,f2,f3,f4,f5⟩:=hf it (by simp);obtain⟨⟨ys,TF,LF⟩,qQ⟩:(∃ys,H a=some (.dg o (.dK ys))/\ys.map (·.1)=kvs.map (·.1))/\i<kvs.length:=hg;obtain⟨_,vs,rel,at_⟩:=Xz I.az TF hd;have uO:kvs.length=vs.length:=by
   have:=congrArg F9 LF;rw[B0,B0] at this;rw[<- rel.length,this]
  have hk:=LF.symm.trans rel.keys;obtain⟨p,hp⟩:∃p,vs[i]?=some p:=#[_,B7 ()];have Ae:kvs[i]?.map (·.1)=some p.1:=by rw[<- F0,hk,F0,hp];rfl
  obtain⟨q,hq,ju⟩:=E9.mp Ae;rw[uO] at st;refine wpAny_pyNext_dict_item (k:=p.1) (v:=p.2) st at_ hp λkey h' hkk jI sb=>?_
  have I1:Inv X pins σ H { s with heap:=h'}:=I.turned (t':=s.toks) (λb o hb e=>(sb.2 b hb).trans e) f0 f1 f3 f4 f5
  obtain⟨o2,e,cc,d⟩:=id jI;exact#[_,rfl,Bb (s:={ s with heap:=h'}) e cc d ∅ #[kV p.1,H,I1,WV hkk,#[rfl,q,hq,by rw[ju]],by rw[uO];exact jI,λb hb=>(hf b hb).1]]
 done:=by
  intro X hP hw hK hc i pins s σ H E I hf st hg;subst hP hw hK;obtain⟨f0,f1,f2,f3,f4,f5⟩:=hf it (by simp);obtain⟨⟨ys,TF,LF⟩,qQ⟩:(∃ys,H a=some (.dg o (.dK ys))/\ys.map (·.1)=kvs.map (·.1))/\kvs.length<=i:=hg;obtain⟨_,vs,rel,at_⟩:=Xz I.az TF hd;have uO:kvs.length=vs.length:=by
   have:=congrArg F9 LF;rw[B0,B0] at this;rw[<- rel.length,this]
  rw[uO] at st;exact wpAny_pyNext_dict_end (I.ok.hd hc) st at_ (L9 ()) λh' eb=>#[rfl,I.turned (t':=s.toks) (λb o hb e=>eb b o hb e) f0 f1 f3 f4 f5]
 self:=λ_ _ _ _ _ st h=>wpAny_pyIter_keyiter st h
def x13(tl:TE):TI:=λσ H R=>tl σ H λv H1=>∃a kvs,v=.ref a/\H1 a=some (.dK kvs)/\∀o,R (UJ a o kvs) (upd H1 a (.dg o (.dK kvs)))
theorem vl8(hl:PE X l tl):PI X tg l (x13 tl):=by
 intro pins s σ H R I h
 (refine a_ (hl pins s σ H _ I h) ?_;rintro v s1 ⟨y,H1,I1,r1,q1⟩)
 obtain⟨a,kvs,rfl,ha,q⟩:=q1;obtain rfl:v=F4 a:=r1;obtain⟨z,hd,vs,rel,dd⟩:=CQ I1.az ha;obtain⟨o,es,ep,ho,hc,eQ,hk,hp,hn⟩:=id dd;have I2:Inv X pins σ (upd H1 a (.dg o (.dK kvs))) { s1 with heap:=s1.heap,toks:=s1.toks}:=Bs I1 (by rw[ha];exact P9) (D10 _ _) #[o,ho] #[ho,z,hd,vs,rel,dd]
 have fp:∀b∈[s1.heap.objs.size],fS X pins (upd H1 a (.dg o (.dK kvs))) b:=λb hb=>by
  have e:b=s1.heap.objs.size:=by simpa using hb
  subst e;exact I2.kY (B8 _) (I2.az.fresh (B8 _))
 refine wpAny_pyIter_dict hd (kvs:=vs) (ep:=ep) #[o,es,ho,hc,eQ,hk,hp,hn] ?_;refine#[s1.heap.objs.size,[s1.heap.objs.size],_,_,_,rfl,I2.kept (t':=s1.toks) λb o e=>B6 _ e,v70 (s1.heap.objs.size) a o kvs eQ,?_,fp,q o];rw[rel.length];exact#[_,D4 _ rfl,rfl,rfl]
end
end L2
namespace L3
open PySem PySem.Spec PyProof.Rows L2
section
variable{X:Cx}{K:W.Frag}{G:Gp}{H:Hp}{tg e:Expr}{te:bw}
@[reducible] def w01:C3:=λds G q=>∃a kvs,ds=[.ref a]/\G a=some (.bN kvs)/\∀p,G p=none->q (.ref p) (aG G p (.bN kvs))
theorem QY:Call3 X (.type "dict") w01:=nV us4 <| by
 rintro xs H Q ⟨ds,G,q,r,c,⟨a,kvs,rfl,ha,t⟩,f⟩;obtain⟨v,rfl,rv⟩:=r.one;cases rv.ai;obtain⟨ys,e,rp⟩:=c a _ ha;exact#[a,ys,rfl,e,λp hp=>f (.ref p) _ (.ref p) _ ae.fh (c.put (o:=.bN kvs) (Le.fresh hp) #[_,f',rp.le (Le.fresh hp)]) (Le.fresh hp) (t p (c.fresh hp))]
def Bo(kvs more:List (Key×D)):List (Key×D):=more.foldl (λacc kv=>lA acc kv.1 kv.2) kvs
theorem ur5:∀{more:List (Key×D)} {ms:List (Key×V)} {kvs:List (Key×D)} {ys:List (Key×V)},ay K H more ms->ay K H kvs ys->ay K H (Bo kvs more) (Bp ys ms)
 | [],ms,kvs,ys,h,k=>by
  have:ms=[]:=by have:=congrArg F9 h.1;simpa using this.symm
  subst this;exact k
 | p::more,[],kvs,ys,h,k=>by have:=congrArg F9 h.1;simp at this
 | p::more,m::ms,kvs,ys,h,k=>by
  obtain⟨h1,h2⟩:=h;rw[C0,C0] at h1 h2;obtain⟨v,vs,e,r1,r2⟩:=h2.aj;injection e with e1 e2
  injection h1 with h3 h4
  have kk:ay K H (lA kvs p.1 p.2) (putK ys m.1 m.2):=by rw[<- h3];exact QP (by rw[e1];exact r1) k
  exact ur5 (more:=more) (ms:=ms) #[h4,by rw[e2];exact r2] kk
def As(td ty:bw):bw:=λσ G q=>td σ G λx G1=>(∃a kvs,x=.ref a/\G1 a=some (.bN kvs))/\ty σ G1 λy G2=>∃a b k1 k2,x=.ref a/\y=.ref b/\a≠b/\G2 a=some (.bN k1)/\G2 b=some (.bN k2)/\k1.length+k2.length<=sizeLine/\q .non (aG G2 a (.bN (Bo k1 k2)))
theorem Zr{κ:Type}{kvs:List (κ×D)}{ys:List (κ×V)}(rp:ay K H kvs ys):ys.length=kvs.length:=by
 have:=congrArg F9 rp.1;rw[B0,B0] at this;exact this.symm
theorem wd2{td ty:bw}{σ:L2.St}{Q:VK}(h:aI K (As td ty) σ H Q):W' (aI K td) (aI K ty) σ H Q:=by
 obtain⟨σd,G,q,rs,c,t,f⟩:=h;refine#[σd,G,_,rs,c,t,λx G1 v H1 r1 c1 l1 t1=>?_];obtain⟨⟨a,kvs,rfl,ha⟩,t1⟩:=t1;obtain⟨ys,e,rp⟩:=c1 a _ ha;refine#[a,r1.ai,.inl #[ys,.of e],σd,G1,_,rs.le l1,c1,t1,λy G2 u H2 r2 c2 l2 t2=>?_];obtain⟨a',b,k1,k2,e1,rfl,fX,h1,h2,hz,t3⟩:=t2;cases e1;cases r2.ai;obtain⟨y1,e1,p1⟩:=c2 a _ h1;obtain⟨y2,e2,p2⟩:=c2 b _ h2;have l3:Le H2 (upd H2 a (.dK (Bp y1 y2))):=Le.dK e1;exact#[b,y1,y2,rfl,fX,e1,e2,by rw[Zr p1,Zr p2];exact hz,f _ _ _ _ ae.vY (c2.put (o:=.bN (Bo k1 k2)) l3 #[_,f',(ur5 p2 p1).le l3]) (l1.trans (l2.trans l3)) t3]
theorem xb3{apos aJ:Pos}(ho:E3 X o to)(he:E3 X e te)(cB:O1 o "update" X.env (eval o X.env)=eval o X.env:=by rfl)
  (gQ:((backTo aJ (C5 [e] X.env)).all (λx=>!x.1)&&(V8 aJ (P4 [] X.env)).all (λx=>x.1.isSome)
   && decide (([e]:List Expr).length+([]:List Keyword).length+(if([]:List Keyword).isEmpty then 0 else 1)<30))=true:=by rfl)
  (cA:(apos.endLine==aJ.line)=true:=by rfl) (FZ:C5 [e] X.env=[(false,eval e X.env)]:=by rfl):E3 X (.Call (.Attribute o "update" apos) [e] [] aJ) (As to te) :=
 dA (wb3 ho he #[cB,gQ,cA,by rw[FZ];rfl]) λ_ _ _=>wd2
theorem Le.dg(h:H a=some (.dK ys)):Le H (upd H a (.dg o (.dK ys))) :=
 #[λb zs q=>by
  by_cases e:b=a
  ·subst e;rw[h] at q;cases q
  ·rw[cq e];exact q,λb o u q=>by
  by_cases e:b=a
  ·subst e;rw[h] at q;cases q
  ·rw[cq e];exact q]
theorem v38{kvs:List (Key×D)}{ys:List (Key×V)}(hk:kvs.map (·.1)=ys.map (·.1)):gB K H0 #[kvs.map λkv=>kD kv.1,λG=>G a=some (.o6 o kvs)] (UJ a o ys) where
 go:=λi G H l c hG hi=>by
  obtain⟨zs,z1,z2⟩:=c a _ hG;have hi:i<(kvs.map λkv=>kD kv.1).length:=hi;have hl:=congrArg F9 hk;rw[B0,B0] at hl;rw[B0] at hi;exact#[#[zs,z1,z2.1.symm.trans hk],()]
 stop:=λi G H l c hG hi=>by
  obtain⟨zs,z1,z2⟩:=c a _ hG;have hi:(kvs.map λkv=>kD kv.1).length<=i:=hi;have hl:=congrArg F9 hk;rw[B0,B0] at hl;rw[B0] at hi;exact#[#[zs,z1,z2.1.symm.trans hk],()]
 nQ:=λi G H v H' l c _ hi y=>by
  obtain⟨rfl,p,hp,rfl⟩:=y;refine#[c,Le.refl _,kD p.1,?_,?_]
  ·show(kvs.map λkv=>kD kv.1)[i]?=_
   have e:(kvs.map (·.1))[i]?=some p.1:=by rw[hk,F0,hp];rfl
   rw[F0] at e⊢;obtain⟨w,hw,BP⟩:=E9.mp e;rw[hw];show some (kD w.1)=_;rw[BP]
  ·cases p.1 with
   | inl i=>show ae K _ (.int i) (.int i);rw[ae]
   | inr x=>show ae K _ (.str x) (.str x);rw[ae]
def Yz(te:bw):pW:=λσ G r=>te σ G λd G1=>∃a kvs,d=.ref a/\G1 a=some (.bN kvs)/\∀o,r #[kvs.map λkv=>kD kv.1,λG=>G a=some (.o6 o kvs)] (aG G1 a (.o6 o kvs))
theorem wf0(h:E3 X e te):I3 X tg e (Yz te):=xD (vl8 h) λσ H R hh=>by
 obtain⟨σd,G,q,rs,c,t,f⟩:=hh;refine#[σd,G,_,rs,c,t,λd G1 v H1 r1 c1 l1 t1=>?_];obtain⟨a,kvs,rfl,ha,t2⟩:=t1;obtain⟨ys,e,rp⟩:=c1 a _ ha;refine#[a,ys,r1.ai,e,λo=>f _ _ _ _ (v38 rp.1) (c1.put (o:=.o6 o kvs) (Le.dg e) #[ys,f',rp.le (Le.dg e)]) (l1.trans (Le.dg e)) (t2 o)]
def JP(td ti:bw):bw:=λσ G q=>td σ G λx G1=>ti σ G1 λy G2=>∃a o kvs k d,x=.ref a/\y=kD k/\G2 a=some (.o6 o kvs)/\di kvs k=some d/\q d G2
theorem vo8(h:aI K (JP td ti) σ H Q):PC (aI K td) (aI K ti) σ H Q:=by
 obtain⟨σd,G,q,rs,c,t,f⟩:=h;refine#[σd,G,_,rs,c,t,λx G1 v H1 r1 c1 l1 t1=>#[σd,G1,_,rs.le l1,c1,t1,λy G2 u H2 r2 c2 l2 t2=>?_]];obtain⟨a,o,kvs,k,d,rfl,rfl,hg,hv,t3⟩:=t2;have Ee:=ae.le l2 r1;cases Ee.ai;obtain rfl:=zf r2;obtain⟨ys,e,rp⟩:=c2 a _ hg
 rcases Du (k:=k) rp with⟨z,_⟩|⟨d',w,z1,z2,z3⟩
 ·rw[hv] at z;cases z
 ·rw[hv] at z1;cases z1
  exact⟨a,w,rfl,.inl ⟨ys,k,.inr ⟨o,e⟩,rfl,z2.symm⟩,f _ _ _ _ z3 c2 (l1.trans l2) t3⟩
theorem Za(hr:aM k X.A)(ho:E3 X o to)(hi:E3 X i ti)(hs:rg i:=by exact λ_ _=>rfl):E3 X (.Subscript o i pos) (JP to ti) :=
 dA (Zp (JT hr) ho hi hs) λ_ _ _=>vo8
end
end L3
namespace Law
open PySem L2 L3 Rw
theorem wc6{r:Row}:mv 0 r=r:=by cases r <;> rfl
end Law
namespace L3
open PySem PySem.Spec PyProof.Rows L2
section
variable{X:Cx}{K:W.Frag}{H:Hp}
theorem pE(c:b_ K G H)(h:G a=some (.bN kvs)\/∃o,G a=some (.o6 o kvs)):∃ys,Rd H a (.dK ys)/\ay K H kvs ys:=by
 rcases h with h|h
 ·obtain⟨ys,e,rp⟩:=c a _ h
  exact#[ys,.inl e,rp]
 ·obtain⟨o,h⟩:=h
  obtain⟨ys,e,rp⟩:=c a _ h;exact#[ys,.inr #[o,e],rp]
end
end L3
namespace L3
open PySem PySem.Spec PyProof.Rows L2
def Bk(kvs:List (Key×D))(k:Key):List (Key×D):=kvs.filter λp=>!decide (p.1=k)
def NO(td ti:bw):bw:=λσ G q=>td σ G λx G1=>(∃a kvs,x=.ref a/\G1 a=some (.bN kvs))/\ti σ G1 λy G2=>∃a kvs k v,x=.ref a/\y=kD k/\G2 a=some (.bN kvs)/\di kvs k=some v/\q v (aG G2 a (.bN (Bk kvs k)))
theorem ZT{K:W.Frag}{H:Hp}{k:Key}:∀{kvs:List (Key×D)} {ys:List (Key×V)},ay K H kvs ys->ay K H (Bk kvs k) (xA ys k)
 | [],[],rp=>rp
 | [],_::_,rp=>by cases rp.1
 | _::_,[],rp=>by cases rp.1
 | p::kvs,y::ys,⟨h1,h2⟩=>by
  rw[C0,C0,V1] at h1;obtain⟨z,zs,e,r1,r2⟩:=(show af K H (p.2::kvs.map (·.2)) (y.2::ys.map (·.2)) from h2).aj;cases e;obtain⟨i1,i2⟩:=ZT (k:=k) (kvs:=kvs) (ys:=ys) #[h1.2,r2];unfold Bk xA at i1 i2⊢;rw[MW,MW,<- h1.1]
  by_cases e:p.1=k
  ·rw[if_neg (by simp[e]),if_neg (by simp[e])]
   exact#[i1,i2]
  ·simp only[e,decide_false,V_,if_true,ne_eq,not_false_eq_true,decide_true]
   exact#[by rw[C0,C0,h1.1,i1],.cons r1 i2]
theorem vn9{K:W.Frag}{H:Hp}{td ti:bw}{σ:L2.St}{Q:VK}(h:aI K (NO td ti) σ H Q):Yu (aI K td) (aI K ti) σ H Q:=by
 obtain⟨σd,G,q,rs,c,t,f⟩:=h;refine#[σd,G,_,rs,c,t,λx G1 v H1 r1 c1 l1 t1=>?_];obtain⟨⟨a,kvs,rfl,ha⟩,t1⟩:=t1;obtain⟨ys,e,rp⟩:=c1 a _ ha;refine#[a,r1.ai,.inl #[ys,.of e],σd,G1,_,rs.le l1,c1,t1,λy G2 u H2 r2 c2 l2 t2=>?_];obtain⟨a',FP,k,v3,e1,rfl,hg,hv,t4⟩:=t2;cases e1;obtain rfl:=zf r2;obtain⟨JM,e3,Lf⟩:=c2 a _ hg
 rcases Du (k:=k) Lf with⟨z1,z2⟩|⟨d',w',z1,z2,z3⟩
 ·rw[hv] at z1;cases z1
 ·rw[hv] at z1;cases z1
  have l5:Le H2 (upd H2 a (.dK (xA JM k))):=Le.dK e3;exact⟨JM,k,w',e3,rfl,z2,f _ _ _ _ (z3.le l5) (c2.put (o:=.bN (Bk FP k)) l5 ⟨_,f',(ZT Lf).le l5⟩) (l1.trans (l2.trans l5)) t4⟩
theorem x16{apos aJ:Pos}(ho:E3 X o to)(he:E3 X e te)(cB:O1 o "pop" X.env (eval o X.env)=eval o X.env:=by rfl)
  (gQ:((backTo aJ (C5 [e] X.env)).all (λx=>!x.1)&&(V8 aJ (P4 [] X.env)).all (λx=>x.1.isSome)
   && decide (([e]:List Expr).length+([]:List Keyword).length+(if([]:List Keyword).isEmpty then 0 else 1)<30))=true:=by rfl)
  (cA:(apos.endLine==aJ.line)=true:=by rfl) (FZ:C5 [e] X.env=[(false,eval e X.env)]:=by rfl):E3 X (.Call (.Attribute o "pop" apos) [e] [] aJ) (NO to te) :=
 dA (vm4 ho he ⟨cB,gQ,cA,by rw[FZ];rfl⟩) λ_ _ _=>vn9
end L3
namespace L2
open PySem PySem.Spec PyProof.Rows
section
variable{X:Cx}
def AE(v d:Addr):HO:=.ext λh=>h.IsValuesView v d
def Yv(td:TE):TE:=λσ H Q=>td σ H λx H1=>∃(a:Addr) (kvs:List (Key×V)),x=.ref a/\Rd H1 a (.dK kvs)/\∀v,H1 v=none->Q (.ref v) (upd H1 v (AE v a))
theorem vm3{apos aJ:Pos}(ho:PE X o td)(cB:O1 o "values" X.env (eval o X.env)=eval o X.env:=by rfl)(cA:(apos.endLine==aJ.line)=true:=by rfl) :
  PE X (.Call (.Attribute o "values" apos) [] [] aJ) (Yv td):=by
 intro pins s σ H Q I h
 (refine wpAny_Call_method0_late cB cA (a_ (ho pins s σ H _ I h) ?_);rintro v s1 ⟨x,H1,I1,r1,a,kvs,rfl,ha,q⟩)
 obtain rfl:v=F4 a:=r1;obtain⟨t1,t2,_⟩:=Ke I1 (.inl #[kvs,ha]);obtain⟨z1,Ai,PU,zx,G_⟩:=vt I1.az ha;refine#["dict", "dict.values",W8,A90,PySem.F.type_dict_values,t1,t2,U1 rfl (PySem.evalArgs_none ?_)];refine JD A90 G_.typeIs PySem.F.entry_dict_values (PySem.F.args_dict_values_1 _) (meets_dict_values (dX X.prog X.w) a Ai) #[#[PU,G_],?_];have hp:(s1.heap.push { cls:=.type "dict_values",data:=.fields [.ref a].toArray}).get? s1.heap.objs.size=some { cls:=.type "dict_values",data:=.fields [.ref a].toArray}:=D4 _ rfl;refine#[.ref s1.heap.objs.size,_,I1.laid (t':=s1.toks) (o:=AE s1.heap.objs.size a) (λb u hb=>B6 _ hb) (B8 _) #[#[_,hp,rfl,rfl],#[_,hp],λh1 h2 ⟨o,e,c⟩ k=>#[o,k o e,c]],rfl,q _ (I1.az.fresh (B8 _))]
theorem KV.vals{κ:Type}{kvs:List (κ×V)}{vs:List (κ×Value)}(r:KV kvs vs):Vals (kvs.map (·.2)) (vs.map (·.2)):=by
 induction r with
 | nil=>exact .nil
 | cons h _ ih=>exact .cons h.2 ih
theorem v46(hh:X.A.handled=none):bK X (.type "list") (λxs H Q=>∃(v a:Addr) (kvs:List (Key×V)),xs=[.ref v]/\H v=some (AE v a)/\Rd H a (.dK kvs)/\∀(l:Addr),H l=none->Q (.ref l) (upd H l (.lst (kvs.map (·.2))))):=by
 intro pins s σ H xs us Q I r h;obtain⟨v,a,kvs,rfl,hv,hd,q⟩:=h;obtain⟨u,rfl,rx⟩:=vals1 r;cases rx;obtain⟨hvw,_,_⟩:=I.az v _ hv;obtain⟨z,hd2,vs,rel,dd⟩:=vt I.az hd;obtain⟨o,es,ep,ho,hc,eQ,yb,hp,hn⟩:=id dd;have uO:=rel.length;refine W.kdl_call (W.kdl_values (kvs:=vs) (ep:=ep)) hh #[hvw,o,es,ho,hc,eQ,yb,hp,hn] () λh' tk acc c' rK hg sy=>?_
 have GL:acc.toList.length=vs.length:=by rw[K8];exact sy.1
 have hi:acc.toList=vs.map (·.2):=W.kdl_vals_eq _ GL λj u e=>sy.2 j u (by rw[<- Y3];exact e)
 have hr:Vals (kvs.map (·.2)) acc.toList:=by rw[hi];exact rel.vals
 refine#[.ref s.heap.objs.size,_,I.laid (t':=tk) (λb u hb=>rK b u hb) (B8 _) (show bh X.prog X.w _ _ _ (.lst (kvs.map (·.2))) from #[by rw[B0];omega,acc.toList,c',hr,hg]),rfl,q _ (I.az.fresh (B8 _))]
end
end L2
namespace L3
open PySem PySem.Spec PyProof.Rows L2
section
variable{X:Cx}{K:W.Frag}{H:Hp}
def NR(td:bw):bw:=λσ G q=>td σ G λx G1=>∃(a:Addr) (kvs:List (Key×D)),x=.ref a/\(G1 a=some (.bN kvs)\/∃o,G1 a=some (.o6 o kvs))/\∀p,G1 p=none->q (.ref p) (aG G1 p (.lst (kvs.map (·.2))))
def wl3(td:TE):TE:=λσ H Q=>PB (Yv td) vJ σ H λxs H1=>∃(v a:Addr) (kvs:List (Key×V)),xs=[.ref v]/\H1 v=some (AE v a)/\Rd H1 a (.dK kvs)/\∀(l:Addr),H1 l=none->Q (.ref l) (upd H1 l (.lst (kvs.map (·.2))))
theorem vn6(h:aI K (NR td) σ H Q):wl3 (aI K td) σ H Q:=by
 obtain⟨σd,G,q,rs,c,t,f⟩:=h;refine#[σd,G,_,rs,c,t,λd G1 v H1 r1 c1 l1 t1=>?_];obtain⟨a,kvs,rfl,hg,t2⟩:=t1;cases r1.ai;obtain⟨ys,e,rp⟩:=pE c1 hg;refine#[a,ys,rfl,e,λv hv=>?_];have lv:Le H1 (upd H1 v (AE v a)):=Le.fresh hv;have eC:a≠v:=by
  rintro rfl
  rcases e with e|⟨_,e⟩ <;> rw[hv] at e <;> cases e
 have e':Rd (upd H1 v (AE v a)) a (.dK ys):=by
  rcases e with e|⟨o,e⟩
  ·exact .inl (by rw[cq eC];exact e)
  ·exact .inr ⟨o,by rw[cq eC];exact e⟩
 refine⟨v,a,ys,rfl,f',e',λl hl=>?_⟩;have c2:=c1.side (u:=AE v a) hv;exact f _ _ _ _ ae.fh (c2.cL hl (rp.le lv).2) (l1.trans (lv.trans (Le.fresh hl))) (t2 l (c2.fresh hl))
theorem v41(hr:aM k X.A){apos aJ p pos:Pos}(ho:E3 X o to)(hg:Gl X "list")(hm:X.mg "list" = none)(cB:O1 o "values" X.env (eval o X.env)=eval o X.env:=by rfl)(cA:(apos.endLine==aJ.line)=true:=by rfl)
  (hs:C5 [.Call (.Attribute o "values" apos) [] [] aJ] X.env=(false,eval (.Call (.Attribute o "values" apos) [] [] aJ) X.env)::C5 [] X.env:=by rfl) :
  E3 X (.Call (.Name "list" p) [.Call (.Attribute o "values" apos) [] [] aJ] [] pos) (NR to) :=
 dA (uq9 (v46 hr.hd) hg hm ∅ (Zo (vm3 ho cB cA) XG hs)) λ_ _ _=>vn6
end
end L3
namespace L2
open PySem PySem.Spec PyProof.Rows
theorem vf7:Ju (.type "list") "keys" = pure none:=by rw[Vz,Wf];kernel_rfl
theorem wg9{A:Around}{s:Shared}(hx:s.heap.get? a=some o)(hc:o.cls=.type "list")(eQ:o.data=.seq xs k)(hd:o.dict=none)(hA:A.handled=none)
  (q:∀h' tk,(∀b o,s.heap.get? b=some o->h'.get? b=some o)->Q none { s with heap:=h',toks:=tk}):wpAny (model prog w) A (Md (.ref a) "keys") Q E s:=by
 obtain⟨c,dct,dat,sl⟩:=o;simp only at hc eQ hd;subst hc eQ hd;obtain⟨hp,g,d,tk,os⟩:=s;have hT:∀DD,(#[hp,g,d,DD,os]:Shared).TypeIs (.ref a) "list" := λ_=>#[_,hx,rfl]
 have f1:=sub_AttributeError;have f3:=F.slot_list_getattribute.lookup;have f4:=F.slot_list_getattribute.bind (.ref a);have f5:=am_list_getattr_none;unfold Md getAttrBy? getAttrBy
 repeat(any_goals (first|assumption|exact hT _|((with_reducible show wpAny _ _ (call (Vw "list.__getattribute__") _ _) _ _ _);refine AR F.slot_list_getattribute (hT _) am_entry_list_getattribute (F.args_list_getattribute_2 _ _) (meets_getattribute_miss_list a xs k sl "keys" _ vf7 ∅) ⟨hx,hA,λh' DD e iC=>?_⟩)|wp_step))
 obtain⟨t',u',he⟩:=iC.there
 show wpAny _ _ (M' _ _ _ _ _ _ _) _ _ _
 unfold M'
 repeat(any_goals (first|assumption|wp_step))
 exact q _ _ iC.keeps
def Pr2(h:Heap)(T:Addr)(x y:Value):Prop:=∃o n,h.get? T=some o/\o.cls=.type "tuple" /\ o.data=.seq [x,y].toArray n
theorem wg8 {prog : Program} {w : World} {A : Around} {s : Shared} {R : Result -> Shared -> Prop} {l it S : Addr} {us : Array Value} {h1 : Heap} (hh : A.in1.handled = none) (hS : S ≠ it) (TQ : S ≠ l) (hil : it ≠ l)
    {ks:List Key} {rv:List V} (hn:ks.length=rv.length) (hu:us.size=ks.length) (hz:ks.length<=1000) (hl:h1.IsList l us)
    (pr:∀(i:Nat) (k:Key) (v:V),ks[i]?=some k->rv[i]?=some v->∃(T:Addr) (x y:Value),us[i]?=some (F4 T)/\T≠S/\T≠it/\Pr2 h1 T x y/\RelV (kV k) x/\RelV v y)
    (q:∀(h':Heap) (tk:Nat) (vs:List (Key×Value)),(∀b o,b≠S->b≠it->h1.get? b=some o->h'.get? b=some o)->KV (putAll ks rv []) vs->h'.DictOf (dX prog w) S vs->R (.ok (.ret .none)) { s with heap:=h',toks:=tk}) :
    ∀(k i:Nat) (h:Heap) (tk:Nat) (ii:Int) (kvs:List (Key×V)) (vs:List (Key×Value)),ks.length-i=k->i<=ks.length->h.IsListIter it l i->KV kvs vs->h.DictOf (dX prog w) S vs->kvs.length<=i->putAll (ks.drop i) (rv.drop i) kvs=putAll ks rv [] ->
      (∀b o,b≠S->b≠it->h1.get? b=some o->h.get? b=some o)->rj (model prog w) A (.builtin "dict.update.loop" { pos:=[.ref S,.ref it,rawInt ii,.none]}) R { s with heap:=h,toks:=tk}:=by
  have li:∀h:Heap,(∀b o,b≠S->b≠it->h1.get? b=some o->h.get? b=some o)->h.IsList l us:=λh kp=>by
    obtain⟨o,e,r⟩:=hl;exact#[o,kp l o (D8 TQ) (D8 hil) e,r]
  intro k
  induction k with
  | zero =>
    intro i h tk ii kvs vs hk hi st rel dd BU he kp;have hi:i=ks.length:=()
    subst hi;have hx:us[ks.length]?=none:=by simp[hu]
    have qR:putAll ks rv []=kvs:=by rw[<- he,B99];rfl
    refine MQ KY ?_;rw[Y8 xN];refine B5 (wpAny_pyNext_list_end (s:={ s with heap:=h,toks:=tk}) hh st (li h kp) hx λh' eb=>?_);refine B5 (C2 (C2 ?_));exact q h' tk vs (λb o b1 b2 e=>eb b o b2 (kp b o b1 b2 e)) (by rw[qR];exact rel) (dd.at λo e=>eb S o hS e)
  | succ k ih =>
    intro i h tk ii kvs vs hk hi st rel dd BU he kp;have dQ:i<ks.length:=()
    obtain⟨kk,ek⟩:∃kk,ks[i]?=some kk:=#[ks[i],B7 dQ];obtain⟨vv,ev⟩:∃vv,rv[i]?=some vv:=#[rv[i]'(),B7 _];obtain⟨T,x,y,eT,T1,T2,⟨oT,n,gT,cT,dT⟩,rx,ry⟩:=pr i kk vv ek ev;have GC:putAll (ks.drop (i+1)) (rv.drop (i+1)) (putK kvs kk vv)=putAll ks rv []:=by
      rw[<- he];have e1:ks.drop i=kk::ks.drop (i+1):=by rw[N5 dQ];congr 1;exact E7 ((B7 dQ).symm.trans ek)
      have e2:rv.drop i=vv::rv.drop (i+1):=by rw[N5 ()];congr 1;exact E7 ((B7 ()).symm.trans ev)
      rw[e1,e2];rfl
    refine MQ KY ?_;rw[Y8 xN];have hsz:vs.length<=sizeLine:=by rw[<- rel.length];exact D6 (m:=1000) () ∅
    refine B5 (wpAny_pyNext_list_item (s:={ s with heap:=h,toks:=tk}) st (li h kp) eT λh' jI sb=>?_);have gT':h'.get? T=some oT:=(sb.2 T T2).trans (kp T oT T1 T2 gT);have pb:h'.DictOf (dX prog w) S vs:=dd.at λo e=>(sb.2 S hS).trans e
    have go : wpAny (model prog w) A.in1 (dictSet S x y) (fun _ s1 => wpAny (model prog w) A.in1 (again (.builtin "dict.update.loop" { pos := [.ref S,.ref it,rawInt (ii + 1),.none] }))
          (λfin s'=>match fin with|.done f=>R (.ok f) s'|.again c'=>c'.quiet=true/\rj (model prog w) A c' R s') (λe s'=>R (.error e) s') s1) (λe s'=>R (.error e) s') { s with heap:=h',toks:=tk}:=by
      refine wpAny_dictSet_pairs (s:={ s with heap:=h',toks:=tk}) (hsz:=hsz) (za rx) pb λuU uX cy=>?_
      refine C2 #[MG xN _,?_];have hlp:=zp kvs kk vv;refine ih (i+1) _ _ _ (putK kvs kk vv) _ () dQ ?_ (rel.put kk ry) uX () GC λb o b1 b2 e=>(cy.2 b b1).trans ((sb.2 b b2).trans (kp b o b1 b2 e))
      obtain⟨o,e,r⟩:=jI;exact#[o,(cy.2 it (D8 hS)).trans e,r]
    refine B5 (M8 (B5 (Vx ?_)));unfold Wl;refine B5 (Cv #[_,gT',cT] ?_);rw[if_pos ∅];refine B5 (M7 gT' dT (C2 ?_));exact M8 go
theorem uj2{prog:Program}{w:World}{A:Around}{E:Value->Shared->Prop}{s:Shared}{l:Addr}{us:Array Value}{o:Obj}{n:Nat}{Q:Value->Shared->Prop}(hh:A.in1.in1.handled=none)(hx:s.heap.get? l=some o)(hc:o.cls=.type "list")(eQ:o.data=.seq us n)(hd:o.dict=none)
  {ks:List Key} {rv:List V} (hn:ks.length=rv.length) (hu:us.size=ks.length) (hz:ks.length<=1000) (pr:∀(i:Nat) (k:Key) (v:V),ks[i]?=some k->rv[i]?=some v->∃(T:Addr) (x y:Value),us[i]?=some (F4 T)/\Pr2 s.heap T x y/\RelV (kV k) x/\RelV v y)
  (q:∀(h':Heap) (tk:Nat) (vs:List (Key×Value)),(∀b o,s.heap.get? b=some o->h'.get? b=some o)->KV (putAll ks rv []) vs->h'.DictOf (dX prog w) s.heap.objs.size vs->Q (.ref s.heap.objs.size) { s with heap:=h',toks:=tk}) :
  wpAny (model prog w) A (call (.type "dict") [.ref l]) Q E s:=by
 refine callType_codes (Q₁:=λobj s1=>obj=.ref s.heap.objs.size/\s1={ s with heap:=s.heap.push { cls:=.type "dict",data:=.dict [].toArray}}) F.kt_called_dict (F.kt_typeCall_dict_1 (.ref l)) F.entry_dict_init (kt_code_dict_new (.ref l) #[rfl,rfl]) λobj s1 fW=>?_
 obtain⟨e1,e2⟩:=fW;subst e1;subst e2;have ed:(s.heap.push { cls:=.type "dict",data:=.dict [].toArray}).DictOf (dX prog w) s.heap.objs.size []:=VF s.heap;have up:∀b o,s.heap.get? b=some o->(s.heap.push { cls:=.type "dict",data:=.dict [].toArray}).get? b=some o:=λb o e=>B6 _ e
 refine#[ed.typeIs,F.args_dict_init_2 _ _,?_];unfold Builtin.«dict.__init__» A88;refine B5 (B5 (wpAny_notOrdered_dict ed.typeIs (C2 ?_)))
 show wpAny _ _ (W9 "dict.__init__" s.heap.objs.size (.ref l) [] .none) _ _ { s with heap:=s.heap.push { cls:=.type "dict",data:=.dict [].toArray}}
 unfold W9;refine B5 (Cv #[_,up _ _ hx,hc] ?_);rw[if_pos ∅];refine B5 (wg9 (s:={ s with heap:=s.heap.push { cls:=.type "dict",data:=.dict [].toArray}}) (up _ _ hx) hc eQ hd hh λh' tk kp=>?_);simp only[B73,if_true];refine B5 (AS ?_);have pA:∀b o,s.heap.get? b=some o->h'.get? b=some o:=λb o e=>kp b o (up b o e)
 have kT:h'.IsList l us:=#[o,pA _ _ hx,hc,n,eQ];refine B5 (T8 (s:={ s with heap:=h',toks:=tk}) kT ?_);refine C2 #[MG xN _,?_];have TQ:s.heap.objs.size≠l:=X7 (D5 hx);have hSi:s.heap.objs.size<h'.objs.size:=by
  obtain⟨o,es,ep,e,_⟩:=ed;exact D5 (kp _ _ e)
 have old:∀{b o},s.heap.get? b=some o->b≠s.heap.objs.size/\b≠h'.objs.size:=λe=>#[I0 (D5 e),I0 (Vm (D5 e) hSi)]
 have Ku:∀b o,h'.get? b=some o->(h'.push { cls:=.type "list_iterator",data:=.fields [.ref l,.int 0 0].toArray}).get? b=some o:=λb o e=>B6 _ e
 refine wg8 (s:=s) (h1:=h'.push { cls:=.type "list_iterator",data:=.fields [.ref l,.int 0 0].toArray}) (us:=us) hh (I0 hSi) TQ (D8 (old hx).2) hn hu hz #[o,Ku _ _ (pA _ _ hx),hc,n,eQ] (λi k v ek ev=>?_) (λh2 Rt vs k2 rel dd=>#[rfl,q h2 Rt vs (λb o e=>k2 b o (old e).1 (old e).2 (Ku _ _ (pA b o e))) rel dd]) ks.length 0 _ tk 0 [] [] rfl (J8 _)
  #[_,D4 _ rfl,rfl,rfl] .nil (ed.at λo e=>Ku _ _ (kp _ _ e)) (B8 _) rfl λb o _ _ e=>e
 obtain⟨T,x,y,eT,⟨oT,m,gT,cT,dT⟩,rx,ry⟩:=pr i k v ek ev;exact#[T,x,y,eT,(old gT).1,(old gT).2,#[oT,m,Ku _ _ (pA _ _ gT),cT,dT],rx,ry]
inductive xm(K:W.Frag)(H:Hp):List V->List Key->List V->Prop
 | nil:xm K H [] [] []
 | cons {t:Addr} {k:Key} {v:V} {xs:List V} {ks:List Key} {rv:List V}:dS K H t [kV k,v]->xm K H xs ks rv->xm K H (.ref t::xs) (k::ks) (v::rv)
theorem xm.len{K:W.Frag}{H:Hp}{xs:List V}{ks:List Key}{rv:List V}(h:xm K H xs ks rv):xs.length=ks.length/\ks.length=rv.length:=by
 induction h with
 | nil=>exact#[rfl,rfl]
 | cons _ _ ih=>exact#[congrArg (·+1) ih.1,congrArg (·+1) ih.2]
theorem xm.at_{K:W.Frag}{H:Hp}{xs:List V}{ks:List Key}{rv:List V}(h:xm K H xs ks rv){us:List Value}(r:Vals xs us):∀(i:Nat) (k:Key) (v:V),ks[i]?=some k->rv[i]?=some v->∃t:Addr,us[i]?=some (F4 t)/\dS K H t [kV k,v]:=by
 induction h generalizing us with
 | nil=>intro i k v e;cases e
 | @cons t k0 v0 xs ks rv hs _ ih =>
  cases r with
  | cons ru r =>
   intro i k v e1 e2;cases i with
   | zero=>cases e1;cases e2;cases ru;exact#[t,rfl,hs]
   | succ i=>exact ih r i k v e1 e2
theorem v47{X:Cx}(hh:X.A.in1.in1.handled=none):bK X (.type "dict") (λxs H Q=>∃(l:Addr) (ts:List V) (ks:List Key) (rv:List V),xs=[.ref l]/\eG X.K H l ts/\xm X.K H ts ks rv/\ks.length<=1000/\∀(p:Addr),H p=none->Q (.ref p) (upd H p (.dK (putAll ks rv [])))):=by
 intro pins s σ H xs us Q I r h;obtain⟨l,ts,ks,rv,rfl,hq,pr,hz,q⟩:=h;obtain⟨u,rfl,rx⟩:=vals1 r;cases rx;obtain⟨its,r',⟨o,n,ho,hc,hd,eQ⟩,hsz⟩:=I.list hq;obtain⟨l1,l2⟩:=pr.len;have hu:its.toArray.size=ks.length:=by rw[E5,<- r'.length,l1]
 refine uj2 hh ho (by first|exact hc|exact hd|exact eQ) (by first|exact eQ|exact hd|exact hc) (by first|exact hd|exact hc|exact eQ) l2 hu hz (λi k v e1 e2=>?_) λh' tk vs kp rel dd=>?_
 ·obtain⟨t,et,st⟩:=pr.at_ r' i k v e1 e2
  obtain⟨it2,r2,⟨oT,gT,cT,nT,dT⟩,_⟩:=I.tuple st;obtain⟨x,y,rfl,a1,a2⟩:=r2.two;exact#[t,x,y,by rw[List.getElem?_toArray];exact et,#[oT,nT,gT,cT,dT],a1,a2]
 ·have hlen:(putAll ks rv []).length<=sizeLine:=D6 (Rm ks rv []) (D6 (m:=1000) (by simpa using hz) ∅)
  have zR:(s.heap.objs.size==Q5)=false:=beq_eq_false_iff_ne.mpr (X7 I.big);exact#[.ref s.heap.objs.size,_,I.laid (a:=s.heap.objs.size) (t':=tk) (o:=.dK (putAll ks rv [])) kp (B8 _) #[hlen,zR,vs,rel,dd],rfl,q _ (I.az.fresh (B8 _))]
end L2
namespace L3
open PySem PySem.Spec PyProof.Rows L2
section
variable{X:Cx}{K:W.Frag}{H:Hp}
def Li(kv:Key×D):D:=.tup [kD kv.1,kv.2]
theorem XJ:∀{kvs:List (Key×D)} {xs:List V},af K H (kvs.map Li) xs->∃rv,xm K H xs (kvs.map (·.1)) rv/\af K H (kvs.map (·.2)) rv
 | [],xs,h=>by obtain rfl:=af.aR h;exact#[[],.nil,.nil]
 | kv::kvs,xs,h=>by
  obtain⟨x,r,rfl,h1,h2⟩:=af.aj h;obtain⟨a,ys,rfl,q1,r1⟩:=(show ae K H (.tup [kD kv.1,kv.2]) x from h1).aK;obtain⟨y1,r2,rfl,e1,r3⟩:=af.aj r1;obtain⟨y2,r4,rfl,e2,r5⟩:=af.aj r3;obtain rfl:=af.aR r5;obtain rfl:=zf e1;obtain⟨rv,p,rr⟩:=XJ h2;exact#[y2::rv,.cons q1 p,.cons e2 rr]
@[reducible] def wj4:C3:=λds G q=>∃(a:Addr) (kvs:List (Key×D)),ds=[.ref a]/\bt (G a)=some (kvs.map Li)/\kvs.length<=1000/\∀(p:Addr),G p=none->q (.ref p) (aG G p (.bN (qy (kvs.map (·.1)) (kvs.map (·.2)) [])))
theorem vz6(hr:aM k X.A):Call3 X (.type "dict") wj4:=nV (v47 hr.hd) <| by
 rintro xs H Q ⟨ds,G,q,r,c,t,f⟩;obtain⟨a,kvs,rfl,hs,hz,t⟩:=t;obtain⟨v,rfl,r1⟩:=r.one;cases r1.ai;obtain⟨ys,s1,q1⟩:=d_ c hs;obtain⟨rv,p,rr⟩:=XJ q1;refine#[_,ys,_,rv,rfl,s1,p,by rw[B0];exact hz,λp hp=>?_];have l:Le H (upd H p (.dK (putAll (kvs.map (·.1)) rv []))):=Le.fresh hp;exact f _ _ _ _ ae.fh (c.put (o:=.bN (qy (kvs.map (·.1)) (kvs.map (·.2)) [])) l #[_,f',Rn (af.le l rr) #[rfl,.nil]]) l (t p (c.fresh hp))
end
end L3
namespace L2
open PySem PySem.Spec PyProof.Rows
abbrev fA:=List Key×List Key
abbrev KN(K:W.Frag)(H:Hp):List (fA×V)->List (fA×Addr×Value)->Prop:=Paired λp q=>p.1=q.1/\ym K H q.2.1 p.1/\RelV p.2 q.2.2
theorem KN.val{K:W.Frag}{H:Hp}{kvs:List (fA×V)}{xs:List (fA×Addr×Value)}(r:KN K H kvs xs)(k:fA):dw (cV kvs k) ((atKey xs k).map (·.2)):=by
 induction r with
 | nil=>exact P9
 | @cons p q ps qs h t ih =>
  obtain⟨h1,_,h2⟩:=h
  by_cases e:p.1=k
  ·have e':q.1=k:=h1.symm.trans e
   have b:atKey (q::qs) k=some q.2:=by simp[atKey,M5,e']
   rw[BB e,b];exact h2
  ·have e':¬ q.1=k:=λz=>e (h1.trans z)
   have b:atKey (q::qs) k=atKey qs k:=by simp[atKey,M5,e']
   rw[BA e,b];exact ih
theorem KN.r9{K:W.Frag}{H:Hp}{kvs:List (fA×V)}{xs:List (fA×Addr×Value)}(r:KN K H kvs xs)(k:fA){y:V}{u:Value}(ry:RelV y u) :
  KN K H (kvs.map λkv=>if kv.1=k then(kv.1,y) else kv) (xs.map (putAt k u)):=by
 induction r with
 | nil=>exact .nil
 | @cons p q ps qs h t ih =>
  obtain⟨h1,h0,h2⟩:=h;refine .cons ?_ ih;unfold putAt;dsimp only
  by_cases e:p.1=k
  ·rw[if_pos e,if_pos (h1.symm.trans e)];exact#[h1,h0,ry]
  ·rw[if_neg e,if_neg (λz=>e (h1.trans z))];exact#[h1,h0,h2]
theorem KN.put{K:W.Frag}{H:Hp}{kvs:List (fA×V)}{xs:List (fA×Addr×Value)}(r:KN K H kvs xs)(k:fA){b:Addr}{y:V}{u:Value}(hb:ym K H b k)(ry:RelV y u) :
  KN K H (putK kvs k y) (Mb xs k b u):=by
 have e:(kvs.any λkv=>decide (kv.1=k))=(atKey xs k).isSome:=by
  rw[QX,(r.val k).gO,VS]
 unfold putK Mb;rw[e]
 by_cases q:(atKey xs k).isSome=true
 ·rw[if_pos q,if_pos q];exact r.r9 k ry
 ·rw[if_neg q,if_neg q];exact Vf r #[rfl,hb,ry]
theorem u6.sq{K:W.Frag}{H:Hp}{a:Addr}{xs:List V}(h:u6 K H a xs):dS K H a xs:=by
 rcases h with h|h|h
 ·exact .inl (.inl h)
 ·exact .inl (.inr h)
 ·exact .inr h
theorem dS.tp{K:W.Frag}{H:Hp}{a:Addr}{xs:List V}(h:dS K H a xs):u6 K H a xs:=by
 rcases h with(h|h)|h
 ·exact .inl h
 ·exact .inr (.inl h)
 ·exact .inr (.inr h)
section
variable{X:Cx}{pins:List (Addr×Obj)}{σ:L2.St}{H:Hp}{s:Shared}{a b:Addr}{A:Around}{E:Value->Shared->Prop}
theorem JW{q:fA}(I:Inv X pins σ H s)(h:ym X.K H b q):(zm (dX X.prog X.w)).is s.heap q b:=by
 obtain⟨c,h1,h2⟩:=h;obtain⟨its,r,⟨o,e,cl,n,d⟩,_⟩:=I.tuple h1.sq;obtain⟨aW,r2,⟨o2,e2,cl2,n2,d2⟩,_⟩:=I.tuple h2.sq;cases r with
 | cons rx r =>
  cases rx;exact#[o,_,n,c,_,e,cl,d,rfl,#[o2,aW.toArray,n2,e2,cl2,d2,by simpa using KZ r2],KZ r]
theorem NS(I:Inv X pins σ H s)(e:H a=some (.dN X.K kvs)):kvs.length<=sizeLine/\(a==Q5)=false /\
  ∃xs,KN X.K H kvs xs/\s.heap.DictOfH (zm (dX X.prog X.w)) a xs:=by
 obtain⟨z,y,xs,r,o,es,ep,h1,h2,h3,h4,h5⟩:=(show bh X.prog X.w H s.heap a (.dN X.K kvs) from I.az a _ e);refine#[z,y,xs,r,o,es,ep,h1,h2,h3,h4,λx hx=>?_,h5];have all:∀{l:List (fA×V)} {m:List (fA×Addr×Value)},KN X.K H l m->∀x∈m,(zm (dX X.prog X.w)).is s.heap x.1 x.2.1:=by
  intro l m q
  induction q with
  | nil=>intro x hx;exact nomatch hx
  | @cons p q ps qs hq t ih =>
   intro x hx
   rcases E6.mp hx with e|hx
   ·subst e
    exact JW I (by rw[<- hq.1];exact hq.2.1)
   ·exact ih x hx
 exact all r x hx
def wl6(K:W.Frag):TE:=λ_ H Q=>∀p,H p=none->Q (.ref p) (upd H p (.dN K []))
theorem vm5:PE X (.Dict [] [] pos) (wl6 X.K):=λpins s σ H Q I h =>
 wpAny_Dict_empty #[.ref s.heap.objs.size,_,I.laid (a:=s.heap.objs.size) (o:=.dN X.K []) (t':=s.toks) (λ_ _ q=>B6 _ q) (B8 _)
  #[J8 _,beq_eq_false_iff_ne.mpr (D8 (I0 I.big)),[],.nil,_,[].toArray,0,D4 _ rfl,#[rfl,rfl,rfl],rfl,rfl,C24],rfl,h _ (I.az.fresh (B8 _))]
def wl8(K:W.Frag)(td ty:TE):TE:=λσ H Q=>td σ H λx H1=>ty σ H1 λy H2=>∃a b kvs k v,x=.ref a/\y=.ref b/\H2 a=some (.dN K kvs)/\ym K H2 b k/\cV kvs k=some v/\Q v H2
theorem vm7{o i:Expr}{pos:Pos}{td ty:TE}(hu:X.A.units+2<cLine)(ho:PE X o td)(hi:PE X i ty)(hs:rg i):PE X (.Subscript o i pos) (wl8 X.K td ty):=by
 intro pins s σ H Q I h
 (refine Zy A74.lookup hs (a_ (ho pins s σ H _ I h) ?_);rintro u s1 ⟨x,H1,I1,rx,q1⟩;refine a_ (hi pins s1 σ H1 _ I1 q1) ?_;rintro iv s2 ⟨y,H2,I2,ry,a,b,kvs,k,v,ex,ey,ha,hb,l,q2⟩)
 subst ex;subst ey;obtain rfl:u=F4 a:=rx;obtain rfl:iv=F4 b:=ry;obtain⟨z,hd,xs,rel,dd⟩:=NS I2 ha;refine#[dd.typeIs,?_];obtain⟨w',hw,jq⟩:=dw.some_of (v:=v) (o:=(atKey xs k).map (·.2)) (by rw[<- l];exact rel.val k);obtain⟨p,hp,mf⟩:=E9.mp hw;refine wpAny_getItem_heap (knd:=zm (dX X.prog X.w)) hu (JW I2 hb) dd hp ?_;rw[mf];exact#[v,H2,I2.tok _,jq,q2]
def RL(K:W.Frag):R2:=λx y H Q=>∃a b kvs k,x=.ref b/\y=.ref a/\H a=some (.dN K kvs)/\ym K H b k/\Q (.bl (!(cV kvs k).isSome)) H
theorem va2(hu:X.A.units+2<cLine):dy X (O6 .NotIn) (RL X.K):=by
 intro pins s σ H x y v u Q I rx ry h;obtain⟨a,b,kvs,k,rfl,rfl,ha,hb,q⟩:=h;obtain rfl:v=F4 b:=rx;obtain rfl:u=F4 a:=ry;obtain⟨z,hd,xs,rel,dd⟩:=NS I ha;refine wpAny_notIn_heap (knd:=zm (dX X.prog X.w)) hu (JW I hb) hd dd ?_;have e:=(rel.val k).gO;rw[VS] at e;rw[<- e];exact#[.bl (!(cV kvs k).isSome),H,I.tok _,rfl,q]
def wn0(K:W.Frag)(td ty tv:TE):TS:=λD σ H=>tv σ H λv H1=>td σ H1 λx H2=>ty σ H2 λy H3=>∃a b kvs k,x=.ref a/\y=.ref b/\H3 a=some (.dN K kvs)/\ym K H3 b k/\kvs.length<sizeLine/\D.nx σ (upd H3 a (.dN K (putK kvs k v)))
theorem vl3{o i value:Expr}{pos pos':Pos}{td ty tv:TE}(hu:X.A.units+2<cLine)(ho:PE X o td)(hi:PE X i ty)(hv:PE X value tv)(hs:V2 value (some (.Subscript o i pos')) pos.line X.env=pure false) :
  PS X (.Assign [.Subscript o i pos'] value pos) (wn0 X.K td ty tv):=by
 intro pins s σ H D I h
 (refine wpAny_Assign_Subscript (a_ (hv pins s σ H _ I h) ?_) hs;rintro r s1 ⟨v,H1,I1,rv,q1⟩;refine a_ (ho pins s1 σ H1 _ I1 q1) ?_;rintro u s2 ⟨x,H2,I2,rx,q2⟩;refine a_ (hi pins s2 σ H2 _ I2 q2) ?_;rintro iv s3 ⟨y,H3,I3,ry,a,b,kvs,k,ex,ey,e,hb,l,q3⟩)
 subst ex;subst ey;obtain rfl:u=F4 a:=rx;obtain rfl:iv=F4 b:=ry;obtain⟨z,hd,xs,rel,dd⟩:=NS I3 e;have hz:xs.length<=sizeLine:=by rw[<- MN rel];exact z
 have hl:(putK kvs k v).length<=sizeLine:=by have:=zp kvs k v;omega
 refine wpAny_setItem_heap (knd:=zm (dX X.prog X.w)) (hsz:=hz) hu (JW I3 hb) dd λh' pb hs=>?_
 obtain⟨q,es,ep,hq,h2,h3,h4,_,h5⟩:=pb;have kt:∀{c ys},u6 X.K H3 c ys->u6 X.K (upd H3 a (.dN X.K (putK kvs k v))) c ys:=λh=>h.eN (λc ys ec=>by rw[cq (NW ec e (λz=>nomatch z))];exact ec) λc o ys ec=>by rw[cq (NW ec e (λz=>nomatch z))];exact ec
 refine#[σ,_,Bs (ob:=.dN X.K (putK kvs k v)) I3 (by rw[e];exact P9) hs #[q,hq] #[hl,hd,_,Paired.si (rel.put k hb rv) λ_ _ z=>#[z.1,let ⟨c,h1,h2⟩:=z.2.1;#[c,kt h1,kt h2],z.2.2],q,es,ep,hq,h2,h3,h4,h5],q3]
end
end L2
namespace L3
open PySem PySem.Spec PyProof.Rows L2
def jd(kvs:List (fA×D))(k:fA):Option D:=(kvs.find? λkv=>decide (kv.1=k)).map (·.2)
def xW(kvs:List (fA×D))(k:fA)(v:D):List (fA×D) :=
 if(kvs.any λkv=>decide (kv.1=k))=true then kvs.map (λkv=>if kv.1=k then(kv.1,v) else kv) else kvs++[(k,v)]
def zE(q:fA):D:=.tup (.tup (q.1.map kD)::q.2.map kD)
section
variable{X:Cx}{K:W.Frag}{G:Gp}{H:Hp}{p:Addr}
theorem QE:∀{kvs:List (fA×D)} {ys:List (fA×V)},ay K H kvs ys->(jd kvs k=none/\cV ys k=none)\/∃d v,jd kvs k=some d/\cV ys k=some v/\ae K H d v
 | [],ys,⟨h1,h2⟩=>by
  have:ys=[]:=by cases ys with|nil=>rfl|cons y ys=>simp at h1
  subst this;exact .inl #[rfl,rfl]
 | (k',d)::kvs,[],⟨h1,h2⟩=>by simp at h1
 | (k',d)::kvs,(k2,v)::ys,⟨h1,h2⟩=>by
  rw[C0,C0] at h1;obtain⟨e1,e2⟩:=W2 h1;have e1:k'=k2:=e1;subst e1;obtain⟨x,rq,e3,q1,q2⟩:=h2.aj;rw[C0] at e3;obtain⟨e4,e5⟩:=W2 e3;have e4:v=x:=e4;subst e4
  by_cases hk:k'=k
  ·right
   exact#[d,v,by simp[jd,M5,hk],BB hk,q1]
  ·have ih:=QE (k:=k) (kvs:=kvs) (ys:=ys) #[e2,by rw[e5];exact q2]
   have a1:jd ((k',d)::kvs) k=jd kvs k:=by simp[jd,M5,hk]
   rw[a1,BA hk];exact ih
theorem Zk(q:ae K H d v):∀{kvs:List (fA×D)} {ys:List (fA×V)},ay K H kvs ys->ay K H (kvs.map (λkv=>if kv.1=k then(kv.1,d) else kv)) (ys.map (λkv=>if kv.1=k then(kv.1,v) else kv))/\(kvs.any λkv=>decide (kv.1=k))=(ys.any λkv=>decide (kv.1=k))
 | [],ys,⟨h1,h2⟩=>by
  have:ys=[]:=by cases ys with|nil=>rfl|cons y ys=>simp at h1
  subst this;exact#[#[rfl,.nil],rfl]
 | (k',d')::kvs,[],⟨h1,h2⟩=>by simp at h1
 | (k',d')::kvs,(k2,v')::ys,⟨h1,h2⟩=>by
  rw[C0,C0] at h1;obtain⟨e1,e2⟩:=W2 h1;have e1:k'=k2:=e1;subst e1;obtain⟨x,rq,e3,q1,q2⟩:=h2.aj;rw[C0] at e3;obtain⟨e4,e5⟩:=W2 e3;have e4:v'=x:=e4;subst e4;obtain⟨⟨i1,i2⟩,i3⟩:=Zk (k:=k) q (kvs:=kvs) (ys:=ys) #[e2,by rw[e5];exact q2];refine#[#[?_,?_],by rw[P0,P0,i3]]
  ·rw[C0,C0,C0,C0,i1]
   by_cases hk:k'=k <;> simp[hk]
  ·rw[C0,C0,C0,C0]
   by_cases hk:k'=k
   ·simp only[hk,if_true];exact .cons q i2
   ·simp only[hk,if_false];exact .cons q1 i2
theorem w97(q:ae K H d v)(h:ay K H kvs ys):ay K H (xW kvs k d) (putK ys k v):=by
 obtain⟨i1,i3⟩:=Zk (k:=k) q h;unfold xW putK;rw[i3];split
 ·exact i1
 ·exact#[by rw[B9,B9,h.1];rfl,by rw[B9,B9];exact h.2.append (.cons q .nil)]
theorem Le.dN(h:H p=some (.dN K xs)):Le H (upd H p (.dN K ys)) :=
  ⟨fun b zs q => by by_cases e : b = p
                    · subst e;rw[h] at q;cases q
                    · rw[cq e];exact q,
   fun b o u q => by by_cases e : b = p
                     · subst e;rw[h] at q;cases q
                     · rw[cq e];exact q⟩
theorem zw:∀{ks:List Key} {xs:List V},af K H (ks.map kD) xs->xs=ks.map kV
 | [],xs,h=>af.aR h
 | k::ks,xs,h=>by
  obtain⟨x,r,rfl,h1,h2⟩:=af.aj h;rw[zf h1,zw h2];rfl
theorem Qf(h:ae K H (zE q) v):∃b,v=.ref b/\ym K H b q:=by
 obtain⟨b,xs,rfl,s1,r1⟩:=h.aK;obtain⟨x,r,rfl,e1,r2⟩:=af.aj r1;obtain⟨c,ys,rfl,s2,r3⟩:=e1.aK;rw[zw r3] at s2;rw[zw r2] at s1;exact#[b,rfl,c,s1.tp,s2.tp]
theorem uM(hr:aM k X.A):X.A.units+2<cLine:=by have:=hr.un;omega
def WM:bw:=λ_ G q=>∀p,G p=none->q (.ref p) (aG G p (.pQ []))
theorem wf9:E3 X (.Dict [] [] pos) WM:=dA vm5 λσ H Q h=>by
 obtain⟨σd,G,q,rs,c,t,f⟩:=h;exact λp hp=>f (.ref p) _ (.ref p) _ (by rw[ae]) (c.put (o:=.pQ []) (Le.fresh hp) #[[],f',rfl,.nil]) (Le.fresh hp) (t p (c.fresh hp))
def WK(td ti:bw):bw:=λσ G q=>td σ G λx G1=>ti σ G1 λy G2=>∃a kvs k d,x=.ref a/\y=zE k/\G2 a=some (.pQ kvs)/\jd kvs k=some d/\q d G2
theorem wg1(hr:aM k X.A)(ho:E3 X o to)(hi:E3 X i ti)(hs:rg i:=by exact λ_ _=>rfl):E3 X (.Subscript o i pos) (WK to ti) :=
 dA (vm7 (uM hr) ho hi hs) λσ H Q h=>by
  obtain⟨σd,G,q,rs,c,t,f⟩:=h;refine#[σd,G,_,rs,c,t,λx G1 v H1 r1 c1 l1 t1=>#[σd,G1,_,rs.le l1,c1,t1,λy G2 u H2 r2 c2 l2 t2=>?_]];obtain⟨a,kvs,ks,d,rfl,rfl,hg,hv,t3⟩:=t2;have Ee:=ae.le l2 r1;cases Ee.ai;obtain⟨b,rfl,s1⟩:=Qf r2;obtain⟨ys,e,rp⟩:=c2 a _ hg
  rcases QE (k:=ks) rp with⟨z1,_⟩|⟨d',w,z1,z2,z3⟩
  ·rw[z1] at hv;cases hv
  ·rw[z1] at hv;cases hv
   exact⟨a,b,ys,ks,w,rfl,rfl,e,s1,z2,f _ _ _ _ z3 c2 (l1.trans l2) t3⟩
@[reducible] def vz7:R3:=λx y G q=>∃(k:fA) (kvs:List (fA×D)) (a:Addr),x=zE k/\y=.ref a/\G a=some (.pQ kvs)/\q (.bl (!(jd kvs k).isSome)) G
theorem vj6(hr:aM k X.A):gF X (O6 .NotIn) vz7:=rV (va2 (uM hr)) λx y H Q h=>by
 obtain⟨d,e,G,q,r1,r2,c,⟨ks,kvs,a,rfl,rfl,hg,t⟩,f⟩:=h;cases r2.ai;obtain⟨b,rfl,s1⟩:=Qf r1;obtain⟨ys,e,rp⟩:=c a _ hg;refine#[a,b,ys,ks,rfl,rfl,e,s1,?_];have es:(jd kvs ks).isSome=(cV ys ks).isSome:=by
  rcases QE (k:=ks) rp with⟨z1,z2⟩|⟨d',w,z1,z2,_⟩ <;> rw[z1,z2] <;> rfl
 rw[es] at t;exact f _ _ _ _ ae.rO c (Le.refl H) t
def WN(td ti tv:bw):fz:=λDn σ G=>tv σ G λv G1=>td σ G1 λx G2=>ti σ G2 λy G3=>∃(a:Addr) (kvs:List (fA×D)) (k:fA),x=.ref a/\y=zE k/\G3 a=some (.pQ kvs)/\kvs.length<sizeLine/\Dn.nx σ (aG G3 a (.pQ (xW kvs k v)))
theorem w90{pos pos':Pos}(hr:aM k X.A)(ho:E3 X o to)(hi:E3 X i ti)(hv:E3 X value tv)
  (hs:V2 value (some (.Subscript o i pos')) pos.line X.env=pure false:=by rfl):S3 X (.Assign [.Subscript o i pos'] value pos) (WN to ti tv) :=
 oi (vl3 (uM hr) ho hi hv hs) λD σ H h=>by
  obtain⟨σd,G,d,rs,c,t,f⟩:=h;refine#[σd,G,_,rs,c,t,λv G1 w H1 r1 c1 l1 t1=>#[σd,G1,_,rs.le l1,c1,t1,λx G2 u H2 r2 c2 l2 t2=>#[σd,G2,_,rs.le (l1.trans l2),c2,t2,λy G3 z H3 r3 c3 l3 t3=>?_]]];obtain⟨a,kvs,k,rfl,rfl,hg,hl,t4⟩:=t3;have RN:=ae.le l3 r2;cases RN.ai;obtain⟨b,rfl,s1⟩:=Qf r3;obtain⟨ys,e,rp⟩:=c3 a _ hg;have l5:Le H3 (upd H3 a (.dN _ (putK ys k w))):=Le.dN e;have Sr:ys.length=kvs.length:=by
   have:=congrArg F9 rp.1;rw[B0,B0] at this;exact this.symm
  refine#[a,b,ys,k,rfl,rfl,e,s1,by rw[Sr];exact hl,?_];refine f.nx _ _ _ _ (((rs.le l1).le l2).le (l3.trans l5)) ?_ (l1.trans (l2.trans (l3.trans l5))) t4;exact c3.put l5 #[_,f',(w97 (ae.le (l2.trans l3) r1) rp).le l5]
end
end L3
namespace Rw
open PySem PyProof.Rows L2 L3
theorem Wv.tr(le:fr<=cQ)(h:∀r∈new,Rw.tg fr cQ r):Wv fr cQ new (λ_ _=>True):=#[le,h,λ_ _ _ _ _=>trivial]
theorem x88(hW:W<=16)(hx:x<fr)(hy:y<fr)(ho:o∈L3.signs):∀r∈fT W x y fr o,tg fr (lV fr o) r:=by
 have ha:∀r∈cD fr x y W,tg fr (fr+1) r:=λr hr=>by
  obtain⟨i,hi,rfl⟩:=K2.mp hr;have hi:=K0.mp hi;refine#[B8 _,(),(),by simp,λc hc=>?_];simp only[E6,O0,or_false] at hc
  rcases hc with rfl|rfl <;> exact⟨(),(),()⟩
 have hu:∀(z i k m:Nat) (cs:List (Nat×Nat)),fr<=z->z<fr+m->i<32->(∀c∈cs,c.1<z/\c.2<32)->cs.length<=2->tg fr (fr+m) (.turn z i cs):=λz i k m cs h1 h2 h3 h4 h5=>#[h1,h2,h3,h5,λc hc=>#[by have:=h4 c hc;omega,by have:=h4 c hc;omega,(h4 c hc).2]]
 intro r hr
 rcases QT ho with rfl|rfl|rfl|rfl|rfl|rfl|rfl
 all_goals
  simp only[fT,lV,eJ,C6,if_false,if_true,K1,E6,O0,or_false,List.mem_replicate] at hr⊢
 ·rcases hr with rfl|rfl|rfl|rfl
  ·exact⟨(),(),(),()⟩
  ·exact⟨(),(),(),()⟩
  ·exact hu _ _ 0 2 _ () () () (by simp;omega) (by simp)
  ·exact⟨(),(),(),()⟩
 ·rcases hr with(rfl|rfl)|rfl|rfl
  ·exact⟨(),(),(),()⟩
  ·exact⟨(),(),(),()⟩
  ·exact hu _ _ 0 2 _ () () () (by simp) (by simp)
  ·exact⟨(),(),(),()⟩
 ·exact ha r hr
 ·rcases hr with hr|(rfl|rfl)|⟨_,rfl⟩
  ·exact zh (ha r hr) (B8 _) ()
  ·exact⟨(),(),(),()⟩
  ·exact⟨(),(),(),()⟩
  ·exact⟨(),(),(),()⟩
 ·rcases hr with hr|(rfl|rfl)|⟨_,rfl⟩
  ·exact zh (ha r hr) (B8 _) ()
  ·exact⟨(),(),(),()⟩
  ·exact⟨(),(),(),()⟩
  ·exact⟨(),(),(),()⟩
 ·rcases hr with(rfl|rfl)|rfl
  ·exact⟨(),(),(),()⟩
  ·exact⟨(),(),(),()⟩
  ·exact hu _ _ 0 2 _ () () () (by simp) (by simp)
 ·rcases hr with((rfl|rfl)|rfl|rfl)|rfl|rfl|rfl
  ·exact⟨(),(),(),()⟩
  ·exact⟨(),(),(),()⟩
  ·exact⟨(),(),(),()⟩
  ·exact⟨(),(),(),()⟩
  ·exact hu _ _ 0 3 _ () () () (by simp) (by simp)
  ·exact hu _ _ 0 3 _ () () () (by simp) (by simp)
  ·exact hu _ _ 0 3 _ () () () (by simp) (by simp)
theorem JX(hW:W<=16)(ha:jt W bs a):∀r∈de fr a,tg fr (aY fr a) r:=by
 intro r hr;cases a with
 | num i =>
  obtain rfl:=J9.mp hr;have h1:i<2^W:=ha;have:=C9 h1 (Wb (n:=2) ∅ hW);exact#[B8 _,W7 _,(),()]
 | box x=>cases hr
theorem PF:∀{ps:List Nat} {fr:Nat},f0<=fr->(∀p∈ps,p<f0)->∀r∈iy fr ps,tg fr (fr+ps.length) r
 | [],_,_,_,_,hr=>nomatch hr
 | p::ps,fr,hf,hp,r,hr=>by
  have h1:=hp p D3
  rcases E6.mp hr with rfl|hr
  ·exact⟨B8 _,by simp,by rw[C1];omega,()⟩
  ·exact zh (PF (fr:=fr+1) () (λp h=>hp p (C7 _ h)) r hr) () (by rw[C1];omega)
theorem vk4(hx:x<fr):Wv fr (fr+2) [.take fr (.box x),.turn (fr+1) 0 [(fr,31)]] (λ_ b'=>gt b' (fr+1)=0\/gt b' (fr+1)=1):=by
 refine⟨(),λr hr=>?_,λsz bs hb hz h0=>?_⟩
 ·simp only[E6,O0,or_false] at hr
  rcases hr with rfl|rfl
  ·exact⟨B8 _,(),(),()⟩
  ·exact⟨(),(),(),by simp,λc hc=>by rw[J9.mp hc];exact#[(),(),()]⟩
 ·have hl:=hb.len
  have e2:gt (cH 1 bs (.take fr (.box x))) (fr+1)=0:=by rw[Bt (),if_neg (),h0 (fr+1) ()]
  rw[KR,KR,w91,Dh (by rw[uC];omega),if_pos rfl,e2];split
  ·exact .inr (Ub 0)
  ·exact .inl rfl
abbrev Ci(a fr cQ:Nat)(new:List Row)(st:Nat):Prop:=Wk a fr cQ new st (λ_=>True) (λ_ _=>True)
theorem Ci.seq(h1:Ci a fr Cc n1 s1)(h2:Ci (a+n1.length) Cc Ua n2 s2):Ci a fr Ua (n1++n2) (s1+s2):=(Wk.seq h1 h2 λ_ _ _ _ _=>trivial).imp (λ_ h=>h) λ_ _ _ _ _=>trivial
def Uw(bs:List Str)(a fr:Nat)(x:List Row×List Nat×Nat×Nat):Prop:=Ci a fr x.2.2.1 x.1 x.2.2.2/\x.2.1.length=bs.length/\∀p∈x.2.1,p<x.2.2.1
theorem WX(h:∀p∈pl,p<fr)(hf:fr<=cQ)(hp:p<cQ):∀q∈eh bs pl x p,q<cQ:=λq hq=>by
 rcases A75 hq with z|z
 ·exact C9 (h q z) hf
 ·rw[z];exact hp
theorem KA{bs:List Str}{pl:List Nat}(hl:pl.length=bs.length)(h:∀p∈pl,p<f0)(hf:f0<=fr)(ha:jt W bs a):eW bs pl fr a<aY fr a:=by
 cases a with
 | num i=>exact W7 _
 | box x=>exact C9 (h _ (K4 (vq3 ha hl))) hf
mutual
theorem Rv(hW:W<=16):∀(r:aq) {a:Nat} {pl:List Nat} {fr:Nat},qI W bs r->uH r->pl.length=bs.length->(∀p∈pl,p<fr)->Uw bs a fr (cx W bs r a pl fr)
 | .is x c,a,pl,fr,hr,_,hl,h=>#[Wk.of (Wv.tr (om c).1 (JX hW hr.2)),by show(eh _ _ _ _).length=_;unfold eh;rw[J5];exact hl,WX h (om c).1 (KA hl h (B8 _) hr.2)]
 | .op x o c d,a,pl,fr,hr,_,hl,h=>by
  obtain⟨_,ho,hc,hd⟩:=hr;have f1:=om (fr:=fr) c;have f2:=om (fr:=aY fr c) d;have f3:=Yr (fr:=aY (aY fr c) d) (o:=o);have b1:=KA hl h (B8 fr) hc;have b2:=KA hl h f1.1 hd;refine#[Wk.of (Wv.tr (by show fr<=lV _ _;omega) λr hr=>?_),by show(eh _ _ _ _).length=_;unfold eh;rw[J5];exact hl,WX h (by show fr<=lV _ _;omega) f3.2.2]
  rcases K1.mp hr with hr|hr
  ·rcases K1.mp hr with hr|hr
   ·exact zh (JX hW hc r hr) (B8 _) (by show aY fr c<=lV _ _;omega)
   ·exact zh (JX hW hd r hr) f1.1 f3.1
  ·exact zh (x88 hW () b2 ho r hr) () (B8 _)
 | .eF c ys ns,a,pl,fr,hr,hn,hl,h=>by
  obtain⟨hc,S',Tb⟩:jt W bs c/\dY W bs ys/\dY W bs ns:=hr;obtain⟨Gu,Gx⟩:fk ys/\fk ns:=hn;obtain⟨wy,ly,py⟩:=qB hW ys (a:=a) S' Gu hl h;have e1:=wy.le;obtain⟨wn,ln,pn⟩:=qB hW ns (a:=a+(bf W bs ys a pl fr).1.length) Tb Gx hl λp hp=>C9 (h p hp) e1
  have e2:=wn.le;unfold cx Uw;dsimp only;generalize bf W bs ys a pl fr=y at *;generalize bf W bs ns (a+y.1.length) pl y.2.2.1=n at *;have hp:=om (fr:=n.2.2.1) c;have hb:=KA hl h (D6 e1 e2) hc;have ty:=Wv.tr (fr:=aY n.2.2.1 c+2) (Q2 _ _) (PF (f0:=n.2.2.1) (ps:=uY y.2.1 n.2.1) () λp q=>C9 (py p (Qp q)) e2);have tn:=Wv.tr (fr:=aY n.2.2.1 c+2) (Q2 _ _) (PF (f0:=n.2.2.1) (ps:=uN y.2.1 n.2.1) () λp q=>pn p (Qo q));rw[<- Bg] at tn;have s3:Ci a fr _ _ _:=(wy.seq wn).seq (Wk.of (Wv.tr hp.1 (JX hW hc)));have s4:=(Wk.seq (P2:=λ_=>True) s3 (Wk.of (vk4 hb)) λ_ _ _ _ _=>trivial).seq (Wk.choice (ch:=aY n.2.2.1 c+1) ty tn (by rw[vB,vB,Bg]) ()) λ_ _ _ ⟨_,_,f,_⟩ _=>f
  rw[vB] at s4;exact#[s4.imp (λ_ p=>p) λ_ _ _ _ _=>trivial,by rw[Dk (by rw[ly,ln])];exact ly,λx hx=>Qd (f0:=n.2.2.1) () (λx hx=>C9 (py x hx) e2) x hx]
 | .gV k ys,a,pl,fr,_,hn,_,_=>hn.elim
theorem qB(hW:W<=16):∀(rs:List aq) {a:Nat} {pl:List Nat} {fr:Nat},dY W bs rs->fk rs->pl.length=bs.length->(∀p∈pl,p<fr)->Uw bs a fr (bf W bs rs a pl fr)
 | [],a,pl,fr,_,_,hl,h=>#[Wk.of (Wv.nil λ_=>trivial),hl,h]
 | r::rs,a,pl,fr,hr,hn,hl,h=>by
  obtain⟨w1,l1,p1⟩:=Rv hW r (a:=a) hr.1 hn.1 hl h;obtain⟨w2,l2,p2⟩:=qB hW rs (a:=a+(cx W bs r a pl fr).1.length) hr.2 hn.2 l1 p1;exact#[w1.seq w2,l2,p2]
end
end Rw
namespace Law
open PySem L2 L3 Rw
def Lh(f:Nat->Nat):nY->nY
 | .num n=>.num n
 | .box y=>.box (f y)
def qF(f:Nat->Nat):Row->Row
 | .add x o=>.add (f x) (Lh f o)
 | .take x o=>.take (f x) (Lh f o)
 | .turn x i cs=>.turn (f x) i (cs.map λc=>(f c.1,c.2))
 | .swap x y=>.swap (f x) (f y)
 | .go x n k=>.go (f x) n k
 | .aL x n k=>.aL (f x) n k
structure u7(f:Nat->Nat)(m d:Nat):Prop where
 inj:∀x y,f x=f y->x=y
 up:∀x,m<=x->f x=x+d
section
variable{f:Nat->Nat}{m d:Nat}
theorem Km(h:u7 f m d)(hf:m<=fr)(a:hV):de (fr+d) a=(de fr a).map (qF f):=by
 cases a with
 | num i=>show[Row.add (fr+d) _]=[Row.add (f fr) _];rw[h.up fr hf];rfl
 | box x=>rfl
theorem Qj(a:hV):aY (fr+d) a=aY fr a+d:=by
 cases a with
 | num i=>show fr+d+1=fr+1+d;omega
 | box x=>rfl
theorem Kl{bs:List Str}(h:u7 f m d){pl:List Nat}(hf:m<=fr)(hl:pl.length=bs.length)(ha:jt W bs a):eW bs (pl.map f) (fr+d) a=f (eW bs pl fr a):=by
 cases a with
 | num i=>exact(h.up fr hf).symm
 | box x =>
  show((pl.map f)[gN bs x]?).getD 0=f ((pl[gN bs x]?).getD 0)
  rw[F0,B7 (by rw[hl];exact PZ ha)];rfl
theorem x33(h:u7 f m d)(hf:m<=fr):cD (fr+d) (f x) (f y) k=(cD fr x y k).map (qF f):=by
 unfold cD;rw[L5];exact K9 λi _=>by show _=Row.turn (f fr) _ _;rw[h.up fr hf];rfl
theorem x89(h:u7 f m d)(hf:m<=fr):fT W (f x) (f y) (fr+d) o=(fT W x y fr o).map (qF f)/\zu (fr+d) o=f (zu fr o)/\lV (fr+d) o=lV fr o+d:=by
 have u0:=h.up fr hf;have u1:=h.up (fr+1) ();have u2:=h.up (fr+2) ();unfold fT zu lV
 repeat' split
 all_goals refine#[?_,(),()]
 all_goals simp[qF,Lh,u0,u1,u2,x33 h hf,VY]
theorem XM{pl:List Nat}:eh bs (pl.map f) x (f p)=(eh bs pl x p).map f:=by unfold eh;rw[C65]
theorem Dz(h:u7 f m d):∀{ps qs:List Nat},uY (ps.map f) (qs.map f)=(uY ps qs).map f/\uN (ps.map f) (qs.map f)=(uN ps qs).map f
 | [],_=>by simp[uY,uN]
 | _::_,[]=>#[rfl,rfl]
 | p::ps,q::qs=>by
  obtain⟨i1,i2⟩:=Dz h (ps:=ps) (qs:=qs)
  by_cases e:p=q
  ·simp[uY,uN,e,i1,i2]
  ·simp[uY,uN,e,mt (h.inj p q) e,i1,i2]
theorem Qe(h:u7 f m d):∀{ps qs:List Nat} {fr:Nat},m<=fr->fV (fr+d) (ps.map f) (qs.map f)=(fV fr ps qs).map f
 | [],_,_,_=>by simp[fV]
 | _::_,[],_,_=>rfl
 | p::ps,q::qs,fr,hf=>by
  by_cases e:p=q
  ·simp[fV,e,Qe h hf]
  ·simp[fV,e,mt (h.inj p q) e,h.up fr hf,VY fr d 1,Qe h (show m<=fr+1 by omega)]
theorem Xg(h:u7 f m d):∀{ps:List Nat} {fr:Nat},m<=fr->iy (fr+d) (ps.map f)=(iy fr ps).map (qF f)
 | [],_,_=>rfl
 | p::ps,fr,hf=>by
  show Row.add (fr+d) (.box (f p))::iy (fr+d+1) (ps.map f)=Row.add (f fr) (.box (f p))::(iy (fr+1) ps).map (qF f)
  rw[h.up fr hf,VY fr d 1,Xg h (show m<=fr+1 by omega)]
theorem xb6{ys ns:List Row}:qY a (f ch) (ys.map (qF f)) (ns.map (qF f))=(qY a ch ys ns).map (qF f):=by
 unfold qY;simp[qF]
abbrev xk(f:Nat->Nat)(d:Nat)(x y:List Row×List Nat×Nat×Nat):Prop:=y=(x.1.map (qF f),x.2.1.map f,x.2.2.1+d,x.2.2.2)
mutual
theorem wj9{bs:List Str}(h:u7 f m d)(hW:W<=16)(hb:bs.length<=6):∀(r:aq) {a:Nat} {pl:List Nat} {fr:Nat},qI W bs r->uH r->pl.length=bs.length->m<=fr->xk f d (cx W bs r a pl fr) (cx W bs r a (pl.map f) (fr+d))
 | .is x c,a,pl,fr,hr,hn,hl,hf=>by
  obtain⟨_,hc⟩:=hr;simp only[xk,cx,uu,Km h hf,Qj,Kl h hf hl hc,XM,B0]
 | .op x o c e,a,pl,fr,hr,hn,hl,hf=>by
  obtain⟨_,ho,hc,he⟩:=hr;have f1:=(om (fr:=fr) c).1;have f2:=(om (fr:=aY fr c) e).1;obtain⟨s1,s2,s3⟩:=x89 h (W:=W) (x:=eW bs pl fr c) (y:=eW bs pl (aY fr c) e) (fr:=aY (aY fr c) e) (o:=o) ();simp only[xk,cx,uu,Km h hf,Qj,Km h (show m<=aY fr c by omega),Kl h hf hl hc,Kl h (show m<=aY fr c by omega) hl he,s1,s2,s3,XM,<- B9,B0]
 | .eF c ys ns,a,pl,fr,hr,hn,hl,hf=>by
  obtain⟨hc,hy,sv⟩:=hr;obtain⟨ny,nn⟩:fk ys/\fk ns:=hn;obtain⟨_,_,l1,l2,_⟩:=rX (a:=a) (fr:=fr) hW hb ys hy ny hl;have i1:=Kq h hW hb ys (a:=a) hy ny hl hf;obtain⟨_,_,k1,k2,_⟩:=rX (a:=a+(bf W bs ys a pl fr).1.length) (fr:=(bf W bs ys a pl fr).2.2.1) hW hb ns sv nn hl;have i2:=Kq h hW hb ns (a:=a+(bf W bs ys a pl fr).1.length) sv nn hl (show m<=(bf W bs ys a pl fr).2.2.1 by omega);simp only[xk] at i1 i2;simp only[xk,cx,i1,B0];rw[i2];generalize bf W bs ys a pl fr=y at *;generalize bf W bs ns (a+y.1.length) pl y.2.2.1=n at *;have f1:=(om (fr:=n.2.2.1) c).1;have hm:m<=n.2.2.1:=()
  obtain⟨u1,u2⟩:=Dz h (ps:=y.2.1) (qs:=n.2.1);have g0:=h.up (aY n.2.2.1 c) ();have g1:=h.up (aY n.2.2.1 c+1) ();have a1:aY n.2.2.1 c+d+1=aY n.2.2.1 c+1+d:=()
  have a2:aY n.2.2.1 c+d+2=aY n.2.2.1 c+2+d:=()
  simp only[Km h hm,Qj,Kl h hm hl hc,u1,u2,B0,B4,B9,a1,a2,Qe h (show m<=aY n.2.2.1 c+2 by omega),Xg h (show m<=aY n.2.2.1 c+2 by omega),<- g1,xb6,C0,Z0,qF,Lh,g0,C1,O8];refine yP rfl (yP rfl (yP ?_ rfl))
  show _+d+_=_+_+d
  omega
 | .gV _ _,a,pl,fr,hr,hn,hl,hf=>rfl
theorem Kq{bs:List Str}(h:u7 f m d)(hW:W<=16)(hb:bs.length<=6):∀(rs:List aq) {a:Nat} {pl:List Nat} {fr:Nat},dY W bs rs->fk rs->pl.length=bs.length->m<=fr->xk f d (bf W bs rs a pl fr) (bf W bs rs a (pl.map f) (fr+d))
 | [],a,pl,fr,_,_,_,_=>rfl
 | r::rs,a,pl,fr,hr,hn,hl,hf=>by
  obtain⟨h1,h2⟩:qI W bs r/\dY W bs rs:=hr;obtain⟨n1,n2⟩:uH r/\fk rs:=hn;obtain⟨_,_,l1,l2,_⟩:=ZE (a:=a) (fr:=fr) hW hb r h1 n1 hl;have i1:=wj9 h hW hb r (a:=a) h1 n1 hl hf;have i2:=Kq h hW hb rs (a:=a+(cx W bs r a pl fr).1.length) h2 n2 l2 (show m<=(cx W bs r a pl fr).2.2.1 by omega);simp only[xk] at i1 i2;simp only[xk,bf,i1,B0,i2,B9]
end
end
def LM(T:Nat->Prop):Row->Prop
 | .add x o=>¬ T x/\∀y,o=.box y->¬ T y
 | .take x o=>¬ T x/\∀y,o=.box y->¬ T y
 | .turn x _ cs=>¬ T x/\∀c∈cs,¬ T c.1
 | .swap x y=>¬ T x/\¬ T y
 | .go x _ _=>¬ T x
 | .aL x _ _=>¬ T x
theorem x15(h:∀x,¬ T (f x))(r:Row):LM T (qF f r):=by
 cases r with
 | add x o=>exact#[h x,λy e=>by cases o <;> cases e;exact h _]
 | take x o=>exact#[h x,λy e=>by cases o <;> cases e;exact h _]
 | turn x i cs=>exact#[h x,λc hc=>by obtain⟨c0,_,rfl⟩:=K2.mp hc;exact h _]
 | swap x y=>exact#[h x,h y]
 | go x n k=>exact h x
 | aL x n k=>exact h x
structure yK(T:Nat->Prop)(b b':List Int):Prop where
 len:b.length=b'.length
 eq:∀i,¬ T i->gt b i=gt b' i
theorem val_eq(h:yK T b b')(ho:∀y,o=.box y->¬ T y):val b o=val b' o:=by
 cases o with
 | num n=>rfl
 | box y=>exact h.eq y (ho y rfl)
theorem nT{T:Nat->Prop}{i x:Nat}(h:T i)(h':¬ T x):¬ i=x:=λe=>h' (e▸h)
theorem wf4(hf:LM T r)(h:yK T b b')(hr:r.ok b.length):yK T (cH 1 b r) (cH 1 b' r)/\∀i,T i->gt (cH 1 b' r) i=gt b' i:=by
 have hl:=h.len;cases r with
 | add x o =>
  obtain⟨f1,f2⟩:=hf;have hx:x<b.length:=hr.1;refine#[#[by rw[uC,uC,hl],λi hi=>?_],λi hi=>?_]
  ·rw[Dc hx,Dc (),h.eq x f1,val_eq h f2,h.eq i hi]
  ·rw[Dc (),if_neg (nT hi f1)]
 | take x o =>
  obtain⟨f1,f2⟩:=hf;have hx:x<b.length:=hr.1;refine#[#[by rw[uC,uC,hl],λi hi=>?_],λi hi=>?_]
  ·rw[Bt hx,Bt (),h.eq x f1,val_eq h f2,h.eq i hi]
  ·rw[Bt (),if_neg (nT hi f1)]
 | turn x j cs =>
  obtain⟨f1,f2⟩:=hf;have hx:x<b.length:=hr.1;have hc:con b cs=con b' cs:=by
   unfold con;rw[T9,M9,M9];exact#[λz c hc=>by rw[<- h.eq _ (f2 c hc)];exact z c hc,λz c hc=>by rw[h.eq _ (f2 c hc)];exact z c hc]
  refine#[#[by rw[uC,uC,hl],λi hi=>?_],λi hi=>?_]
  ·rw[Dh hx,Dh (),h.eq x f1,hc,h.eq i hi]
  ·rw[Dh (),if_neg (nT hi f1)]
 | swap x y =>
  obtain⟨f1,f2⟩:=hf;obtain⟨hx,hy,_⟩:x<b.length/\y<b.length/\y≠x:=hr;refine#[#[by rw[uC,uC,hl],λi hi=>?_],λi hi=>?_]
  ·show gt ((b.set x _).set y _) i=gt ((b'.set x _).set y _) i
   rw[lC (by rw[J5];exact hy),lC hx,lC (by rw[J5];omega),lC (),h.eq x f1,h.eq y f2,h.eq i hi]
  ·show gt ((b'.set x _).set y _) i=_
   rw[lC (by rw[J5];omega),lC (),if_neg (nT hi f2),if_neg (nT hi f1)]
 | go x n k=>exact#[h,λ_ _=>rfl]
 | aL x n k=>exact#[h,λ_ _=>rfl]
theorem XO(hp:Pairs rs)(hf:∀r∈rs,LM T r):∀{n s:Nat} {b b':List Int},jj sz rs b s->yK T b b'->(rn true rs n s b').1=(rn true rs n s b).1/\(rn true rs n s b').2.1=(rn true rs n s b).2.1/\yK T (rn true rs n s b).2.2 (rn true rs n s b').2.2/\∀i,T i->gt (rn true rs n s b').2.2 i=gt b' i
 | 0,s,b,b',_,h=>#[rfl,rfl,h,λ_ _=>rfl]
 | n+1,s,b,b',c,h=>by
  have hm:fj true rs b' s=fj true rs b s:=by
   show bu rs b' s=bu rs b s
   unfold bu;split
   ·rfl
   ·rename_i x n k e
    rw[h.eq x (hf _ (K4 e))]
   ·rfl
  cases hb:fj true rs b s with
  | false=>rw[xJ hb,xJ (hm.trans hb)];exact#[rfl,rfl,h,λ_ _=>rfl]
  | true =>
   rw[ux hb,ux (hm.trans hb)];have c2:=(Bh (fw:=true) hp c hb).1;have key:(dP true rs b' s).1=(dP true rs b s).1/\yK T (dP true rs b s).2 (dP true rs b' s).2/\∀i,T i->gt (dP true rs b' s).2 i=gt b' i:=by
    show(bV rs b' s).1=(bV rs b s).1/\yK T (bV rs b s).2 (bV rs b' s).2/\∀i,T i->gt (bV rs b' s).2 i=gt b' i
    unfold bV;split
    ·rename_i x n k e
     rw[h.eq x (hf _ (K4 e))];split <;> exact#[rfl,h,λ_ _=>rfl]
    ·rename_i r hr e
     have he:=K4 e;exact#[rfl,wf4 (hf _ he) h (by rw[c.bo.len];exact c.ro _ he)]
    ·exact#[rfl,h,λ_ _=>rfl]
   obtain⟨k1,k2,k3⟩:=key;obtain⟨i1,i2,i3,i4⟩:=XO hp hf (n:=n) c2 k2;rw[k1];exact#[congrArg (·+1) i1,i2,i3,λi hi=>(i4 i hi).trans (k3 i hi)]
theorem x31{b b':List Int}(h:b.length=b'.length)(e:∀i,gt b i=gt b' i):b=b' :=
 List.ext_getElem h λi h1 h2=>by rw[<- Bl h1,<- Bl h2];exact e i
inductive ji(rs:List Row)(z:Nat)(bz:List Int):Nat->List Int->Nat->Prop
 | done:ji rs z bz z bz 0
 | step {s:Nat} {bs:List Int} {d:Nat}:s<z->bu rs bs s=true->ji rs z bz (bV rs bs s).1 (bV rs bs s).2 d->ji rs z bz s bs (d+1)
theorem ji.trans(hz:y<=z)(h2:ji rs z bz y by_ d2):∀{s:Nat} {bs:List Int} {d1:Nat},ji rs y by_ s bs d1->ji rs z bz s bs (d2+d1)
 | _,_,_,.done=>h2
 | _,_,_,.step h m t=>.step (C9 h hz) m (ji.trans hz h2 t)
abbrev dh(W:List Row)(a:Nat)(rs:List Row):Prop:=∀(j:Nat) (row:Row),rs[j]?=some row->W[a+j]?=some (mv a row)
theorem ji.seg(hw:dh W a rs)(hp:Pairs rs):∀{n s:Nat} {b b':List Int},jj sz rs b s->rn true rs n s b=(n,rs.length,b')->ji W (a+rs.length) b' (a+s) b n
 | 0,s,b,b',_,h=>by
  have h:(0,s,b)=(0,rs.length,b'):=h;cases h;exact .done
 | n+1,s,b,b',c,h=>by
  cases hm:fj true rs b s with
  | false=>rw[xJ hm] at h;cases h
  | true =>
   have hs:s<rs.length:=by
    rcases Cw s rs.length with z|z
    ·exact z
    ·have e:s=rs.length:=Nat.le_antisymm c.le z
     have:bu rs b s=false:=by rw[e];exact GX
     have hm:bu rs b s=true:=hm;rw[this] at hm;cases hm
   obtain⟨p1,p2⟩:=xa4 (r:=[]) hw c hs;rw[E4] at p1 p2;have p2:=p2 hm;rw[E4] at p2;rw[ux hm] at h;have h:((rn true rs n (bV rs b s).1 (bV rs b s).2).1+1,(rn true rs n (bV rs b s).1 (bV rs b s).2).2)=(n+1,rs.length,b'):=h;rw[C44] at h;refine .step () (p1.trans hm) ?_;rw[p2];exact ji.seg hw hp (Bh hp c hm).1 (yP (O4 h.1) h.2)
theorem XQ(hp:Pairs rs):∀{n s:Nat} {b:List Int},jj sz rs b s->rn true (iK rs) n (rs.length-s) b=((rn false rs n s b).1,rs.length-(rn false rs n s b).2.1,(rn false rs n s b).2.2)
 | 0,_,_,_=>rfl
 | n+1,s,b,c=>by
  obtain⟨t1,t2⟩:=Rr (bs:=b) hp c.le;cases hm:fj false rs b s with
  | false=>rw[xJ hm,xJ (fw:=true) (t1.trans hm)]
  | true =>
   have e:dP true (iK rs) b (rs.length-s)=(rs.length-(dP false rs b s).1,(dP false rs b s).2):=t2 hm;rw[ux hm,ux (fw:=true) (t1.trans hm),e,XQ hp (Bh hp c hm).1]
theorem w92(hp:Pairs rs)(c:jj sz rs b 0)(h:rn true rs n 0 b=(n,rs.length,b')):rn true (iK rs) n 0 b'=(n,(iK rs).length,b):=by
 have c1:jj sz rs b' rs.length:=by
  have:=XN (fw:=true) hp (n:=n) c;rw[h] at this;exact this
 have f3:=Zs hp (n:=n) n c (by rw[h];exact B8 _);rw[h] at f3;rw[show n-(n,rs.length,b').1=0 by show n-n=0;omega] at f3;have f3:rn false rs n rs.length b'=(n+0,0,b):=f3;have f2:=XQ hp (n:=n) c1;rw[U4,f3] at f2;rw[xK];exact f2
def cZ(add:Bool)(aN:Nat)(pl:List Nat):List Row:=(D1 pl.length).map λj=>if add=true then Row.add (aN+j) (.box (pl.getD j 0)) else Row.take (aN+j) (.box (pl.getD j 0))
theorem Kb{pl:List Nat}(hz:aN+pl.length<=sz)(hd:∀p∈pl,p<sz/\(p<aN\/aN+pl.length<=p)):∀r∈cZ add aN pl,tg 0 sz r:=by
 intro r hr;obtain⟨j,hj,rfl⟩:=K2.mp hr;have hj:=K0.mp hj;have hg:pl.getD j 0∈pl:=by rw[J0,B7 hj];exact N0 hj
 obtain⟨d1,d2⟩:=hd _ hg;have ho:nY.ok sz (aN+j) (.box (pl.getD j 0)):=#[d1,()];split
 ·exact#[J8 _,(),ho]
 ·exact#[J8 _,(),ho]
theorem ZM:∀{ts:List Row} {b:List Int},(∀r∈ts,∃x o,(r=.add x o\/r=.take x o)/\aN<=x/\x<aN+m)->aN+m<=b.length->∀i,i<aN\/aN+m<=i->gt (jK ts b) i=gt b i
 | [],_,_,_,_,_=>rfl
 | r::ts,b,h,hb,i,hi=>by
  obtain⟨x,o,e,h1,h2⟩:=h r D3;rw[KR,ZM (λr hr=>h r (C7 _ hr)) (by rw[uC];exact hb) i hi]
  rcases e with rfl|rfl
  ·rw[Dc (),if_neg ()]
  ·rw[Bt (),if_neg ()]
theorem YU{pl:List Nat}(hb:cM sz b)(hz:aN+pl.length<=sz)(hd:∀p∈pl,p<sz/\(p<aN\/aN+pl.length<=p)):cM sz (jK (cZ add aN pl) b)/\∀i,i<aN\/aN+pl.length<=i->gt (jK (cZ add aN pl) b) i=gt b i :=
 ⟨(QV (Kb hz hd) hb (B8 _)).1,ZM (λr hr=>by
  obtain⟨j,hj,rfl⟩:=K2.mp hr;have hj:=K0.mp hj;refine#[aN+j,.box (pl.getD j 0),?_,(),()];cases add
  ·exact .inr rfl
  ·exact .inl rfl) (by rw[hb.len];exact hz)⟩
structure nC(W:Nat)(bs:List Str)(rs:List aq):Prop where
 nb:bs.length<=6
 nd:bs.Nodup
 ok:dY W bs rs
 nt:fk rs
 dp:aS rs<=6
 sz:22*cf rs<=3960
 hW:W<=16
def kr(W:Nat)(bs:List Str)(rs:List aq):Nat:=(bf W bs rs 0 (D1 bs.length) bs.length).2.2.2
def bS(src m:Nat):List Nat:=(D1 m).map λj=>src+j
def fL(add:Bool)(W:Nat)(bs:List Str)(rs:List aq)(src aN fr:Nat):List Row :=
 iT [] [(bf W bs rs 0 (bS src bs.length) fr).1,cZ add aN (bf W bs rs 0 (bS src bs.length) fr).2.1,iK (bf W bs rs 0 (bS src bs.length) fr).1]
theorem xb0:mv a (mv b r)=mv (a+b) r:=by
 cases r <;> first|rfl|(show Row.go _ _ _=Row.go _ _ _;congr 1;omega)|(show Row.aL _ _ _=Row.aL _ _ _;congr 1;omega)
theorem Ky:∀{cs:List (List Row)} {a:List Row},(iT a cs).length=a.length+(cs.map F9).sum
 | [],a=>rfl
 | c::cs,a=>by rw[iT,Ky,KL,C0,N1];omega
theorem dh.part(h:dh W a (iT acc (c::L))):dh W (a+acc.length) c/\dh W a (iT (dG acc c) L) :=
 #[λj row e=>by rw[K5,<- xb0];exact h _ _ (wz7 e),h]
theorem Qx{b:List Int}(h:b.length<=i):gt b i=0:=by
 unfold gt;rw[J0,L9 h];rfl
theorem Sm(hX:cM sz X)(hY:cM sz Y):∃Z,cM sz Z/\∀i,gt Z i=if t<=i/\i<t+m then gt Y i else gt X i:=by
 refine#[(D1 sz).map λi=>if t<=i/\i<t+m then gt Y i else gt X i,#[by simp,λv hv=>?_],λi=>?_]
 ·obtain⟨i,hi,rfl⟩:=K2.mp hv
  have hi:=K0.mp hi;split
  ·exact ze hY hi
  ·exact ze hX hi
 ·rcases Cw i sz with z|z
  ·rw[Bl (by simpa using z),List.getElem_map,List.getElem_range]
  ·rw[Qx (by simpa using z),Qx (b:=Y) (by rw[hY.len];exact z),Qx (b:=X) (by rw[hX.len];exact z),ite_self]
theorem KS(t m:Nat):(bS t m).length=m:=by unfold bS;rw[B0,D9]
theorem QD(h:t+m<=fr)(hp:p∈bS t m):p<fr:=by
 obtain⟨j,hj,rfl⟩:=K2.mp hp;have:=K0.mp hj;omega
section
variable{W src aN fr sz:Nat}{bs:List Str}{rs:List aq}
theorem wm2(hs:src+bs.length<=fr):u7 (λx=>if x<bs.length then src+x else x+(fr-bs.length)) bs.length (fr-bs.length) :=
 #[λx y e=>by
  split at e <;> split at e <;> omega,λx hx=>if_neg ()]
theorem YA(ok:nC W bs rs)(hs:src+bs.length<=fr):(bf W bs rs 0 (bS src bs.length) fr).2.2.2=kr W bs rs/\(∀p∈(bf W bs rs 0 (bS src bs.length) fr).2.1,src<=p/\p<src+bs.length\/fr<=p)/\∀T:Nat->Prop,(∀x,src<=x->x<src+bs.length->¬ T x)->(∀x,fr<=x->¬ T x)->∀r∈(bf W bs rs 0 (bS src bs.length) fr).1,LM T r:=by
 have h:=Kq (wm2 hs) ok.hW ok.nb rs (a:=0) (pl:=D1 bs.length) (fr:=bs.length) ok.ok ok.nt (D9) (B8 _);have e1:(D1 bs.length).map (λx=>if x<bs.length then src+x else x+(fr-bs.length))=bS src bs.length:=K9 λx hx=>if_pos (K0.mp hx)
 rw[e1,show bs.length+(fr-bs.length)=fr by omega] at h;simp only[xk] at h;rw[h];refine#[rfl,λp hp=>?_,λT t1 t2 r hr=>?_]
 ·obtain⟨x,_,rfl⟩:=K2.mp hp
  split <;> omega
 ·obtain⟨r0,_,rfl⟩:=K2.mp hr
  refine x15 (λx=>?_) r0;split
  ·exact t1 _ () ()
  ·exact t2 _ ()
theorem vn3(ok:nC W bs rs)(hs:src+bs.length<=fr)(ht:aN+bs.length<=fr)(hd:src+bs.length<=aN\/aN+bs.length<=src)(hz:(bf W bs rs 0 (bS src bs.length) fr).2.2.1<=sz)(hX:cM sz X)(h0:∀i,fr<=i->gt X i=0) :
  ∃X',cM sz X'/\(∀i,fr<=i->gt X' i=0)/\∀(Wh:List Row) (a:Nat),dh Wh a (fL add W bs rs src aN fr)->ji Wh (a+(fL add W bs rs src aN fr).length) X' a X (2*kr W bs rs+bs.length):=by
 obtain⟨s1,s2,s3⟩:=YA ok hs;obtain⟨wk,l4,RZ⟩:=qB (a:=0) ok.hW rs ok.ok ok.nt (KS src bs.length) (fr:=fr) (λp hp=>QD hs hp);unfold fL;generalize (bf W bs rs 0 (bS src bs.length) fr)=Z at *;have l3:=wk.le;have hp:=wk.pr.pairs;have LH:At Z.1 0 Z.1:=λj r e=>by rw[L0];exact e
 obtain⟨X1,b1,q1,_,q3⟩:=wk.run sz Z.1 X LH hX hz h0 trivial;have q3:=q3 0;rw[My,L0] at q3;have q3:rn true Z.1 Z.2.2.2 0 X=(Z.2.2.2,Z.1.length,X1):=q3;have Lg:∀r∈Z.1,r.ok sz:=λr hr=>QS (wk.ok r hr) hz
 have jx:∀p∈Z.2.1,p<sz/\(p<aN\/aN+Z.2.1.length<=p):=λp hp=>by
  have:=s2 p hp;have:=RZ p hp;rw[l4];omega
 obtain⟨c1,c2⟩:=YU (add:=add) (aN:=aN) b1 (by rw[l4];omega) jx;have yi:=Kb (add:=add) (aN:=aN) (sz:=sz) (by rw[l4];omega) jx;have Hc:∀r∈cZ add aN Z.2.1,r.plain=true:=λr hr=>Bz (yi r hr)
 generalize hX2:jK (cZ add aN Z.2.1) X1=X2 at *;rw[l4] at c2;obtain⟨X3,x1,x2⟩:=Sm (t:=aN) (m:=bs.length) hX c1;have ex:yK (λi=>aN<=i/\i<aN+bs.length) X X3:=#[by rw[hX.len,x1.len],λi hi=>by rw[x2,if_neg hi]];obtain⟨f1,f2,f3,f4⟩:=XO hp (s3 (λi=>aN<=i/\i<aN+bs.length) (λx _ _=>()) λx _=>()) (n:=Z.2.2.2) (s:=0) #[hX,Lg,J8 _] ex;rw[q3] at f1 f2 f3;have e3:rn true Z.1 Z.2.2.2 0 X3=(Z.2.2.2,Z.1.length,X2):=yP f1 (yP f2 (x31 (by rw[<- f3.len,c1.len];exact b1.len) λi=>by
  by_cases q:aN<=i/\i<aN+bs.length
  ·rw[f4 i q,x2,if_pos q]
  ·rw[<- f3.eq i q,c2 i ()]))
 have e4:=w92 hp #[x1,Lg,J8 _] e3;refine#[X3,x1,λi hi=>by rw[x2,if_neg ()];exact h0 i hi,λWh a hw=>?_];obtain⟨h1,hw⟩:=hw.part;obtain⟨h2,hw⟩:=hw.part;obtain⟨h3,_⟩:=hw.part;have F1:=ji.seg h1 hp #[hX,Lg,J8 _] q3;have F2:=ji.seg (n:=(cZ add aN Z.2.1).length) h2 (BD Hc) #[b1,λr hr=>v20 (yi r hr) (B8 _),J8 _] (QR Hc 0 _ 0 X1 rfl (L0 _));have F3:=ji.seg h3 (uq0 hp) #[c1,Yy Lg,J8 _] e4;have lc:(cZ add aN Z.2.1).length=bs.length:=by unfold cZ;rw[B0,D9,l4]
 rw[hX2] at F2;rw[lc] at F2;simp only[KL,lc,xK,O8,My,L0] at F1 F2 F3;rw[Ky,C0,C0,C0,Z0,xK,lc,N1,N1,N1,C69,O8];rw[show a+(0+(Z.1.length+(bs.length+(Z.1.length+0))))=a+(Z.1.length+bs.length)+Z.1.length by omega,show 2*kr W bs rs+bs.length=Z.2.2.2+bs.length+Z.2.2.2 by rw[s1];omega];refine ji.trans () (ji.trans () F3 ?_) F1;rw[K5] at F2;exact F2
end
def df(w:Str)(k:Nat):D:=.tup [.str w,.int (k:Int)]
def pR(W:Nat)(bs:List Str)(p:List aq):Int:=((2*kr W bs p+bs.length:Nat):Int)
inductive qr(W:Nat)(bs:List Str)(rs:List aq)(src aN fr:Nat):D->List Row->Nat->Prop
 | lay {k:Nat}:qr W bs rs src aN fr (df "lay" k) (fL true W bs rs src aN fr) (bf W bs rs 0 (bS src bs.length) fr).2.2.1
 | clear {k:Nat}:qr W bs rs src aN fr (df "clear" k) (fL false W bs rs src aN fr) (bf W bs rs 0 (bS src bs.length) fr).2.2.1
 | Ld:qr W bs rs src aN fr (.tup [.str "show"]) ((D1 bs.length).map λj=>Row.add (bs.length+j) (.box (aN+j))) (aN+bs.length)
def ku(m k:Nat):Nat:=if k=1 then 0 else k*m
structure tV(W:Nat)(bs:List Str)(PP:List (List aq)):Prop where
 ok:∀p∈PP,nC W bs p/\22*cf p<=440
 hW:1<=W
 hb:1<=bs.length
 B':bs.length<=6
def js(n s:Nat):Nat->Bool->List (D×Nat)->Prop
 | l,b,[]=>b=true/\l=0
 | l,b,(mv,l')::r=>mv=df "lay" (l+1)/\l'=l+1/\l<s/\l+1<=n/\js n s l' b r\/mv=df "clear" l/\l=l'+1/\l<=n/\js n s l' b r\/mv=.tup [.str "show"]/\l'=l/\l=n/\b=false/\js n s l' true r
def lr(W:Nat)(bs:List Str)(PP:List (List aq))(m fr:Nat):Nat->List (D×Nat)->List bY->Prop
 | _,[],cs=>cs=[]
 | l,(mv,l')::r,cs=>∃c t,cs=c::t/\qr W bs (PP.getD (max l l'-1) []) (ku m (max l l')) ((max l l'+1)*m) fr mv c.rs c.sz/\lr W bs PP m fr l' r t
theorem lr.len:∀{st:List (D×Nat)} {l:Nat} {cs:List bY},lr W bs PP m fr l st cs->cs.length=st.length
 | [],_,cs,h=>by
  have h:cs=[]:=h;rw[h];rfl
 | (mv,l')::r,_,_,⟨c,t,e,_,h⟩=>by rw[e];exact congrArg (·+1) (lr.len h)
def l_(m k:Nat):Nat:=if k=0 then 0 else(k+1)*m
structure Lv(fr sz:Nat)(X:List Int):Prop where
 ok:cM sz X
 z:∀i,fr<=i->gt X i=0
def jA(W:Nat)(bs:List Str)(PP:List (List aq))(l l':Nat):Nat:=if l=l' then bs.length else 2*kr W bs (PP.getD (max l l'-1) [])+bs.length
section
variable{W:Nat}{bs:List Str}{PP:List (List aq)}
theorem getD_mem(h:k<PP.length):PP.getD k []∈PP:=by
 rw[J0,B7 h];exact N0 h
theorem Kj(h:k<=n):l_ m k+m<=(2+n)*m:=by
 unfold l_;split
 ·exact D6 () (N4 m (show 1<=2+n by omega))
 ·rw[<- Cy];exact N4 m ()
theorem ur4(h:j<k):l_ m j+m<=l_ m k:=by
 unfold l_;rw[if_neg (show¬ k=0 by omega)];split
 ·rw[L0];exact D6 () (N4 m (show 1<=k+1 by omega))
 ·rw[<- Cy];exact N4 m ()
theorem Zj(h:k≠0):2*m<=l_ m k:=by
 unfold l_;rw[if_neg h];exact N4 m ()
theorem ux5:ku m (k+1)=l_ m k:=by
 unfold ku l_
 by_cases h:k=0
 ·rw[if_pos (),if_pos h]
 ·rw[if_neg (),if_neg h]
theorem Lv.step{fr sz csz l l':Nat}{X:List Int}{mv:D}{rows:List Row}(hP:tV W bs PP)(rL:fr=(2+PP.length)*bs.length)(L:Lv fr sz X)(mc:qr W bs (PP.getD (max l l'-1) []) (ku bs.length (max l l')) ((max l l'+1)*bs.length) fr mv rows csz)(hz:csz<=sz)
  (ho:mv=df "lay" (l+1)/\l'=l+1/\l+1<=PP.length\/mv=df "clear" l/\l=l'+1/\l<=PP.length\/mv=.tup [.str "show"]/\l'=l/\l=PP.length/\1<=l) :
  ∃X',Lv fr sz X'/\∀(Wh:List Row) (a:Nat),dh Wh a rows->ji Wh (a+rows.length) X' a X (jA W bs PP l l'):=by
 obtain⟨k,hk,Gy⟩:∃k,max l l'=k+1/\k+1<=PP.length:=#[max l l'-1,by rcases ho with⟨_,_,_⟩|⟨_,_,_⟩|⟨_,_,_,_⟩ <;> omega,by rcases ho with⟨_,_,_⟩|⟨_,_,_⟩|⟨_,_,_,_⟩ <;> omega];rw[hk,ux5,show(k+1+1)*bs.length=l_ bs.length (k+1) from(if_neg ()).symm,K7] at mc;have f1:=Kj (m:=bs.length) (k:=k) (n:=PP.length) ();have f2:=Kj (m:=bs.length) Gy;have f3:=ur4 (m:=bs.length) (show k<k+1 by omega);have f4:=Zj (m:=bs.length) (k:=k+1) ();have hd:l≠l'->jA W bs PP l l'=2*kr W bs (PP.getD k [])+bs.length:=λh=>by unfold jA;rw[if_neg h,hk];rfl
 have mk:∀add,(bf W bs (PP.getD k []) 0 (bS (l_ bs.length k) bs.length) fr).2.2.1<=sz->l≠l'->∃X',Lv fr sz X'/\∀(Wh:List Row) (a:Nat),dh Wh a (fL add W bs (PP.getD k []) (l_ bs.length k) (l_ bs.length (k+1)) fr)->ji Wh (a+(fL add W bs (PP.getD k []) (l_ bs.length k) (l_ bs.length (k+1)) fr).length) X' a X (jA W bs PP l l'):=λadd hz h=>by
  obtain⟨X',x1,x2,x3⟩:=vn3 (add:=add) (hP.ok _ (getD_mem Gy)).1 () () (.inl f3) hz L.ok L.z;rw[hd h];exact#[X',#[x1,x2],x3]
 rcases ho with⟨rfl,h1,_⟩|⟨rfl,h1,_⟩|⟨rfl,h1,_,_⟩
 ·cases mc
  exact mk true hz ()
 ·cases mc
  exact mk false hz ()
 ·cases mc
  rw[show jA W bs PP l l'=bs.length from if_pos h1.symm];generalize l_ bs.length (k+1)=tg at *;have lp:=KS tg bs.length;have er:((D1 bs.length).map λj=>Row.add (bs.length+j) (.box (tg+j)))=cZ true bs.length (bS tg bs.length):=by
   unfold cZ;rw[lp];exact K9 λj hj=>by
    rw[if_pos rfl,J0,bS,F0,Z5 (K0.mp hj)];rfl
  rw[er];have jx:∀p∈bS tg bs.length,p<sz/\(p<bs.length\/bs.length+(bS tg bs.length).length<=p):=λp hp=>by
   obtain⟨j,hj,rfl⟩:=K2.mp hp;have:=K0.mp hj;rw[lp];omega
  obtain⟨c1,c2⟩:=YU (add:=true) (aN:=bs.length) L.ok (by rw[lp];omega) jx;have yi:=Kb (add:=true) (aN:=bs.length) (sz:=sz) (by rw[lp];omega) jx;have Hc:∀r∈cZ true bs.length (bS tg bs.length),r.plain=true:=λr hr=>Bz (yi r hr)
  have lc:(cZ true bs.length (bS tg bs.length)).length=bs.length:=by unfold cZ;rw[B0,D9,lp]
  rw[lp] at c2;refine#[_,#[c1,λi hi=>by rw[c2 i ()];exact L.z i hi],λWh a hw=>?_];have F:=ji.seg (n:=(cZ true bs.length (bS tg bs.length)).length) hw (BD Hc) #[L.ok,λr hr=>v20 (yi r hr) (B8 _),J8 _] (QR Hc 0 _ 0 X rfl (L0 _));rw[lc] at F⊢;exact F
theorem qr.good{rs:List aq}{src aN fr sz:Nat}{mv:D}{rows:List Row}(ok:nC W bs rs)(h4:22*cf rs<=440)(hs:src+bs.length<=fr)(ht:aN+bs.length<=fr)(h2:2*bs.length<=aN)(hd:src+bs.length<=aN\/aN+bs.length<=src)(hf:fr<=800)(mc:qr W bs rs src aN fr mv rows sz):Pairs rows/\(∀r∈rows,r.ok sz)/\rows.length<=1000/\bs.length<=sz/\sz<=1000:=by
 have hb:=ok.nb;have key:∀add,Pairs (fL add W bs rs src aN fr)/\(∀r∈fL add W bs rs src aN fr,r.ok (bf W bs rs 0 (bS src bs.length) fr).2.2.1)/\(fL add W bs rs src aN fr).length<=1000/\bs.length<=(bf W bs rs 0 (bS src bs.length) fr).2.2.1/\(bf W bs rs 0 (bS src bs.length) fr).2.2.1<=1000:=by
  intro add;obtain⟨s1,s2,s3⟩:=YA ok hs;obtain⟨wk,l4,RZ⟩:=qB (a:=0) ok.hW rs ok.ok ok.nt (KS src bs.length) (fr:=fr) (λp hp=>QD hs hp);have wl:=rX (a:=0) (fr:=fr) ok.hW ok.nb rs ok.ok ok.nt (KS src bs.length);unfold fL;generalize (bf W bs rs 0 (bS src bs.length) fr)=Z at *;obtain⟨l1,l2,l3,_,_⟩:=wl;have hp:=wk.pr.pairs;have yi:=Kb (add:=add) (aN:=aN) (sz:=Z.2.2.1) (pl:=Z.2.1) (by rw[l4];omega) λp hp=>by
   have:=s2 p hp;have:=RZ p hp;rw[l4];omega
  have lc:(cZ add aN Z.2.1).length=bs.length:=by unfold cZ;rw[B0,D9,l4]
  refine#[Rc (BD λ_ h=>nomatch h) λr hr=>?_,P_ (λ_ h=>nomatch h) λr hr=>?_,?_,(),()]
  ·simp only[E6,O0,or_false] at hr
   rcases hr with rfl|rfl|rfl
   ·exact hp
   ·exact BD λr hr=>Bz (yi r hr)
   ·exact uq0 hp
  ·simp only[E6,O0,or_false] at hr
   rcases hr with rfl|rfl|rfl
   ·exact wk.ok
   ·exact λr hr=>v20 (yi r hr) (B8 _)
   ·exact Yy wk.ok
  ·rw[Ky,C0,C0,C0,Z0,xK,lc,N1,N1,N1,C69,O8]
   omega
 cases mc with
 | lay=>exact key true
 | clear=>exact key false
 | Ld =>
  refine#[BD λr hr=>?_,λr hr=>?_,by rw[B0,D9];omega,(),()]
  ·obtain⟨j,_,rfl⟩:=K2.mp hr;rfl
  ·obtain⟨j,hj,rfl⟩:=K2.mp hr
   have:=K0.mp hj;exact#[(),(),()]
theorem lr.good{s:Nat}(hP:tV W bs PP)(hn:1<=PP.length)(hn4:PP.length<=4):∀{st:List (D×Nat)} {l:Nat} {b:Bool} {cs:List bY},js PP.length s l b st->l<=PP.length->lr W bs PP bs.length ((2+PP.length)*bs.length) l st cs->∀c∈cs,Pairs c.rs/\(∀r∈c.rs,r.ok c.sz)/\c.rs.length<=1000/\bs.length<=c.sz/\c.sz<=1000
 | [],_,_,cs,_,_,h,c,hc=>by
  have h:cs=[]:=h;subst h;cases hc
 | (mv,l')::r,l,b,_,ho,hl,⟨c0,t,e,mc,h⟩,c,hc=>by
  subst e;obtain⟨b',kS,kT,hk⟩:∃b',js PP.length s l' b' r/\l'<=PP.length/\1<=max l l':=by
   rcases ho with⟨_,rfl,_,h2,h3⟩|⟨_,rfl,h1,h3⟩|⟨_,rfl,rfl,_,h3⟩
   ·exact⟨_,h3,h2,()⟩
   ·exact⟨_,h3,(),()⟩
   ·exact⟨_,h3,hl,()⟩
  rcases E6.mp hc with rfl|hc
  ·obtain⟨k,hk⟩:∃k,max l l'=k+1:=#[max l l'-1,()]
   rw[hk,ux5,show(k+1+1)*bs.length=l_ bs.length (k+1) from(if_neg ()).symm,K7] at mc;have Gy:k+1<=PP.length:=()
   have hm:=hP.ok _ (getD_mem Gy);exact qr.good hm.1 hm.2 (Kj ()) (Kj Gy) (Zj ()) (.inl (ur4 ())) (D6 (MO (show 2+PP.length<=6 by omega) hP.B') ∅) mc
  ·exact lr.good hP hn hn4 kS kT h c hc
end
end Law
namespace L2
open PySem PySem.Spec PyProof.Rows
section
variable{X:Cx}{tg:Expr}
theorem XR{lo hi:Int}:O5 lo hi (-1)=(((lo-hi).toNat:Nat):Int):=by
 unfold O5;rw[if_neg ∅];split
 ·simp;omega
 ·omega
theorem ut8{a b:Int}(ha:-(2^40)<=a)(ha':a<2^40)(hb:-(2^40)<=b)(GJ:b<2^40):B55 a b (-1)=true:=by
 have h:=XR (lo:=a) (hi:=b);have fits:∀x:Int,-(2^42)<=x->x<=2^42->A54 x=true:=by
  intro x h1 h2;unfold A54;simp;omega
 unfold B55;rw[fits a () (),fits b () (),fits (-1) () (),fits _ () (),if_neg ∅,fits _ () ()];simp
theorem v89{pins:List (Addr×Obj)}{σ:St}{H:Hp}{s:Shared}{R:It->Hp->Prop}{E:Value->Shared->Prop}{lo hi:Int}{t u v:Tok}{tk:Nat}(I:Inv X pins σ H s)(h1:-(2^40)<=lo)(h2:lo<2^40)(h3:-(2^40)<=hi)(h4:hi<2^40)
  (q:R (xn lo (-1) (lo-hi).toNat) H):wpAny (model X.prog X.w) X.A (pyIter (.ref s.heap.objs.size)) (UD X pins σ tg R) E { s with heap:=s.heap.push { cls:=.type "range",data:=.fields [.int lo t,.int hi u,.int (-1) v].toArray},toks:=tk}:=by
 refine wpAny_pyIter_range (Mt ..) (ut8 h1 h2 h3 h4) ?_;have I1:Inv X pins σ H { s with heap:=s.heap.push { cls:=.type "range",data:=.fields [.int lo t,.int hi u,.int (-1) v].toArray},toks:=tk}:=I.kept λb o e=>B6 _ e
 refine#[(s.heap.push { cls:=.type "range",data:=.fields [.int lo t,.int hi u,.int (-1) v].toArray}).objs.size,[(s.heap.push { cls:=.type "range",data:=.fields [.int lo t,.int hi u,.int (-1) v].toArray}).objs.size],_,_,H,rfl,
  I1.kept (t':=tk) λb o e=>B6 _ e,ut6 _ lo (-1) _,?_,λb hb=>?_,q]
 ·have e1:lo+((0:Nat):Int)*(-1)=lo:=by simp
  have e2:=XR (lo:=lo) (hi:=hi)
  show Mq _ _ (lo+((0:Nat):Int)*(-1)) ((((lo-hi).toNat:Nat):Int)-((0:Nat):Int)) (-1)
  rw[e1,<- e2,show(O5 lo hi (-1)-((0:Nat):Int))=O5 lo hi (-1) by simp];exact D4 _ rfl
 ·have e:b=(s.heap.push { cls:=.type "range",data:=.fields [.int lo t,.int hi u,.int (-1) v].toArray}).objs.size:=by simpa using hb
  subst e;exact I1.kY (B8 _) (I1.az.fresh (B8 _))
def WT(ta:TA):TI:=λσ H R=>ta σ H λvs H1=>∃i j:Int,vs=[.int i,.int j,.int (-1)]/\(-(2^40)<=i/\i<2^40/\-(2^40)<=j/\j<2^40)/\R (xn i (-1) (i-j).toNat) H1
theorem v96(hg:Gl X "range")(hm:X.mg "range" = none)(ha:PA X [a,b,d] ta)(hs:C5 [a,b,d] X.env=(false,eval a X.env)::C5 [b,d] X.env:=by rfl)(cy:(backTo pos (C5 [b,d] X.env)).any (·.1)=false:=by rfl) :
  PI X tg (.Call (.Name "range" p) [a,b,d] [] pos) (WT ta):=by
 intro pins s σ H R I h;refine Call_ (oj I hg hm Jv (J1 (a_ (ha pos pins s σ H _ I h) λus s1 ⟨vs,H1,I1,r1,q1⟩=>?_) hs cy));obtain⟨i,j,e,⟨q1,q2,q3,q4⟩,q⟩:=q1;subst e;cases r1 with
 | cons r rr =>
  cases rr with
  | cons r' rr =>
   cases rr with
   | cons r'' rr =>
    cases rr;obtain⟨t,rfl⟩:=r;obtain⟨t',rfl⟩:=r';obtain⟨t'',rfl⟩:=r'';exact call_range_3 () (v89 I1 q1 q2 q3 q4 q) (.inl (A86 (Vm ((C82 ()).mpr (show(-1:Int).natAbs<2^50 by decide)) ∅)))
end
end L2
namespace L3
open PySem PySem.Spec PyProof.Rows L2
def PH(ta:dz):pW:=λσ G r=>ta σ G λds G1=>match ds with|[.int i,.int j,.int (-1)]=>(-(2^40)<=i/\i<2^40/\-(2^40)<=j/\j<2^40)/\r #[ib i (-1) (i-j).toNat,λ_=>True] G1|_=>False
theorem vb9{K:W.Frag}{σ:L2.St}{H:Hp}{ta:dz}{R:It->Hp->Prop}(h:kQ K (PH ta) σ H R):WT (dE K ta) σ H R:=by
 obtain⟨σd,G,q,rs,c,t,f⟩:=h;refine#[σd,G,_,rs,c,t,λds G1 vs H1 r1 c1 l1 t1=>?_];split at t1
 ·rename_i i j
  obtain⟨x,r,rfl,rx,rr⟩:=r1.aj;obtain⟨y,r',rfl,ry,jJ⟩:=rr.aj;obtain⟨z,r'',rfl,rz,rr3⟩:=jJ.aj;rw[ae] at rx ry rz;subst rx ry rz;rw[rr3.aR];exact#[i,j,rfl,t1.1,f _ _ _ _ v35 c1 l1 t1.2]
 ·exact t1.elim
theorem x07(hg:Gl X "range")(hm:X.mg "range" = none)(ha:A3 X [a,b,d] ts)(hs:C5 [a,b,d] X.env=(false,eval a X.env)::C5 [b,d] X.env:=by rfl)(cy:(backTo pos (C5 [b,d] X.env)).any (·.1)=false:=by rfl) :
  I3 X tg (.Call (.Name "range" p) [a,b,d] [] pos) (PH ts):=xD (v96 hg hm ha hs cy) λ_ _ _=>vb9
end L3
namespace L2
open PySem PySem.Spec PyProof.Rows
section
variable{X:Cx}
theorem ve1{P:Program}{w:World}{ns:List Int}{vs:List (Key×Value)}(hk:vs.map (·.1)=ns.map L7){us:List Value}(hl:us.length=vs.length)(hu:∀(j:Nat) (v:Value),us[j]?=some v->∃k x,vs[j]?=some (k,x)/\(dX P w).is k v=true):u_ us ns:=by
 induction ns generalizing vs us with
 | nil =>
  have:vs=[]:=by simpa using hk
  subst this;have:us=[]:=by simpa using hl
  subst this;exact .nil
 | cons n ns ih =>
  match vs,hk,us,hl with
  | (k,x)::vs,hk,u::us,hl =>
   rw[C0,C0,V1] at hk;obtain⟨k',x',e,hi⟩:=hu 0 u rfl;cases e;obtain rfl:k=.inl n:=hk.1;obtain⟨t,rfl⟩:=(show∃t,u=.int n t from WV hi);exact .cons n t (ih hk.2 (by simpa using hl) λj v hv=>hu (j+1) v (by simpa using hv))
theorem us1(hh:X.A.handled=none):bK X (.builtin "sorted") (λxs H Q=>∃(p:Addr) (ns:List Int) (kvs:List (Key×V)),xs=[.ref p]/\kvs.map (·.1)=ns.map L7/\H p=some (.dK kvs)/\ns.length<64/\∀(l:Addr) (rF:List Int),H l=none->rF.Perm ns->rF.Pairwise (·<=·)->Q (.ref l) (upd H l (.lst (rF.map V.int)))):=by
 intro pins s σ H xs us Q I r h;obtain⟨p,ns,kvs,rfl,hk,hd,TU,q⟩:=h;obtain⟨u,rfl,rx⟩:=vals1 r;cases rx;refine Calls.call_function_entry kind_sorted plain_sorted entry_sorted (args_sorted1 _) ?_;unfold Builtin.«sorted»;obtain⟨z,hd2,vs,rel,dd⟩:=vt I.az (.inl hd);obtain⟨o,es,ep,ho,hc,eQ,yb,hp,hn⟩:=id dd;have wH:=rel.keys;have uO:=rel.length;refine B5 (m:=checkCount "sorted" 1 1 _) (C2 (B5 (W.kdu_collect (A:=X.A.in1) (W.kdl_dict (kvs:=vs) (ep:=ep) hd2) hh #[o,es,ho,hc,eQ,yb,hp,hn] () λh' tk acc rK sy=>?_)));have GL:acc.toList.length=vs.length:=by rw[K8];exact sy.1
 have hi:=ve1 (P:=X.prog) (w:=X.w) (ns:=ns) (by rw[<- wH];exact hk) GL λj v e=>sy.2 j v (by rw[<- Y3];exact e)
 have hz:acc.toList.length<=sizeLine:=()
 have I1:Inv X pins σ H { s with heap:=h',toks:=tk}:=I.kept rK
 refine B5 (wpAny_newList ?_ hz);have z0:(h'.push (seqObj "list" acc.toList.toArray 0)).get? h'.objs.size=some (seqObj "list" acc.toList.toArray 0):=D4 _ rfl
 show wpAny _ _ _ _ _ { s with heap:=h'.push (seqObj "list" acc.toList.toArray 0),toks:=tk}
 refine B5 (M8 (P3 slot_list_sort #[_,z0,rfl] entry_list_sort (list_sort_tree z0 hi (by rw[hi.length];exact TU) λout rF a1 a2 a3=>#[_,rfl,?_]) (args_list_sort _)));obtain⟨c,e⟩:=sortedHeap_at (out:=out) z0;refine C2 #[_,rfl,.ref h'.objs.size,_,I1.laid (t':=tk) (λb u hb=>?_) (B8 _) (show bh X.prog X.w _ _ _ (.lst (rF.map V.int)) from #[by rw[B0,a2.length_eq,<- hi.length];exact hz,out.toList,c,Ri a1,e]),rfl,q _ _ (I1.az.fresh (B8 _)) a2 a3];have GJ:=D5 hb;rw[sortedHeap_old (I0 GJ) (by rw[size_push'];exact Nat.lt_succ_of_lt GJ)];exact B6 _ hb
end
end L2
namespace L3
open PySem PySem.Spec PyProof.Rows L2
section
variable{X:Cx}{K:W.Frag}{H:Hp}
@[reducible] def vj9:C3:=λds G q=>∃(a:Addr) (ns:List Int) (kvs:List (Key×D)),ds=[.ref a]/\kvs.map (·.1)=ns.map L7/\G a=some (.bN kvs)/\ns.length<64/\∀(p:Addr) (rF:List Int),G p=none->rF.Perm ns->rF.Pairwise (·<=·)->q (.ref p) (aG G p (.lst (rF.map .int)))
theorem v55(hr:aM k X.A):Call3 X (.builtin "sorted") vj9:=nV (us1 hr.hd) <| by
 rintro xs H Q ⟨ds,G,q,r,c,t,f⟩;obtain⟨a,ns,kvs,rfl,hk,hs,TU,t⟩:=t;obtain⟨v,rfl,r1⟩:=r.one;cases r1.ai;obtain⟨ys,e,rp⟩:=c a _ hs;exact#[_,ns,ys,rfl,by rw[<- hk];exact rp.1.symm,e,TU,λp rF hp h1 h2=>f _ _ _ _ ae.fh (c.cL hp (ux8 rF)) (Le.fresh hp) (t p rF (c.fresh hp) h1 h2)]
end
end L3
namespace Law
open PySem L2 L3
def top(i:Nat):Stmt:=A79.main.body.getD i (.Pass #[0,0,0,0])
abbrev Oy:Stmt:=top 6
abbrev OX:Stmt:=top 7
abbrev Po:Stmt:=top 9
abbrev Pp:Stmt:=top 10
abbrev N_:Stmt:=inClass (top 13) 0
abbrev NZ:Stmt:=inClass (top 13) 1
abbrev Oa:Stmt:=inClass (top 13) 2
abbrev Ob:Stmt:=inClass (top 13) 3
abbrev Oc:Stmt:=inClass (top 13) 4
abbrev Pt:Stmt:=top 14
abbrev Pw:Stmt:=top 15
abbrev Pu:Stmt:=top 16
abbrev O_:Stmt:=top 17
abbrev Px:Stmt:=top 18
abbrev Pl:Stmt:=top 19
abbrev Ov:Stmt:=top 20
abbrev NY:Stmt:=top 21
abbrev Om:Stmt:=top 22
abbrev Ol:Stmt:=top 23
abbrev Oo:Stmt:=top 24
abbrev Pk:Stmt:=top 25
abbrev Pf:Stmt:=top 26
abbrev Oi:Stmt:=top 27
abbrev Pm:Stmt:=top 28
abbrev OR:Stmt:=top 30
abbrev OS:Stmt:=top 31
abbrev OZ:Stmt:=top 33
abbrev Pq:Stmt:=top 34
abbrev Pr:Stmt:=top 35
abbrev Pj:Stmt:=top 37
abbrev Ou:Stmt:=top 38
abbrev Ot:Stmt:=top 40
abbrev OT:Stmt:=top 41
abbrev Pa:Stmt:=top 42
abbrev Pg:Stmt:=top 43
abbrev OQ:Stmt:=top 44
abbrev Oj:Stmt:=top 45
abbrev Pb:Stmt:=top 46
abbrev OU:Stmt:=top 47
abbrev OO:Stmt:=top 49
abbrev Ph:Stmt:=top 50
abbrev Pd:Stmt:=top 51
abbrev Pe:Stmt:=top 52
abbrev Ow:Stmt:=top 53
abbrev OW:Stmt:=top 54
abbrev OV:Stmt:=top 55
abbrev Pc:Stmt:=top 56
abbrev ON:Stmt:=top 57
abbrev Be:Stmt:=inClass (top 59) 0
abbrev Oh:Stmt:=inClass (top 59) 1
abbrev Oe:Stmt:=inClass (top 59) 3
abbrev Od:Stmt:=inClass (top 59) 5
abbrev Og:Stmt:=inClass (top 59) 7
abbrev Ox:Stmt:=top 60
abbrev Oq:Stmt:=top 61
abbrev OY:Stmt:=top 62
abbrev Pn:Stmt:=top 63
abbrev OB:Stmt:=top 65
abbrev OE:Stmt:=top 66
abbrev OG:Stmt:=top 67
abbrev Oz:Stmt:=top 68
abbrev OD:Stmt:=top 69
abbrev OI:Stmt:=top 70
abbrev OJ:Stmt:=top 71
abbrev OL:Stmt:=top 72
abbrev OH:Stmt:=top 73
abbrev OA:Stmt:=top 74
abbrev OM:Stmt:=top 75
abbrev OC:Stmt:=top 76
abbrev Py:Stmt:=top 77
local macro_rules | `(tactic| ac_nf)=>`(tactic| exact ⟨rfl,rfl,rfl,∅,rfl,∅,∅⟩)
theorem iP:ag ["codes", "rows", "code", "ahead"] ["codes"] (bA Oy):=by ac_nf
theorem Yi:ag ["row", "ahead"] ["row", "ahead"] (bA OX):=by ac_nf
theorem ow:ag ["code", "last"] ["code"] (bA Po):=by ac_nf
theorem Yo:ag ["row", "last"] ["row", "last"] (bA Pp):=by ac_nf
theorem XU:ag ["self", "wide", "fresh"] ["self", "wide", "fresh"] (bA N_):=by ac_nf
theorem XT:ag ["self"] ["self"] (bA NZ):=by ac_nf
theorem XW:ag ["self", "rows"] ["self", "rows"] (bA Oa):=by ac_nf
theorem XX:ag ["self", "chosen", "yes", "no"] ["self", "chosen", "yes", "no"] (bA Ob):=by ac_nf
theorem oI:ag ["self", "box", "number", "rows", "start"] ["self", "box", "number", "rows"] (bA Oc):=by ac_nf
theorem kx:ag ["pieces", "boxes", "wide", "places", "fresh", "loom", "where"] ["pieces", "boxes", "wide", "places", "fresh"] (bA Pt):=by ac_nf
theorem iL:ag ["rows", "where", "loom", "row", "first", "second"] ["rows", "where", "loom"] (bA Pw):=by ac_nf
theorem fE:ag ["row", "where", "loom", "yes", "no", "chosen", "unlike", "name"] ["row", "where", "loom"] (bA Pu):=by ac_nf
theorem oz:ag ["atom", "where", "loom", "box"] ["atom", "where", "loom"] (bA O_):=by ac_nf
theorem Yq:ag ["sign", "first", "second", "loom"] ["sign", "first", "second", "loom"] (bA Px):=by ac_nf
theorem kA:ag ["first", "second", "loom", "box", "over"] ["first", "second", "loom"] (bA Pl):=by ac_nf
theorem kG:ag ["first", "second", "loom", "box", "over"] ["first", "second", "loom"] (bA Ov):=by ac_nf
theorem oJ:ag ["first", "second", "loom", "box"] ["first", "second", "loom"] (bA NY):=by ac_nf
theorem oF:ag ["first", "second", "loom", "box"] ["first", "second", "loom"] (bA Om):=by ac_nf
theorem Ya:ag ["first", "second", "loom"] ["first", "second", "loom"] (bA Ol):=by ac_nf
theorem Yb:ag ["first", "second", "loom"] ["first", "second", "loom"] (bA Oo):=by ac_nf
theorem kB:ag ["first", "second", "count", "loom", "both", "box"] ["first", "second", "count", "loom"] (bA Pk):=by ac_nf
theorem kC:ag ["first", "second", "loom", "apart", "box"] ["first", "second", "loom"] (bA Pf):=by ac_nf
theorem iR:ag ["first", "second", "loom", "apart", "other_way", "box"] ["first", "second", "loom"] (bA Oi):=by ac_nf
theorem kz:ag ["asked", "loom", "below", "box"] ["asked", "loom"] (bA Pm):=by ac_nf
theorem gK:ag ["word", "stretch", "program", "source", "target", "fresh", "many", "told", "woven", "carried"] ["word", "stretch", "program", "source", "target", "fresh"] (bA OR):=by ac_nf
theorem kE:ag ["stretch", "program", "many", "told"] ["stretch", "program"] (bA OS):=by ac_nf
theorem Yk:ag ["program"] ["program"] (bA OZ):=by ac_nf
theorem ky:ag ["rows", "plain", "row"] ["rows"] (bA Pq):=by ac_nf
theorem Yp:ag ["row"] ["row"] (bA Pr):=by ac_nf
theorem fF:ag ["program", "cuts", "all_pieces", "parts", "begin", "size"] ["program", "cuts"] (bA Pj):=by ac_nf
theorem Yc:ag ["program", "cuts"] ["program", "cuts"] (bA Ou):=by ac_nf
theorem dr:ag ["plan", "n", "s", "marks", "shown", "at", "move", "may_be"] ["plan", "n", "s"] (bA Ot):=by ac_nf
theorem oB:ag ["move", "marks", "n", "s", "k"] ["move", "marks", "n", "s"] (bA OT):=by ac_nf
theorem Yl:ag ["k"] ["k"] (bA Pa):=by ac_nf
theorem Yn:ag ["k", "marks"] ["k", "marks"] (bA Pg):=by ac_nf
theorem iM:ag ["marks", "many"] ["marks"] (bA OQ):=by ac_nf
theorem X_:ag ["move", "marks"] ["move", "marks"] (bA Oj):=by ac_nf
theorem gJ:ag ["plan", "marks", "sets", "move"] ["plan"] (bA Pb):=by ac_nf
theorem Yh:ag ["plan"] ["plan"] (bA OU):=by ac_nf
theorem gL:ag ["program", "cuts", "s", "plan", "parts", "word", "slots", "codes"] ["program", "cuts", "s", "plan"] (bA OO):=by ac_nf
theorem dM:ag ["program", "cuts", "s", "plan", "parts", "slots", "place", "told", "code", "standing"] ["program", "cuts", "s", "plan"] (bA Ph):=by ac_nf
theorem gI:ag ["plan", "many", "slots", "told", "move"] ["plan", "many"] (bA Pd):=by ac_nf
theorem oy:ag ["move", "slots", "many", "held"] ["move", "slots", "many"] (bA Pe):=by ac_nf
theorem iQ:ag ["slots", "many", "taken", "box"] ["slots", "many"] (bA Ow):=by ac_nf
theorem dq:ag ["program", "parts", "plan", "slots", "fresh", "known", "codes", "at", "move", "standing", "k", "key"] ["program", "parts", "plan", "slots"] (bA OW):=by ac_nf
theorem oA:ag ["move", "stretch", "program", "source", "target", "fresh", "word"] ["move", "stretch", "program", "source", "target", "fresh"] (bA OV):=by ac_nf
theorem Ym:ag ["slot", "many"] ["slot", "many"] (bA Pc):=by ac_nf
theorem Yg:ag ["slot", "many"] ["slot", "many"] (bA ON):=by ac_nf
theorem wm6:ag ["self", "code", "boxes", "place"] ["self", "code", "boxes", "place"] (bA Be):=by ac_nf
theorem XZ:ag ["self"] ["self"] (bA Oh):=by ac_nf
theorem oH:ag ["self", "row"] ["self"] (bA Oe):=by ac_nf
theorem XY:ag ["self"] ["self"] (bA Od):=by ac_nf
theorem oG:ag ["self", "row"] ["self"] (bA Og):=by ac_nf
theorem Yd:ag ["row", "held"] ["row", "held"] (bA Ox):=by ac_nf
theorem oE:ag ["row", "held", "way", "first"] ["row", "held", "way"] (bA Oq):=by ac_nf
theorem Yj:ag ["operand", "held"] ["operand", "held"] (bA OY):=by ac_nf
theorem ox:ag ["row", "held", "cond"] ["row", "held"] (bA Pn):=by ac_nf
theorem cX:ag ["_law_state", "_law_many", "_law_script", "_law_k", "_law_rest", "_law_cell", "_law_number_here", "_law_digit"] ["_law_state", "_law_many"] (bA OB):=by ac_nf
theorem cW:ag ["_law_state", "_law_many", "_law_letters", "_law_names_here", "_law_k", "_law_name", "_law_begin", "_law_j", "_law_words", "_law_first"] ["_law_state", "_law_many"] (bA OE):=by ac_nf
theorem oC:ag ["_law_state", "_law_wide", "_law_form"] ["_law_state", "_law_wide"] (bA OG):=by ac_nf
theorem Ye:ag ["_law_state", "_law_names_here", "_law_wide"] ["_law_state", "_law_names_here", "_law_wide"] (bA Oz):=by ac_nf
theorem fI:ag ["_law_rows_here", "_law_total", "_law_row_here"] ["_law_rows_here"] (bA OD):=by ac_nf
theorem fG:ag ["_law_state", "_law_names_here", "_law_wide", "_law_deep", "_law_room", "_law_spare", "_law_form", "_law_x", "_law_one", "_law_yes", "_law_times"] ["_law_state", "_law_names_here", "_law_wide", "_law_deep", "_law_room", "_law_spare"] (bA OI):=by ac_nf
theorem iO:ag ["_law_state", "_law_names_here", "_law_wide", "_law_deep", "_law_room", "_law_spare", "_law_rows_here", "_law_k", "_law_left"] ["_law_state", "_law_names_here", "_law_wide", "_law_deep", "_law_room", "_law_spare"] (bA OJ):=by ac_nf
theorem iN:ag ["_law_rows_here", "_law_found", "_law_row_here"] ["_law_rows_here"] (bA OL):=by ac_nf
theorem fH:ag ["_law_state", "_law_wide", "_law_names_here", "_law_room", "_law_rows_here"] ["_law_state"] (bA OH):=by ac_nf
theorem fJ:ag ["_law_state", "_law_many", "_law_most", "_law_n", "_law_found", "_law_left", "_law_k"] ["_law_state", "_law_many", "_law_most"] (bA OA):=by ac_nf
theorem Yf:ag ["_law_number_here"] ["_law_number_here"] (bA OM):=by ac_nf
theorem kF:ag ["_law_ride", "_law_place", "_law_most", "_law_many"] ["_law_ride", "_law_place", "_law_most"] (bA OC):=by ac_nf
theorem cg:ag ["_law_script", "_law_state", "_law_program_here", "_law_cuts_here", "_law_n", "_law_plan", "_law_s", "_law_found", "_law_code", "_law_boxes", "_law_ride", "_law_due", "_law_seen", "_law_k"] ["_law_script"] (bA Py):=by ac_nf
abbrev bF:Addr:=134
set_option genInjectivity false in
set_option genSizeOf false in
structure AJ(K:W.Frag)(mg:Str->Option Value) where
 cl:ja K bF
 m:mg "Loom" = some (.ref bF)
 iS:bJ K bF "wide"
 iB:bJ K bF "fresh"
 cK:bJ K bF "rows"
 iA:bJ K bF "steps"
abbrev cS:Addr:=467
set_option genInjectivity false in
set_option genSizeOf false in
structure AI(K:W.Frag)(mg:Str->Option Value) where
 cl:ja K cS
 m:mg "Ride" = some (.ref cS)
 cK:bJ K cS "rows"
 kK:bJ K cS "held"
 fK:bJ K cS "spot"
set_option genInjectivity false in
set_option genSizeOf false in
structure Fg(K:W.Frag)(mg:Str->Option Value)(x:Str)(st:Stmt)(ps:List Str) extends FnAt K x x st ps where
 g:mg x=some (.ref a)
set_option genInjectivity false in
set_option genSizeOf false in
structure Txt(K:W.Frag)(mg:Str->Option Value) where
 jW:Fg K mg "joined" Oy ["codes"]
 mK:Fg K mg "moved" OX ["row", "ahead"]
 my:Fg K mg "turned" Po ["code"]
 mw:Fg K mg "turned_row" Pp ["row", "last"]
 j3:FnAt K "__init__" "Loom.__init__" N_ ["self", "wide", "fresh"]
 bE:FnAt K "fresh_box" "Loom.fresh_box" NZ ["self"]
 bP:FnAt K "put" "Loom.put" Oa ["self", "rows"]
 hE:FnAt K "put_by_choice" "Loom.put_by_choice" Ob ["self", "chosen", "yes", "no"]
 gx:FnAt K "put_unless" "Loom.put_unless" Oc ["self", "box", "number", "rows"]
 jO:Fg K mg "weave" Pt ["pieces", "boxes", "wide", "places", "fresh"]
 gs:Fg K mg "weave_rows" Pw ["rows", "where", "loom"]
 mq:Fg K mg "weave_choose" Pu ["row", "where", "loom"]
 jS:Fg K mg "place_of" O_ ["atom", "where", "loom"]
 mn:Fg K mg "weave_sign" Px ["sign", "first", "second", "loom"]
 mC:Fg K mg "total" Pl ["first", "second", "loom"]
 m6:Fg K mg "difference" Ov ["first", "second", "loom"]
 iZ:Fg K mg "gap" NY ["first", "second", "loom"]
 jZ:Fg K mg "bits_of_both" Om ["first", "second", "loom"]
 m_:Fg K mg "bits_of_any" Ol ["first", "second", "loom"]
 m9:Fg K mg "bits_of_one" Oo ["first", "second", "loom"]
 jP:Fg K mg "sum_without_both" Pk ["first", "second", "count", "loom"]
 mE:Fg K mg "smaller" Pf ["first", "second", "loom"]
 ng:Fg K mg "alike" Oi ["first", "second", "loom"]
 mB:Fg K mg "truth" Pm ["asked", "loom"]
 mP:Fg K mg "marking" OR ["word", "stretch", "program", "source", "target", "fresh"]
 mO:Fg K mg "marking_steps" OS ["stretch", "program"]
 mI:Fg K mg "pieces" OZ ["program"]
 gu:Fg K mg "unrolled" Pq ["rows"]
 mr:Fg K mg "unrolled_row" Pr ["row"]
 iW:Fg K mg "stretches" Pj ["program", "cuts"]
 m7:Fg K mg "costs" Ou ["program", "cuts"]
 jY:Fg K mg "checked" Ot ["plan", "n", "s"]
 mN:Fg K mg "may_do" OT ["move", "marks", "n", "s"]
 iX:Fg K mg "set_of" Pa ["k"]
 jQ:Fg K mg "stands" Pg ["k", "marks"]
 jU:Fg K mg "many_in" OQ ["marks"]
 j0:Fg K mg "behind" Oj ["move", "marks"]
 mH:Fg K mg "sets_along" Pb ["plan"]
 mM:Fg K mg "most_marks" OU ["plan"]
 mQ:Fg K mg "made" OO ["program", "cuts", "s", "plan"]
 mD:Fg K mg "stops" Ph ["program", "cuts", "s", "plan"]
 jR:Fg K mg "slots_along" Pd ["plan", "many"]
 mF:Fg K mg "slots_behind" Pe ["move", "slots", "many"]
 mZ:Fg K mg "free_slot" Ow ["slots", "many"]
 jT:Fg K mg "move_codes" OW ["program", "parts", "plan", "slots"]
 mL:Fg K mg "move_code" OV ["move", "stretch", "program", "source", "target", "fresh"]
 mG:Fg K mg "shown_code" Pc ["slot", "many"]
 mR:Fg K mg "left_code" ON ["slot", "many"]
 iY:FnAt K "__init__" "Ride.__init__" Be ["self", "code", "boxes", "place"]
 eU:FnAt K "place" "Ride.place" Oh ["self"]
 gZ:FnAt K "forth" "Ride.forth" Oe ["self"]
 g_:FnAt K "at_end" "Ride.at_end" Od ["self"]
 gY:FnAt K "may_forth" "Ride.may_forth" Og ["self"]
 jX:Fg K mg "holds" Ox ["row", "held"]
 m8:Fg K mg "change" Oq ["row", "held", "way"]
 mJ:Fg K mg "operand_value" OY ["operand", "held"]
 mz:Fg K mg "turn_bit" Pn ["row", "held"]
 d7:Fg K mg "_law_draw" OB ["_law_state", "_law_many"]
 mV:Fg K mg "_law_names" OE ["_law_state", "_law_many"]
 jV:Fg K mg "_law_number" OG ["_law_state", "_law_wide"]
 mY:Fg K mg "_law_atom" Oz ["_law_state", "_law_names_here", "_law_wide"]
 gw:Fg K mg "_law_heavy" OD ["_law_rows_here"]
 mT:Fg K mg "_law_row" OI ["_law_state", "_law_names_here", "_law_wide", "_law_deep", "_law_room", "_law_spare"]
 gv:Fg K mg "_law_rows" OJ ["_law_state", "_law_names_here", "_law_wide", "_law_deep", "_law_room", "_law_spare"]
 ft:Fg K mg "_law_unrolled" OL ["_law_rows_here"]
 mU:Fg K mg "_law_program" OH ["_law_state"]
 mX:Fg K mg "_law_cuts" OA ["_law_state", "_law_many", "_law_most"]
 mS:Fg K mg "_law_whole" OM ["_law_number_here"]
 mW:Fg K mg "_law_far" OC ["_law_ride", "_law_place", "_law_most"]
 gq:Fg K mg "law" Py ["_law_script"]
 ao:AJ K mg
 aH:AI K mg
 kO:Mk K bF j3.a
 dZ:Meth K bF "fresh_box" bE.a
 gi:Meth K bF "put" bP.a
 FJ:Meth K bF "put_by_choice" hE.a
 xY:Meth K bF "put_unless" gx.a
 kN:Mk K cS iY.a
 Ha:∃t,Binds K iY.fd ["self", "code", "boxes", "place"] [.int 0 t]
 sj:Meth K cS "place" eU.a
 FH:Meth K cS "forth" gZ.a
 FI:Meth K cS "at_end" g_.a
 FG:Meth K cS "may_forth" gY.a
 jL:∃t,mg "NUMBERS" = some (.int 4294967296 t)
 bT:∃t,mg "BELOW_NOUGHT" = some (.int 31 t)
 sR:mg "abs" = none
 sQ:mg "all" = none
 pf:mg "bool" = none
 fQ:mg "dict" = none
 i9:mg "divmod" = none
 cC:mg "enumerate" = none
 i8:mg "int" = none
 bW:mg "isinstance" = none
 aX:mg "len" = none
 dR:mg "list" = none
 nA:mg "max" = none
 nz:mg "min" = none
 bH:mg "range" = none
 fP:mg "reversed" = none
 i7:mg "sorted" = none
 sP:mg "str" = none
 sO:mg "sum" = none
 cR:mg "tuple" = none
 pT:mg "zip" = none
end Law
namespace Law
open PySem L2 L3 Rw
section
variable{P:Program}{w:World}{K:W.Frag}{mg:Str->Option Value}{base:Heap}(T:Txt K mg)
def uv:fY:=spec (λds G=>∃(st:Addr) (m:Int),ds=[.ref st,.int m]/\cE G st/\0<m/\m<1073741824)
 (λds G d G'=>∃(st:Addr) (m v:Int),ds=[.ref st,.int m]/\eV st G G'/\d=.int v/\0<=v/\v<m)
variable(ds:List D)(G:Gp)(R:DK)
inductive qh:Prop
 | mk (row:Row) (a x:Nat) (bs:List Int) (n:Int) (k:Nat) (_:ds=[row.d,.ref a]) (_:(row=.go x n k\/row=.aL x n k)) (_:G a=some (.lst (bs.map .int))) (_:x<bs.length) (_:R (.bl (decide (gt bs x=n))) G):qh
inductive tu:Prop
 | mk (o:nY) (a:Nat) (bs:List Int) (_:ds=[o.d,.ref a]) (_:G a=some (.lst (bs.map .int))) (_:(∀y,o=.box y->y<bs.length)) (_:R (.int (val bs o)) G):tu
inductive sW:Prop
 | mk (x i:Nat) (cs:List (Nat×Nat)) (a sz:Nat) (bs:List Int) (_:ds=[(Row.turn x i cs).d,.ref a]) (_:(Row.turn x i cs).ok sz) (_:cM sz bs) (_:G a=some (.lst (bs.map .int))) (_:∀G',xg a (cH 1 bs (.turn x i cs)) G G'->R .non G'):sW
inductive j7:Prop
 | mk (row:Row) (a sz:Nat) (s:Int) (bs:List Int) (_:ds=[row.d,.ref a,.int s]) (_:(s=1\/s=-1)) (_:row.ok sz) (_:cM sz bs) (_:G a=some (.lst (bs.map .int))) (_:∀G',xg a (cH s bs row) G G'->R .non G'):j7
inductive tR:Prop
 | mk (p ra ha:Addr) (rs:List Row) (bs:List Int) (s:Nat) (_:ds=[.ref p]) (_:bC cS G p ra ha rs bs s) (_:R (.bl (decide (s=rs.length))) G):tR
inductive qm:Prop
 | mk (p ra ha:Addr) (rs:List Row) (bs:List Int) (s:Nat) (_:ds=[.ref p]) (_:bC cS G p ra ha rs bs s) (_:R (.int (s:Int)) G):qm
inductive tP:Prop
 | mk (p ra ha:Addr) (rs:List Row) (bs:List Int) (s sz:Nat) (_:ds=[.ref p]) (_:bC cS G p ra ha rs bs s) (_:jj sz rs bs s) (_:R (.bl (bu rs bs s)) G):tP
inductive tQ:Prop
 | mk (p ra ha:Addr) (rs:List Row) (bs:List Int) (s sz:Nat) (_:ds=[.ref p]) (_:bC cS G p ra ha rs bs s) (_:jj sz rs bs s) (_:∀G',(bu rs bs s=false->G'=G)->(bu rs bs s=true->bC cS G' p ra ha rs (bV rs bs s).2 (bV rs bs s).1/\∀b,b≠p->b≠ha->G' b=G b)->R (.bl (bu rs bs s)) G'):tQ
inductive qo:Prop
 | mk (p:Addr) (c0:D) (cr bx:Addr) (rs:List Row) (bs:List Int) (s:Nat) (_:ds=[.ref p,.tup [c0,.ref cr],.ref bx,.int (s:Int)]) (_:G p=some (.ins cS [])) (_:G cr=some (.lst (rs.map Row.d))) (_:G bx=some (.lst (bs.map .int))) (_:∀ra ha G',G ra=none->G ha=none->bC cS G' p ra ha rs bs s->(∀b o,b≠p->G b=some o->G' b=some o)->R .non G'):qo
theorem gG{G:Gp}{st:Addr}{m:Int}{q:DK}(h:cE G st)(h0:0<m)(h1:m<1073741824)(k:∀(v:Int) (G':Gp),eV st G G'->0<=v->v<m->q (.int v) G') :
  ∃R,uv [.ref st,.int m] G R/\∀d G',R d G'->q d G' :=
 v78 ⟨st,m,rfl,h,h0,h1⟩ λd G' ⟨jI,m',v,e,a,ed,v0,v1⟩=>by
  cases e;subst ed;exact k v G' a v0 v1
theorem x30{G:Gp}{p cr bx:Addr}{rs:List Row}{bs:List Int}{s:Nat}{c0:D}{q:Gp->Prop}(hp:G p=none)(GF:G cr=some (.lst (rs.map Row.d)))(BZ:G bx=some (.lst (bs.map .int)))
  (k:∀ra ha G',G ra=none->G ha=none->bC cS G' p ra ha rs bs s->ax G G'->q G'):∃R,qo [.ref p,.tup [c0,.ref cr],.ref bx,.int (s:Int)] (aG G p (.ins cS [])) R/\∀d G',R d G'->d=.non/\q G':=by
 have g9:ax G (aG G p (.ins cS [])):=ax.refl.new hp;exact rW (post:=λd G'=>d=.non/\∃ra ha,G ra=none/\G ha=none/\bC cS G' p ra ha rs bs s/\ax G G')
   (λR h=>#[p,c0,cr,bx,rs,bs,s,rfl,aC,g9.kp _ _ GF,g9.kp _ _ BZ,λra ha G' x1 x2 x3 x4=>h _ _ #[rfl,ra,ha,g9.none x1,g9.none x2,x3,#[λb o e=>x4 b o (aU e hp) (g9.kp _ _ e)]]]) λd G' ⟨e,ra,ha,x1,x2,x3,x4⟩=>#[e,k ra ha G' x1 x2 x3 x4]
inductive VN(a b c:Prop):Prop
 | mk:a->b->c->VN a b c
inductive pz(a b c d:Prop):Prop
 | mk:a->b->c->d->pz a b c d
inductive Jy(a b c d e:Prop):Prop
 | mk:a->b->c->d->e->Jy a b c d e
inductive yO(a b c d e f:Prop):Prop
 | mk:a->b->c->d->e->f->yO a b c d e f
inductive MF(a b c d e f g:Prop):Prop
 | mk:a->b->c->d->e->f->g->MF a b c d e f g
inductive VM(a b c d e f g h:Prop):Prop
 | mk:a->b->c->d->e->f->g->h->VM a b c d e f g h
inductive VL(a b c d e f g h i:Prop):Prop
 | mk:a->b->c->d->e->f->g->h->i->VL a b c d e f g h i
inductive JC(a b c d e f g h i j:Prop):Prop
 | mk:a->b->c->d->e->f->g->h->i->j->JC a b c d e f g h i j
inductive JB(a b c d e f g h i j k l:Prop):Prop
 | mk:a->b->c->d->e->f->g->h->i->j->k->l->JB a b c d e f g h i j k l
inductive JA(a b c d e f g h i j k l m n:Prop):Prop
 | mk:a->b->c->d->e->f->g->h->i->j->k->l->m->n->JA a b c d e f g h i j k l m n
inductive Jz(a b c d e f g h i j k l m n o p:Prop):Prop
 | mk:a->b->c->d->e->f->g->h->i->j->k->l->m->n->o->p->Jz a b c d e f g h i j k l m n o p
inductive Xi2{a b:Type}(p:a->b->Prop):Prop
 | mk (A B) (_:p A B):Xi2 p
inductive lN{a b c:Type}(p:a->b->c->Prop):Prop
 | mk (A B C) (_:p A B C):lN p
inductive xc{a b c d:Type}(p:a->b->c->d->Prop):Prop
 | mk (A B C D) (_:p A B C D):xc p
inductive Hl{a b c d e:Type}(p:a->b->c->d->e->Prop):Prop
 | mk (A B C D E) (_:p A B C D E):Hl p
inductive Uv{a b c d e f:Type}(p:a->b->c->d->e->f->Prop):Prop
 | mk (A B C D E F) (_:p A B C D E F):Uv p
inductive Uu{a b c d e f g:Type}(p:a->b->c->d->e->f->g->Prop):Prop
 | mk (A B C D E F G) (_:p A B C D E F G):Uu p
inductive Hn{a b c d e f g h i j k:Type}(p:a->b->c->d->e->f->g->h->i->j->k->Prop):Prop
 | mk (A B C D E F G H I J K) (_:p A B C D E F G H I J K):Hn p
inductive Hm{a b c d e f g h i j k l m:Type}(p:a->b->c->d->e->f->g->h->i->j->k->l->m->Prop):Prop
 | mk (A B C D E F G H I J K L M) (_:p A B C D E F G H I J K L M):Hm p
theorem bM{S:fY}{ds:List D}{G:Gp}{q:DK}(h:S ds G q):∃R,S ds G R/\∀d G',R d G'->q d G':=⟨q,h,λ_ _ z=>z⟩
inductive tT:Prop
 | mk (p:Addr) (W fr:Nat) (_:ds=[.ref p,.int (W:Int),.int (fr:Int)]) (_:G p=some (.ins bF [])) (_:∀rp G',G rp=none->ar bF G' p rp W fr [] 0->(∀b o,b≠p->G b=some o->G' b=some o)->R .non G'):tT
inductive dI:Prop
 | mk (p rp:Addr) (W fr:Nat) (rows:List Row) (st:Nat) (_:ds=[.ref p]) (_:ar bF G p rp W fr rows st) (_:∀G',ar bF G' p rp W (fr+1) rows st->cw p rp G G'->R (.int (fr:Int)) G'):dI
inductive dH:Prop
 | mk (p rp q:Addr) (W fr:Nat) (rows new:List Row) (st:Nat) (_:ds=[.ref p,.ref q]) (_:ar bF G p rp W fr rows st) (_:G q=some (.lst (new.map Row.d))) (_:q≠rp) (_:rows.length<=9000) (_:new.length<=1000) (_:∀G',ar bF G' p rp W fr (rows++new) (st+new.length)->cw p rp G G'->R .non G'):dH
inductive d8(mx:Nat)(xs:Nat->Nat->List D)(bx:Nat->Nat)(fn:Nat->Nat)(nw:Nat->Nat->Nat->Nat->List Row)(ds:List D)(G:Gp)(R:DK):Prop
 | mk (p rp:Addr) (W fr x y:Nat) (rows:List Row) (st:Nat) (_:ds=xs x y++[.ref p]) (_:ar bF G p rp W fr rows st) (_:W<=16) (_:rows.length+2*mx<=4100) (_:∀G',ar bF G' p rp W (fn fr) (rows++nw W x y fr) (st+(nw W x y fr).length)->cw p rp G G'->R (.int (bx fr:Int)) G'):d8 mx xs bx fn nw ds G R
def xy(x y:Nat):List D:=[.int (x:Int),.int (y:Int)]
def WE:fY:=d8 20 xy (λfr=>fr) (λfr=>fr+2) λW x y fr=>fT W x y fr "+"
def WA:fY:=d8 20 xy (λfr=>fr) (λfr=>fr+2) λW x y fr=>fT W x y fr "-"
def JN:fY:=d8 0 xy (λfr=>fr) (λfr=>fr+1) λ_ x y fr=>[.add fr (.box x),.take fr (.box y)]
def NF:fY:=d8 0 xy (λfr=>fr) (λfr=>fr+1) λW x y fr=>cD fr x y W
def Wy:fY:=d8 20 xy (λfr=>fr+1) (λfr=>fr+2) λW x y fr=>fT W x y fr "|"
def Wz:fY:=d8 20 xy (λfr=>fr+1) (λfr=>fr+2) λW x y fr=>fT W x y fr "^"
inductive pZ:Prop
 | mk (n:Nat) (_:n<=2) (_:d8 19 (λx y=>[.int (x:Int),.int (y:Int),.int (n:Int)]) (λfr=>fr+1) (λfr=>fr+2) (λW x y fr=>cD fr x y W++([.add (fr+1) (.box x),.add (fr+1) (.box y)]++D0 n (.take (fr+1) (.box fr)))) ds G R):pZ
def WD:fY:=d8 20 xy (λfr=>fr+1) (λfr=>fr+2) λW x y fr=>fT W x y fr "<"
def Wx:fY:=d8 20 xy (λfr=>fr+2) (λfr=>fr+3) λW x y fr=>fT W x y fr "="
inductive sT:Prop
 | mk (o:Str) (_:o∈L3.signs) (_:d8 21 (λx y=>[.str o,.int (x:Int),.int (y:Int)]) (λfr=>zu fr o) (λfr=>lV fr o) (λW x y fr=>fT W x y fr o) ds G R):sT
inductive nH:Prop
 | mk (p rp wa:Addr) (W fr:Nat) (rows:List Row) (st:Nat) (bs:List Str) (pl:List Nat) (a:hV) (_:ds=[aD a,.ref wa,.ref p]) (_:ar bF G p rp W fr rows st) (_:G wa=some (.bN (bI bs pl))) (_:pl.length=bs.length) (_:jt W bs a) (_:rows.length<=4100) (_:∀G',ar bF G' p rp W (aY fr a) (rows++de fr a) (st+(de fr a).length)->cw p rp G G'->R (.int (eW bs pl fr a:Int)) G'):nH
inductive qq:Prop
 | mk (p rp q:Addr) (W fr x:Nat) (n:Int) (rows new:List Row) (st:Nat) (_:ds=[.ref p,.int (x:Int),.int n,.ref q]) (_:ar bF G p rp W fr rows st) (_:G q=some (.lst (new.map Row.d))) (_:q≠rp) (_:rows.length<=9000) (_:new.length<=1000) (_:∀G',ar bF G' p rp W fr (rows++(.go x n (rows.length+new.length+1)::(new++[.aL x n rows.length]))) st->cw p rp G G'->R .non G'):qq
inductive tS:Prop
 | mk (p rp q1 q2:Addr) (W fr ch:Nat) (rows ys ns:List Row) (st:Nat) (_:ds=[.ref p,.int (ch:Int),.ref q1,.ref q2]) (_:ar bF G p rp W fr rows st) (_:G q1=some (.lst (ys.map Row.d))) (_:G q2=some (.lst (ns.map Row.d))) (_:q1≠rp) (_:q2≠rp) (_:rows.length<=4100) (_:ys.length<=10) (_:ns.length<=10) (_:∀G',ar bF G' p rp W fr (rows++qY rows.length ch ys ns) (st+(ys.length+3))->cw p rp G G'->R .non G'):tS
inductive sX:Prop
 | mk (p rp:Addr) (W fr x:Nat) (rows:List Row) (st:Nat) (_:ds=[.int (x:Int),.ref p]) (_:ar bF G p rp W fr rows st) (_:rows.length<=4100) (_:∀G',ar bF G' p rp W (fr+2) (rows++[.take fr (.box x),.turn (fr+1) 0 [(fr,31)]]) (st+2)->cw p rp G G'->R (.int ((fr+1:Nat):Int)) G'):sX
inductive eZ(dp:Nat)(ds:List D)(G:Gp)(R:DK):Prop
 | mk (d:D) (p rp wa:Addr) (W fr:Nat) (bs:List Str) (pl:List Nat) (rows:List Row) (st:Nat) (rs:List aq) (_:ds=[d,.ref wa,.ref p]) (_:ar bF G p rp W fr rows st) (_:G wa=some (.bN (bI bs pl))) (_:jo G d=some (bB rs)) (_:d≠.ref rp) (_:pl.length=bs.length) (_:bs.length<=6) (_:bs.Nodup) (_:dY W bs rs) (_:fk rs) (_:aS rs<dp) (_:rows.length+22*cf rs<=3960) (_:W<=16) (_:∀G',ar bF G' p rp W (bf W bs rs rows.length pl fr).2.2.1 (rows++(bf W bs rs rows.length pl fr).1) (st+(bf W bs rs rows.length pl fr).2.2.2)->G' wa=some (.bN (bI bs (bf W bs rs rows.length pl fr).2.1))->(∀b o,b≠p->b≠rp->b≠wa->G b=some o->G' b=some o)->R .non G'):eZ dp ds G R
def WH:fY:=eZ 8
theorem x48:n<*T.gs.1<*eZ 0:=Dd (by rintro ds G R ⟨_,_,_,_,_,_,_,_,_,_,_,_,_,_,_,_,_,_,_,_,_,h,_⟩;omega)
inductive k_(dp:Nat)(ds:List D)(G:Gp)(R:DK):Prop
 | mk (p rp wa:Addr) (W fr:Nat) (bs:List Str) (pl:List Nat) (rows:List Row) (st:Nat) (c:hV) (ys ns:List aq) (_:ds=[cI (.eF c ys ns),.ref wa,.ref p]) (_:ar bF G p rp W fr rows st) (_:G wa=some (.bN (bI bs pl))) (_:pl.length=bs.length) (_:bs.length<=6) (_:bs.Nodup) (_:qI W bs (.eF c ys ns)) (_:uH (.eF c ys ns)) (_:aS ys<dp) (_:aS ns<dp) (_:rows.length+22*oq (.eF c ys ns)<=3960) (_:W<=16) (_:∀G',ar bF G' p rp W (cx W bs (.eF c ys ns) rows.length pl fr).2.2.1 (rows++(cx W bs (.eF c ys ns) rows.length pl fr).1) (st+(cx W bs (.eF c ys ns) rows.length pl fr).2.2.2)->G' wa=some (.bN (bI bs (cx W bs (.eF c ys ns) rows.length pl fr).2.1))->(∀b o,b≠p->b≠rp->b≠wa->G b=some o->G' b=some o)->R .non G'):k_ dp ds G R
inductive pY:Prop
 | mk (pc pa:Addr) (W fr:Nat) (bs:List Str) (pl:List Nat) (rs:List aq) (_:ds=[.ref pc,.tup (bs.map .str),.int (W:Int),.ref pa,.int (fr:Int)]) (_:G pc=some (.lst (bB rs))) (_:G pa=some (.lst (pl.map nD))) (_:pl.length=bs.length) (_:bs.length<=6) (_:bs.Nodup) (_:dY W bs rs) (_:fk rs) (_:aS rs<=6) (_:22*cf rs<=3960) (_:W<=16) (_:∀(q1 q2:Addr) (G':Gp),G q1=none->G q2=none->q1≠q2->G' q1=some (.lst ((bf W bs rs 0 pl fr).1.map Row.d))->G' q2=some (.lst ((bf W bs rs 0 pl fr).2.1.map nD))->ax G G'->R (.tup [.ref q1,.ref q2,.int ((bf W bs rs 0 pl fr).2.2.1:Int),.int ((bf W bs rs 0 pl fr).2.2.2:Int)]) G'):pY
inductive tL:Prop
 | mk (st:Addr) (m:Nat) (_:ds=[.ref st,.int (m:Int)]) (_:cE G st) (_:1<=m) (_:m<=6) (_:∀(bs:List Str) (G':Gp),bs.length=m->(∀b∈bs,b.length<=20)->bs.Nodup->eV st G G'->R (.tup (bs.map .str)) G'):tL
inductive qd:Prop
 | mk (st:Addr) (W:Nat) (_:ds=[.ref st,.int (W:Int)]) (_:cE G st) (_:W<=16) (_:∀(i:Nat) (G':Gp),i<2^W->eV st G G'->R (.int (i:Int)) G'):qd
inductive qe:Prop
 | mk (st:Addr) (W:Nat) (bs:List Str) (_:ds=[.ref st,.tup (bs.map .str),.int (W:Int)]) (_:cE G st) (_:W<=16) (_:1<=bs.length) (_:bs.length<=6) (_:∀(a:hV) (G':Gp),jt W bs a->eV st G G'->R (aD a) G'):qe
theorem rA{G:Gp}{p rp:Addr}{W fr st:Nat}{rows:List Row}{q:DK}(h:ar bF G p rp W fr rows st)(k:∀G',ar bF G' p rp W (fr+1) rows st->cw p rp G G'->q (.int (fr:Int)) G'):∃R,dI [.ref p] G R/\∀d G',R d G'->q d G' :=
 bM ⟨p,rp,W,fr,rows,st,rfl,h,k⟩
theorem xb7{G:Gp}{p rp q0:Addr}{W fr st:Nat}{rows new:List Row}{q:DK}(h:ar bF G p rp W fr rows st)(hq:G q0=some (.lst (new.map Row.d)))(hn:q0≠rp)(h1:rows.length<=9000)(h2:new.length<=1000)(k:∀G',ar bF G' p rp W fr (rows++new) (st+new.length)->cw p rp G G'->q .non G'):∃R,dH [.ref p,.ref q0] G R/\∀d G',R d G'->q d G' :=
 bM ⟨p,rp,q0,W,fr,rows,new,st,rfl,h,hq,hn,h1,h2,k⟩
theorem rQ{mx:Nat}{xs:Nat->Nat->List D}{bx fn:Nat->Nat}{nw:Nat->Nat->Nat->Nat->List Row}{G:Gp}{p rp:Addr}{W fr x y st:Nat}{rows:List Row}{q:DK}(h:ar bF G p rp W fr rows st)(hW:W<=16)(h1:rows.length+2*mx<=4100)(k:∀G',ar bF G' p rp W (fn fr) (rows++nw W x y fr) (st+(nw W x y fr).length)->cw p rp G G'->q (.int (bx fr:Int)) G'):∃R,d8 mx xs bx fn nw (xs x y++[.ref p]) G R/\∀d G',R d G'->q d G' :=
 bM ⟨p,rp,W,fr,x,y,rows,st,rfl,h,hW,h1,k⟩
theorem Kv{G:Gp}{p rp wa:Addr}{W fr st:Nat}{rows:List Row}{bs:List Str}{pl:List Nat}{a:hV}{q:DK}(h:ar bF G p rp W fr rows st)(hw:G wa=some (.bN (bI bs pl)))(hl:pl.length=bs.length)(ha:jt W bs a)(h1:rows.length<=4100)(k:∀G',ar bF G' p rp W (aY fr a) (rows++de fr a) (st+(de fr a).length)->cw p rp G G'->q (.int (eW bs pl fr a:Int)) G'):∃R,nH [aD a,.ref wa,.ref p] G R/\∀d G',R d G'->q d G' :=
 bM ⟨p,rp,wa,W,fr,rows,st,bs,pl,a,rfl,h,hw,hl,ha,h1,k⟩
theorem Xq{G:Gp}{st:Addr}{W:Nat}{bs:List Str}{q:DK}(hs:cE G st)(hW:W<=16)(h1:1<=bs.length)(h2:bs.length<=6)(k:∀(a:hV) G',jt W bs a->eV st G G'->q (aD a) G'):∃R,qe [.ref st,.tup (bs.map .str),.int (W:Int)] G R/\∀d G',R d G'->q d G' :=
 bM ⟨st,W,bs,rfl,hs,hW,h1,h2,k⟩
theorem vx{G:Gp}{p rp p1:Addr}{W fr st:Nat}{rows new:List Row}{q:DK}(A:ar bF G p rp W fr rows st)(hp:G p1=none)(h1:rows.length<=9000)(h2:new.length<=1000)(k:∀G',ar bF G' p rp W fr (rows++new) (st+new.length)->cw p rp G G'->q .non G'):∃R,dH [.ref p,.ref p1] (aG G p1 (.lst (new.map Row.d))) R/\∀d G',R d G'->q d G' :=
 xb7 (A.new hp) aC (D8 (aU A.ro hp)) h1 h2 λG' A' a'=>k G' A' ((cw.refl.new hp).trans a')
theorem ur1:∀{l m:List Str},l.Nodup->(∀x∈l,x∈m)->l.length<=m.length
 | [],m,_,_=>J8 _
 | x::l,m,hn,h=>by
  obtain⟨h1,h2⟩:=O9.mp hn;have hx:=h x D3;have ih:=ur1 (l:=l) (m:=m.erase x) h2 λy hy=>(List.mem_erase_of_ne (λe=>h1 (by rw[<- e];exact hy))).mpr (h y (C7 _ hy))
  rw[List.length_erase_of_mem hx] at ih;have:0<m.length:=B23 hx;rw[C1];omega
def i6(b:Str)(i:Nat):Str:=b++C4 "z" ++ #[[97+i].toArray]
theorem vr5(h:i6 b i=i6 b j):i=j:=by
 have e:=congrArg (λx:Str=>x.cps.toList) h;have c:∀k,(i6 b k).cps.toList=b.cps.toList++[122,97+k]:=λk=>by
  show((b.cps++(C4 "z").cps)++[97+k].toArray).toList=_
  rw[B56,B56,E2];rfl
 have e:(i6 b i).cps.toList=(i6 b j).cps.toList:=e;rw[c,c] at e;have:=List.append_cancel_left e;simp at this;exact this
theorem vh4{b nm:Str}{ws:List Str}(hl:ws.length<26)(h:nm∉ws\/∀i,i<26->i6 b i∈ws):nm∉ws:=by
 rcases h with h|h
 ·exact h
 ·exfalso
  have hn:((D1 26).map (i6 b)).Nodup:=B88.mpr (List.nodup_range.imp λeC e=>eC (vr5 e));have:=ur1 (m:=ws) hn λx hx=>by
   obtain⟨i,hi,rfl⟩:=K2.mp hx;exact h i (K0.mp hi)
  rw[B0,D9] at this;omega
theorem wz5{ws:List Str}(h:∀w∈ws,w.length=1):(ws.map Mp).sum=ws.length:=by
 induction ws with
 | nil=>rfl
 | cons w ws ih=>rw[C0,N1,C1,h w D3,ih λx hx=>h x (C7 _ hx)];omega
def cO:List Str:=[C4 "box",C4 "num",C4 "is",C4 "op",C4 "go",C4 "add",C4 "take",C4 "turn",C4 "swap",C4 "come",C4 "lay",C4 "show"]
theorem vk1:((D1 12).all λf=>(D1 7).all λm=>decide (((D1 m).map λk=>cO.getD ((f+5*k)%12) (C4 "")).Nodup)&&((D1 m).map λk=>cO.getD ((f+5*k)%12) (C4 "")).all λw=>decide (w.length<=20))=true:=∅
theorem Ga:∀l:List Str,strsOf (l.map D.str)=some l:=by
 intro l
 induction l with
 | nil=>rfl
 | cons w l ih=>show(strsOf (l.map D.str)).map (w::·)=_;rw[ih];rfl
theorem Xp(h1:0<=x)(h2:x<26):da (C4 "abcdefghijklmnopqrstuvwxyz").cps.toList x=some (97+x.toNat):=by
 obtain⟨n,rfl⟩:=Int.eq_ofNat_of_zero_le h1;have hn:n<26:=()
 have key:∀n:Fin 26,(C4 "abcdefghijklmnopqrstuvwxyz").cps.toList[n.val]?=some (97+n.val):=∅
 have e:=YS (xs:=(C4 "abcdefghijklmnopqrstuvwxyz").cps.toList) (i:=(n:Int)) h1 (by exact h2);rw[e,<- B7];exact key #[n,hn]
theorem Xy{G:Gp}(h0:jo G d=some xs)(hs:σ[i]?=some (some d))(k:∀ok:Gp->Prop,(∀G',jo G' d=some xs->ok G')->forL ok g tb E xs σ G):sM (vp (ni i)) g tb E σ G:=by
 unfold sM vp ni;rw[hs];cases d with
 | tup ds =>
  have e:ds=xs:=by simpa[jo] using h0
  subst e;exact k _ λ_ _=>trivial
 | ref a =>
  have wQ:bt (G a)=some xs:=h0;dsimp only;rw[wQ];exact k _ λG' h=>h
 | _=>exact absurd h0 (by simp[jo])
theorem uw9:bf W bs (q::l) a pl fr=((cx W bs q a pl fr).1++(bf W bs l (a+(cx W bs q a pl fr).1.length) (cx W bs q a pl fr).2.1 (cx W bs q a pl fr).2.2.1).1,(bf W bs l (a+(cx W bs q a pl fr).1.length) (cx W bs q a pl fr).2.1 (cx W bs q a pl fr).2.2.1).2.1,(bf W bs l (a+(cx W bs q a pl fr).1.length) (cx W bs q a pl fr).2.1 (cx W bs q a pl fr).2.2.1).2.2.1,(cx W bs q a pl fr).2.2.2+(bf W bs l (a+(cx W bs q a pl fr).1.length) (cx W bs q a pl fr).2.1 (cx W bs q a pl fr).2.2.1).2.2.2):=rfl
theorem uw7:∀(l:List aq) {r:aq} {a:Nat} {pl:List Nat} {fr:Nat},bf W bs (l++[r]) a pl fr=((bf W bs l a pl fr).1++(cx W bs r (a+(bf W bs l a pl fr).1.length) (bf W bs l a pl fr).2.1 (bf W bs l a pl fr).2.2.1).1,(cx W bs r (a+(bf W bs l a pl fr).1.length) (bf W bs l a pl fr).2.1 (bf W bs l a pl fr).2.2.1).2.1,(cx W bs r (a+(bf W bs l a pl fr).1.length) (bf W bs l a pl fr).2.1 (bf W bs l a pl fr).2.2.1).2.2.1,(bf W bs l a pl fr).2.2.2+(cx W bs r (a+(bf W bs l a pl fr).1.length) (bf W bs l a pl fr).2.1 (bf W bs l a pl fr).2.2.1).2.2.2)
 | [],r,a,pl,fr=>by
  show((cx W bs r a pl fr).1++[],(cx W bs r a pl fr).2.1,(cx W bs r a pl fr).2.2.1,(cx W bs r a pl fr).2.2.2+0)=([]++(cx W bs r (a+0) pl fr).1,(cx W bs r (a+0) pl fr).2.1,(cx W bs r (a+0) pl fr).2.2.1,0+(cx W bs r (a+0) pl fr).2.2.2)
  rw[E4,J6,My,My,L0]
 | q::l,r,a,pl,fr=>by
  rw[J7,uw9,uw9,uw7 l];simp only[B4,E2,K5]
def iu:List Str->List Nat->List Nat->List Str
 | b::bs,p::ps,q::qs=>if p=q then iu bs ps qs else b::iu bs ps qs
 | _,_,_=>[]
def asg(bs:List Str):List Str->Nat->List Nat->List Nat
 | [],_,pl=>pl
 | n::ns,f,pl=>asg bs ns (f+1) (eh bs pl n f)
theorem Dr:∀{bs:List Str} {ps qs:List Nat} {x:Str},x∈iu bs ps qs->x∈bs
 | [],ps,qs,x,h=>by cases ps <;> cases qs <;> cases h
 | b::bs,[],qs,x,h=>by cases qs <;> cases h
 | b::bs,p::ps,[],x,h=>by cases h
 | b::bs,p::ps,q::qs,x,h=>by
  unfold iu at h;split at h
  ·exact C7 _ (Dr h)
  ·rcases E6.mp h with e|h
   ·rw[e];exact D3
   ·exact C7 _ (Dr h)
theorem vk9(h:b≠n):eh (b::bs) (p::pl) n f=p::eh bs pl n f:=by
 unfold eh;rw[gN,if_neg h,P7];rfl
theorem uD(h:b≠n):gtB (b::bs) (p::pl) n=gtB bs pl n:=by
 unfold gtB;rw[gN,if_neg h,P7];rfl
theorem zk:gtB (b::bs) (p::pl) b=p:=by
 unfold gtB;rw[gN,if_pos rfl];rfl
theorem QJ:∀{ns:List Str} {p f:Nat} {pl:List Nat},b∉ns->asg (b::bs) ns f (p::pl)=p::asg bs ns f pl
 | [],_,_,_,_=>rfl
 | n::ns,p,f,pl,h=>by
  have h1:b≠n:=λe=>h (by rw[e];exact D3)
  show asg (b::bs) ns (f+1) (eh (b::bs) (p::pl) n f)=p::asg bs ns (f+1) (eh bs pl n f)
  rw[vk9 h1,QJ λe=>h (C7 _ e)]
theorem Qt:∀{bs:List Str} {ps qs:List Nat} {f:Nat},bs.Nodup->ps.length=bs.length->qs.length=bs.length->asg bs (iu bs ps qs) f ps=fV f ps qs
 | [],ps,qs,f,_,h1,h2=>by
  have e1:ps=[]:=D7 h1;subst e1;cases qs <;> rfl
 | b::bs,[],qs,f,_,h1,_=>by cases h1
 | b::bs,p::ps,[],f,_,_,h2=>by cases h2
 | b::bs,p::ps,q::qs,f,hn,h1,h2=>by
  obtain⟨n1,n2⟩:=O9.mp hn;have h1:ps.length=bs.length:=O4 h1;have h2:qs.length=bs.length:=O4 h2;have nb:b∉iu bs ps qs:=λe=>n1 (Dr e)
  unfold iu fV;split
  ·rw[QJ nb,Qt n2 h1 h2]
  ·show asg (b::bs) (iu bs ps qs) (f+1) (eh (b::bs) (p::ps) b f)=_
   have e:eh (b::bs) (p::ps) b f=f::ps:=by unfold eh;rw[gN,if_pos rfl];rfl
   rw[e,QJ nb,Qt n2 h1 h2]
theorem QW:∀{bs:List Str} {ps qs:List Nat} {f:Nat},bs.Nodup->ps.length=bs.length->qs.length=bs.length ->
  ((iu bs ps qs).map λn=>Row.add (gtB bs (fV f ps qs) n) (.box (gtB bs ps n)))=iy f (uY ps qs)/\((iu bs ps qs).map λn=>Row.add (gtB bs (fV f ps qs) n) (.box (gtB bs qs n)))=iy f (uN ps qs)
 | [],ps,qs,f,_,h1,h2=>by
  have e1:ps=[]:=D7 h1;have e2:qs=[]:=D7 h2;subst e1 e2;exact#[rfl,rfl]
 | b::bs,[],qs,f,_,h1,_=>by cases h1
 | b::bs,p::ps,[],f,_,_,h2=>by cases h2
 | b::bs,p::ps,q::qs,f,hn,h1,h2=>by
  obtain⟨n1,n2⟩:=O9.mp hn;have h1:ps.length=bs.length:=O4 h1;have h2:qs.length=bs.length:=O4 h2;have nb:∀n∈iu bs ps qs,b≠n:=λn hm e=>n1 (by rw[e];exact Dr hm)
  by_cases e:p=q
  ·have ih:=QW (f:=f) n2 h1 h2
   have e1:iu (b::bs) (p::ps) (q::qs)=iu bs ps qs:=by rw[iu,if_pos e]
   have e2:fV f (p::ps) (q::qs)=p::fV f ps qs:=by rw[fV,if_pos e]
   have e3:uY (p::ps) (q::qs)=uY ps qs:=by rw[uY,if_pos e]
   have e4:uN (p::ps) (q::qs)=uN ps qs:=by rw[uN,if_pos e]
   rw[e1,e2,e3,e4,<- ih.1,<- ih.2];exact#[K9 λn hm=>by rw[uD (nb n hm),uD (nb n hm)],K9 λn hm=>by rw[uD (nb n hm),uD (nb n hm)]]
  ·have ih:=QW (f:=f+1) n2 h1 h2
   have e1:iu (b::bs) (p::ps) (q::qs)=b::iu bs ps qs:=by rw[iu,if_neg e]
   have e2:fV f (p::ps) (q::qs)=f::fV (f+1) ps qs:=by rw[fV,if_neg e]
   have e3:uY (p::ps) (q::qs)=p::uY ps qs:=by rw[uY,if_neg e]
   have e4:uN (p::ps) (q::qs)=q::uN ps qs:=by rw[uN,if_neg e]
   rw[e1,e2,e3,e4,C0,C0,zk,zk,zk]
   show(_::_=Row.add f (.box p)::iy (f+1) (uY ps qs))/\(_::_=Row.add f (.box q)::iy (f+1) (uN ps qs))
   rw[<- ih.1,<- ih.2];exact#[congrArg _ (K9 λn hm=>by rw[uD (nb n hm),uD (nb n hm)]),congrArg _ (K9 λn hm=>by rw[uD (nb n hm),uD (nb n hm)])]
theorem ZC:∀{bs:List Str} {ps qs:List Nat},ps.length=bs.length->qs.length=bs.length->(iu bs ps qs).length=(uY ps qs).length
 | [],ps,qs,h1,h2=>by
  have e1:ps=[]:=D7 h1;have e2:qs=[]:=D7 h2;subst e1 e2;rfl
 | b::bs,[],qs,h1,_=>by cases h1
 | b::bs,p::ps,[],_,h2=>by cases h2
 | b::bs,p::ps,q::qs,h1,h2=>by
  have ih:=ZC (bs:=bs) (ps:=ps) (qs:=qs) (O4 h1) (O4 h2);unfold iu uY;split
  ·exact ih
  ·rw[C1,C1,ih]
theorem vb7:∀{bs:List Str} {pl ps:List Nat},bs.Nodup->pl.length=bs.length->ps.length=bs.length->Bo (bI bs pl) (bI bs ps)=bI bs ps:=by
 have key:∀(b1 b2:List Str) (p1 p2 q2:List Nat),(b1++b2).Nodup->p1.length=b1.length->p2.length=b2.length->q2.length=b2.length->Bo (bI (b1++b2) (p1++p2)) (bI b2 q2)=bI (b1++b2) (p1++q2):=by
  intro b1 b2
  induction b2 generalizing b1 with
  | nil =>
   intro p1 p2 q2 _ _ h2 h3;have e1:p2=[]:=D7 h2;have e2:q2=[]:=D7 h3;subst e1 e2;rfl
  | cons b b2 ih =>
   intro p1 p2 q2 hn h1 h2 h3;cases p2 with
   | nil=>cases h2
   | cons p p2 =>
    cases q2 with
    | nil=>cases h3
    | cons q q2 =>
     have hx:b∈b1++b::b2:=by simp
     have st:lA (bI (b1++b::b2) (p1++p::p2)) (.inr b) (.int (q:Int))=bI (b1++b::b2) (p1++q::p2):=by
      rw[Rg hx hn (by rw[B4,B4,h1,h2])];have hix:gN (b1++b::b2) b=b1.length:=by
       have nb:b∉b1:=λh=>(MZ.mp hn).2.2 b h b D3 rfl
       clear ih hn h1 h2 h3 hx
       induction b1 with
       | nil=>show(if b=b then 0 else _)=0;rw[if_pos rfl]
       | cons a b1 ih =>
        have na:¬ a=b:=λe=>nb (by rw[e];exact D3)
        show(if a=b then 0 else 1+gN (b1++b::b2) b)=_
        rw[if_neg na,ih λh=>nb (C7 _ h),C1];omega
      unfold eh;rw[hix,<- h1,List.set_append_right _ _ (B8 _),U4];rfl
     show Bo (lA (bI (b1++b::b2) (p1++p::p2)) (.inr b) (.int (q:Int))) (bI b2 q2)=_
     rw[st];have:=ih (b1++[b]) (p1++[q]) p2 q2 (by simpa using hn) (by simp[h1]) (O4 h2) (O4 h3);simpa using this
 intro bs pl ps hn h1 h2;have:=key [] bs [] pl ps hn rfl h1 h2;simpa using this
theorem ZS:∀{bs:List Str} {ps:List Nat},ps.length=bs.length->(bI bs ps).map (λkv=>kD kv.1)=bs.map D.str
 | [],ps,_=>by cases ps <;> rfl
 | b::bs,[],h=>by cases h
 | b::bs,p::ps,h=>by
  show D.str b::(bI bs ps).map (λkv=>kD kv.1)=_
  rw[ZS (O4 h)];rfl
theorem uj5:∀{bs:List Str} {ps qs:List Nat},bs.Nodup->ps.length=bs.length->qs.length=bs.length->bs.filter (λn=>!decide (gtB bs ps n=gtB bs qs n))=iu bs ps qs
 | [],ps,qs,_,_,_=>by cases ps <;> cases qs <;> rfl
 | b::bs,[],qs,_,h1,_=>by cases h1
 | b::bs,p::ps,[],_,_,h2=>by cases h2
 | b::bs,p::ps,q::qs,hn,h1,h2=>by
  obtain⟨n1,n2⟩:=O9.mp hn;have ih:=uj5 n2 (show ps.length=bs.length from O4 h1) (show qs.length=bs.length from O4 h2);have ht:bs.filter (λn=>!decide (gtB (b::bs) (p::ps) n=gtB (b::bs) (q::qs) n))=iu bs ps qs:=by
   rw[<- ih];refine List.filter_congr λn hm=>?_
   have hb:b≠n:=λe=>n1 (by rw[e];exact hm)
   rw[uD hb,uD hb]
  by_cases e:p=q
  ·rw[B03 (by rw[zk,zk];simp[e]),ht,iu,if_pos e]
  ·rw[B04 (by rw[zk,zk];simp[e]),ht,iu,if_neg e]
theorem ZJ:∀{u:List Str} {x:Str} {f:Nat} {pl:List Nat},asg bs (u++[x]) f pl=eh bs (asg bs u f pl) x (f+u.length)
 | [],x,f,pl=>rfl
 | n::u,x,f,pl=>by
  show asg bs (u++[x]) (f+1) (eh bs pl n f)=eh bs (asg bs u (f+1) (eh bs pl n f)) x (f+(u.length+1))
  rw[ZJ,show f+1+u.length=f+(u.length+1) by omega]
theorem YR:∀{u:List Str} {f:Nat} {pl:List Nat},(asg bs u f pl).length=pl.length
 | [],f,pl=>rfl
 | n::u,f,pl=>by
  show(asg bs u (f+1) (eh bs pl n f)).length=_
  rw[YR];unfold eh;rw[J5]
inductive tJ:Prop
 | mk (i:Int) (_:ds=[.int i]) (_:R (.bl true) G):tJ
theorem fN{G:Gp}(h:f s G):Go f s G:=h
inductive sU:Prop
 | mk (row:Row) (m:Nat) (_:ds=[row.d,.int ((m:Int)-1)]) (_:(∀x n k,(row=.go x n k\/row=.aL x n k)->k<m)) (_:R (lU m row).d G):sU
inductive sV:Prop
 | mk (c0:D) (ra:Addr) (rs:List Row) (_:ds=[.tup [c0,.ref ra]]) (_:G ra=some (.lst (rs.map Row.d))) (_:Pairs rs) (_:rs.length<=1000) (_:∀q G',G q=none->G' q=some (.lst ((iK rs).map Row.d))->ax G G'->R (.tup [c0,.ref q]) G'):sV
inductive tw:Prop
 | mk (row:Row) (a:Nat) (_:ds=[row.d,.int (a:Int)]) (_:R (mv a row).d G):tw
inductive qg:Prop
 | mk (ca:Addr) (cs:List bY) (_:ds=[.ref ca]) (_:G ca=some (.lst (cs.map bY.d))) (_:(∀c∈cs,G c.ra=some (.lst (c.rs.map Row.d))/\c.rs.length<=1000)) (_:0<cs.length) (_:cs.length<=10) (_:∀q G',G q=none->G' q=some (.lst ((iT [] (cs.map bY.rs)).map Row.d))->ax G G'->R (.tup [.int (gW cs:Int),.ref q]) G'):qg
theorem add_l{G:Gp}(h1:G a=some (.lst xs))(h2:G b=some (.lst ys))(hl:xs.length+ys.length<=10000001)(k:∀p,G p=none->q (.ref p) (aG G p (.lst (xs++ys)))):kg (.ref a) (.ref b) G q:=by
 show(match G a,G b with|some (.lst xs),some (.lst ys)=>xs.length+ys.length<=sizeLine/\∀p,G p=none->q (.ref p) (aG G p (.lst (xs++ys)))|_,_=>False)
 rw[h1,h2];exact⟨D6 hl ∅,k⟩
inductive e_(dp:Nat)(ds:List D)(G:Gp)(R:DK):Prop
 | mk (rs:List aq) (_:ds=[.tup (bB rs)]) (_:aS rs<dp) (_:bX rs<=1000) (_:hJ rs) (_:∀(q:Addr) (G':Gp),G q=none->G' q=some (.lst (bB (aF rs)))->ax G G'->R (.ref q) G'):e_ dp ds G R
def WG:fY:=e_ 8
theorem x49:n<*T.gu.1<*e_ 0:=Dd (by rintro ds G R ⟨_,_,h,_⟩;omega)
inductive lb(dp:Nat)(ds:List D)(G:Gp)(R:DK):Prop
 | mk (r:aq) (_:ds=[cI r]) (_:jB r<=dp) (_:kh r<=1000) (_:yj r) (_:∀(q:Addr) (G':Gp),G q=none->G' q=some (.lst (bB (dO r)))->ax G G'->R (.ref q) G'):lb dp ds G R
inductive tq:Prop
 | mk (x y:D) (rs:List aq) (_:ds=[.tup [x,y,.tup (bB rs)]]) (_:aS rs<=6) (_:bX rs<=1000) (_:hJ rs) (_:∀(q:Addr) (G':Gp),G q=none->G' q=some (.lst (bB (aF rs)))->ax G G'->R (.ref q) G'):tq
structure iG(st sp:Addr)(G G':Gp):Prop where
 at_:cE G' st
 xT:∃s:Int,G' sp=some (.lst [.int s])
 kp:∀c o,c≠st->c≠sp->G c=some o->G' c=some o
theorem iG.refl{G:Gp}(S:cE G st)(h:G sp=some (.lst [.int s])):iG st sp G G:=⟨S,⟨s,h⟩,λ_ _ _ _ e=>e⟩
theorem iG.trans{st sp:Addr}{G G1 G2:Gp}(a:iG st sp G G1)(b:iG st sp G1 G2):iG st sp G G2:=⟨b.at_,b.xT,λc o h1 h2 e=>b.kp c o h1 h2 (a.kp c o h1 h2 e)⟩
theorem iG.w_{G G1 G2:Gp}(a:iG st sp G G1)(b:eV st G1 G2)(n:sp≠st):iG st sp G G2:=⟨b.at_,(let ⟨s,e⟩:=a.xT;#[s,b.kp _ _ n e]),λc o h1 h2 e=>b.kp c o h1 (a.kp c o h1 h2 e)⟩
theorem iG.grow{G G1 G2:Gp}(a:iG st sp G G1)(g:ax G1 G2):iG st sp G G2:=⟨a.at_.grow g,(let ⟨s,e⟩:=a.xT;#[s,g.kp _ _ e]),λc o h1 h2 e=>g.kp _ _ (a.kp c o h1 h2 e)⟩
theorem iG.put{G G1:Gp}(a:iG st sp G G1)(hq:G q=none)(k:G1 q=some (.lst xs))(n1:q≠st)(n2:q≠sp):iG st sp G (aG G1 q (.lst ys)):=⟨a.at_.set k n1,(let ⟨s,e⟩:=a.xT;#[s,by rw[av (D8 n2)];exact e]),λc o h1 h2 e=>by rw[av (aU e hq)];exact a.kp c o h1 h2 e⟩
theorem iG.less{G G1:Gp}(a:iG st sp G G1)(h:G1 sp=some (.lst [.int s]))(n:sp≠st):iG st sp G (aG G1 sp (.lst [.int s'])):=⟨a.at_.set h n,⟨s',aC⟩,λc o h1 h2 e=>by rw[av h2];exact a.kp c o h1 h2 e⟩
theorem iF:∀{a b:List aq},hJ (a++b)↔hJ a/\hJ b
 | [],b=>by simp[hJ]
 | r::a,b=>by
  show yj r/\hJ (a++b)↔(yj r/\hJ a)/\hJ b
  rw[iF,and_assoc]
inductive fe(dp:Nat)(ds:List D)(G:Gp)(R:DK):Prop
 | mk (d:D) (rs:List aq) (_:ds=[d]) (_:jo G d=some (bB rs)) (_:hJ rs) (_:bX rs<=10000000) (_:aS rs<dp) (_:R (.int (bX rs:Int)) G):fe dp ds G R
def WB:fY:=fe 8
theorem x52:n<*T.gw.1<*fe 0:=Dd (by rintro ds G R ⟨_,_,_,_,_,_,h,_⟩;omega)
inductive fc(dp:Nat)(ds:List D)(G:Gp)(R:DK):Prop
 | mk (st sp:Addr) (W deep room:Nat) (bs:List Str) (s:Int) (_:ds=[.ref st,.tup (bs.map .str),.int (W:Int),.int (deep:Int),.int (room:Int),.ref sp]) (_:cE G st) (_:sp≠st) (_:G sp=some (.lst [.int s])) (_:W<=16) (_:1<=bs.length) (_:bs.length<=6) (_:deep<dp) (_:deep<=5) (_:room<=200) (_:∀(rs:List aq) (G':Gp),dY W bs rs->hJ rs->bX rs<=room->aS rs<=deep->rs.length<=4->iG st sp G G'->R (.tup (bB rs)) G'):fc dp ds G R
def WC:fY:=fc 8
theorem x51:n<*T.gv.1<*fc 0:=Dd (by rintro ds G R ⟨_,_,_,_,_,_,_,_,_,_,_,_,_,_,h,_⟩;omega)
inductive lh(dp:Nat)(ds:List D)(G:Gp)(R:DK):Prop
 | mk (st sp:Addr) (W deep room:Nat) (bs:List Str) (s:Int) (_:ds=[.ref st,.tup (bs.map .str),.int (W:Int),.int (deep:Int),.int (room:Int),.ref sp]) (_:cE G st) (_:sp≠st) (_:G sp=some (.lst [.int s])) (_:W<=16) (_:1<=bs.length) (_:bs.length<=6) (_:deep<=dp) (_:deep<=5) (_:1<=room) (_:room<=200) (_:∀(r:aq) (G':Gp),qI W bs r->yj r->kh r<=room->jB r<=deep->iG st sp G G'->R (cI r) G'):lh dp ds G R
inductive fb(dp:Nat)(ds:List D)(G:Gp)(R:DK):Prop
 | mk (rs:List aq) (_:ds=[.tup (bB rs)]) (_:aS rs<dp) (_:hJ rs) (_:bX rs<=10000000) (_:∀(q:Addr) (G':Gp),G q=none->G' q=some (.lst (bB (aF rs)))->ax G G'->R (.ref q) G'):fb dp ds G R
def NG:fY:=fb 8
theorem x50:n<*T.ft.1<*fb 0:=Dd (by rintro ds G R ⟨_,_,h,_⟩;omega)
def gd(ks:List Nat)(n:Nat):Prop:=ks≠[]/\(∀k∈ks,1<=k)/\ks.sum=n
def nI(ks:List Nat):List Int:=ks.map λ(k:Nat)=>(k:Int)
theorem XB:∀ks:List Nat,(nI ks).sum=((ks.sum:Nat):Int)
 | []=>rfl
 | k::ks=>by
  have:=XB ks
  show(k:Int)+(nI ks).sum=_
  rw[this,N1];omega
def fU:List Nat->List aq->List (List aq)
 | [],_=>[]
 | c::cs,O=>O.take c::fU cs (O.drop c)
theorem Z_:∀(l:List Nat) (c:Nat) (O:List aq),fU (l++[c]) O=fU l O++[(O.drop l.sum).take c]
 | [],c,O=>rfl
 | k::l,c,O=>by
  show O.take k::fU (l++[c]) (O.drop k)=O.take k::fU l (O.drop k)++[_]
  rw[Z_ l c,List.drop_drop,N1];rfl
theorem KC:∀(l:List Nat) (O:List aq),l.sum<=O.length->(fU l O).map F9=l
 | [],O,_=>rfl
 | k::l,O,h=>by
  rw[N1] at h
  show(O.take k).length::(fU l (O.drop k)).map F9=k::l
  rw[KC l _ (by rw[MV];omega),MX,VB ()]
def jE(G:Gp):List Addr->List (List aq)->Prop
 | [],ps=>ps=[]
 | a::as,ps=>∃p t,ps=p::t/\G a=some (.lst (bB p))/\jE G as t
theorem jE.kp{G G':Gp}(g:∀a o,G a=some o->G' a=some o):∀{as:List Addr} {ps:List (List aq)},jE G as ps->jE G' as ps
 | [],_,h=>h
 | _::_,_,⟨p,t,e,h,r⟩=>#[p,t,e,g _ _ h,r.kp g]
theorem jE.wd{G G':Gp}:∀{as:List Addr} {ps:List (List aq)},(∀a∈as,∀o,G a=some o->G' a=some o)->jE G as ps->jE G' as ps
 | [],_,_,h=>h
 | a::_,_,g,⟨p,t,e,h,r⟩=>#[p,t,e,g a D3 _ h,r.wd λb hb=>g b (C7 _ hb)]
theorem jE.snoc{G:Gp}(h1:G a=some (.lst (bB p))):∀{as:List Addr} {ps:List (List aq)},jE G as ps->jE G (as++[a]) (ps++[p])
 | [],_,h=>by rw[show _=[] from h];exact#[p,[],rfl,h1,rfl]
 | _::_,_,⟨p',t,e,h,r⟩=>by rw[e];exact#[p',t++[p],rfl,h,r.snoc h1]
theorem jE.len{G:Gp}:∀{as:List Addr} {ps:List (List aq)},jE G as ps->as.length=ps.length
 | [],_,h=>by rw[show _=[] from h];rfl
 | _::_,_,⟨p',t,e,h,r⟩=>by rw[e,C1,C1,r.len]
theorem wh9{O:List aq}{a c:Nat}(h:a+c<=O.length):cutD (bB O) (some (a:Int)) (some ((a:Int)+(c:Int)))=bB ((O.drop a).take c):=by
 have e1:HT.b9 (bB O).length 0 (some (a:Int))=a:=by
  have:=oo O;simp only[HT.b9];split <;> omega
 have e2:HT.b9 (bB O).length (bB O).length (some ((a:Int)+(c:Int)))=a+c:=by
  have:=oo O;simp only[HT.b9];split <;> omega
 unfold cutD;rw[e1,e2,vD,vD,<- C58,<- List.map_take,Wo]
inductive nF:Prop
 | mk (x y:D) (rs:List aq) (ca:Addr) (ks:List Nat) (_:ds=[.tup [x,y,.tup (bB rs)],.ref ca]) (_:G ca=some (.lst ((nI ks).map .int))) (_:aS rs<=6) (_:bX rs<=1000) (_:hJ rs) (_:ks.length<=1000) (_:gd ks (aF rs).length) (_:∀(q:Addr) (as:List Addr) (G':Gp),G q=none->(∀a∈as,G a=none)->(∀a∈as,a≠q)->G' q=some (.lst (as.map .ref))->jE G' as (fU ks (aF rs))->ax G G'->R (.ref q) G'):nF
def c9(m k:Nat):List (Key×D):=(D1 k).map λj=>(L7 ((j+1:Nat):Int),.int (((j+2)*m:Nat):Int))
theorem w19(m k:Nat):(c9 m k).map (·.2)=((D1 k).map λj=>(((j+2)*m:Nat):Int)).map D.int:=by
 unfold c9;rw[L5,L5];rfl
inductive tO:Prop
 | mk (a:Addr) (m k:Nat) (_:ds=[.ref a,.int (m:Int)]) (_:1<=m) (_:k<=1000) (_:m<=1000) (_:G a=some (.bN (c9 m k))) (_:∀G',ax G G'->R (.int (((k+2)*m:Nat):Int)) G'):tO
inductive s_:Prop
 | mk (s m:Nat) (_:ds=[.int (s:Int),.int (m:Int)]) (_:m<=1000) (_:∀(q:Addr) (G':Gp),G q=none->G' q=some (.lst (((D1 m).map λj=>Row.add (m+j) (.box (s+j))).map Row.d))->ax G G'->R (.tup [.int ((s+m:Nat):Int),.ref q]) G'):s_
def WI:fY:=λds G R=>∃(a:Addr) (ns:List Int),ds=[.ref a]/\G a=some (.qV (ns.map .int))/\ns.length<=63/\∀G',R (.bl true) G'
inductive tI:Prop
 | mk (s m:Nat) (_:ds=[.int (s:Int),.int (m:Int)]) (_:m<=1000) (_:∀(q:Addr) (G':Gp),G q=none->G' q=some (.lst (((D1 m).map λj=>Row.swap (m+j) (s+j)).map Row.d))->ax G G'->R (.tup [.int ((s+m:Nat):Int),.ref q]) G'):tI
theorem vk6(m k:Nat):(c9 m k).map (·.1)=((D1 k).map λj=>((j+1:Nat):Int)).map L7:=by
 unfold c9;rw[L5,L5];rfl
theorem Dt(m k:Nat):c9 m (k+1)=c9 m k++[(L7 ((k+1:Nat):Int),.int (((k+2)*m:Nat):Int))]:=by
 unfold c9;rw[R0,B9];rfl
inductive sZ:Prop
 | mk (a:Addr) (m k k':Nat) (mv:D) (_:ds=[mv,.ref a,.int (m:Int)]) (_:1<=m) (_:k<=60) (_:m<=1000) (_:G a=some (.bN (c9 m k))) (_:(mv=df "lay" (k+1)/\k'=k+1\/mv=df "clear" k/\k=k'+1\/mv=.tup [.str "show"]/\k'=k)) (_:∀(q:Addr) (G':Gp),G q=none->G' q=some (.bN (c9 m k'))->ax G G'->R (.ref q) G'):sZ
theorem KG(h:k<=j):((c9 m k).any λkv=>decide (kv.1=L7 ((j+1:Nat):Int)))=false:=by
 rw[V4];intro kv wH;unfold c9 at wH;obtain⟨i,hi,rfl⟩:=K2.mp wH;have hi:=K0.mp hi;rw[decide_eq_true_eq];intro e;have e:=Vh e;omega
theorem Dv:∀{k j:Nat},j<k->di (c9 m k) (L7 ((j+1:Nat):Int))=some (.int (((j+2)*m:Nat):Int))
 | 0,j,h=>()
 | k+1,j,h=>by
  unfold di;rw[Dt,VQ]
  by_cases e:j<k
  ·obtain⟨x,hx,hx2⟩:=E9.mp (Dv (m:=m) e)
   rw[hx];exact congrArg some hx2
  ·obtain rfl:j=k:=()
   have hn:((c9 m j).find? λkv=>decide (kv.1=L7 ((j+1:Nat):Int)))=none:=by
    have:=KG (m:=m) (B8 j);rw[V4] at this;rw[Na];exact this
   rw[hn];simp
theorem ue6:∀{ks:List Key} {vs:List D} {kvs:List (Key×D)} {k:Key} {v:D},ks.length=vs.length->qy (ks++[k]) (vs++[v]) kvs=lA (qy ks vs kvs) k v
 | [],[],_,_,_,_=>rfl
 | [],_::_,_,_,_,h=>by cases h
 | _::_,[],_,_,_,h=>by cases h
 | k0::ks,v0::vs,kvs,k,v,h=>ue6 (ks:=ks) (vs:=vs) (kvs:=lA kvs k0 v0) (by simpa using h)
theorem uk0(m:Nat):∀k:Nat,qy ((c9 m k).map (·.1)) ((c9 m k).map (·.2)) []=c9 m k
 | 0=>rfl
 | k+1=>by
  have h:=Dt m k;rw[h,B9,B9];refine(ue6 (by rw[B0,B0])).trans ?_;rw[uk0 m k];unfold lA;rw[KG (B8 k),if_neg ∅]
theorem vf6(m k:Nat):Bk (c9 m (k+1)) (L7 ((k+1:Nat):Int))=c9 m k:=by
 unfold Bk;rw[Dt,VX];have h1:(c9 m k).filter (λkv=>!decide (kv.1=L7 ((k+1:Nat):Int)))=c9 m k:=by
  rw[List.filter_eq_self];intro kv wH;have:=KG (m:=m) (B8 k);rw[V4] at this;have:=this kv wH;simpa using this
 first|(rw[h1];simp)|skip
def okM(mv:D)(k k':Nat):Prop:=mv=df "lay" (k+1)/\k'=k+1\/mv=df "clear" k/\k=k'+1\/mv=.tup [.str "show"]/\k'=k
def AH:Nat->List (D×Nat)->Prop
 | _,[]=>True
 | k,(mv,k')::r=>okM mv k k'/\k'<6/\AH k' r
def j6(G:Gp)(m:Nat):List Addr->List Nat->Prop
 | [],ls=>ls=[]
 | a::as,ls=>∃l r,ls=l::r/\G a=some (.bN (c9 m l))/\j6 G m as r
theorem j6.kp{G G':Gp}:∀{as:List Addr} {ls:List Nat},(∀a∈as,∀o,G a=some o->G' a=some o)->j6 G m as ls->j6 G' m as ls
 | [],_,_,h=>h
 | a::as,ls,g,h=>by
  obtain⟨l,r,rfl,h1,h2⟩:=h;exact#[l,r,rfl,g a D3 _ h1,j6.kp (λb hb=>g b (C7 _ hb)) h2]
theorem j6.snoc{G:Gp}(h1:G a=some (.bN (c9 m l))):∀{as:List Addr} {ls:List Nat},j6 G m as ls->j6 G m (as++[a]) (ls++[l])
 | [],ls,h=>by
  have h:ls=[]:=h;subst h;exact#[l,[],rfl,h1,rfl]
 | b::as,ls,h=>by
  obtain⟨l',r,rfl,e,h2⟩:=h;exact#[l',r++[l],rfl,e,j6.snoc h1 h2]
theorem j6.len{G:Gp}:∀{as:List Addr} {ls:List Nat},j6 G m as ls->as.length=ls.length
 | [],ls,h=>by
  have h:ls=[]:=h;subst h;rfl
 | b::as,ls,h=>by
  obtain⟨l',r,rfl,e,h2⟩:=h;exact congrArg (·+1) (j6.len h2)
inductive p9:Prop
 | mk (pa:Addr) (m:Nat) (st:List (D×Nat)) (_:ds=[.ref pa,.int (m:Int)]) (_:G pa=some (.lst (st.map (·.1)))) (_:1<=m) (_:m<=1000) (_:st.length<=500) (_:AH 0 st) (_:∀(q:Addr) (as:List Addr) (G':Gp),G q=none->(∀a∈as,G a=none)->(∀a∈as,a≠q)->G' q=some (.lst (as.map .ref))->j6 G' m as (0::st.map (·.2))->ax G G'->R (.ref q) G'):p9
inductive tG:Prop
 | mk (pc:Addr) (W:Nat) (bs:List Str) (rs:List aq) (x:D) (_:ds=[.ref pc,.tup [.int (W:Int),.tup (bs.map .str),x]]) (_:G pc=some (.lst (bB rs))) (_:nC W bs rs) (_:∀G',ax G G'->R (.int ((2*kr W bs rs+bs.length:Nat):Int)) G'):tG
inductive qj:Prop
 | mk (W:Nat) (bs:List Str) (rs:List aq) (ca:Addr) (ks:List Nat) (_:ds=[.tup [.int (W:Int),.tup (bs.map .str),.tup (bB rs)],.ref ca]) (_:G ca=some (.lst ((nI ks).map .int))) (_:aS rs<=6) (_:bX rs<=1000) (_:hJ rs) (_:ks.length<=1000) (_:gd ks (aF rs).length) (_:(∀p∈fU ks (aF rs),nC W bs p)) (_:∀(q:Addr) (G':Gp),G q=none->G' q=some (.lst (((fU ks (aF rs)).map (pR W bs)).map .int))->ax G G'->R (.ref q) G'):qj
inductive tM:Prop
 | mk (p ra ha:Addr) (rs:List Row) (bs bz:List Int) (s z sz d most:Nat) (_:ds=[.ref p,.int (z:Int),.int (most:Int)]) (_:bC cS G p ra ha rs bs s) (_:jj sz rs bs s) (_:Pairs rs) (_:ji rs z bz s bs d) (_:d<most) (_:∀G',bC cS G' p ra ha rs bz z->jj sz rs bz z->Kept p ha G G'->R (.int (d:Int)) G'):tM
def NV(add:Bool):Str:=if add=true then "add" else "take"
inductive tH:Prop
 | mk (add:Bool) (pc:Addr) (W:Nat) (bs:List Str) (rs:List aq) (x:D) (src aN fr:Nat) (_:ds=[.str (NV add),.ref pc,.tup [.int (W:Int),.tup (bs.map .str),x],.int (src:Int),.int (aN:Int),.int (fr:Int)]) (_:G pc=some (.lst (bB rs))) (_:nC W bs rs) (_:1<=W) (_:22*cf rs<=440) (_:src+bs.length<=fr) (_:fr<=1000) (_:aN<=1000) (_:∀(q:Addr) (G':Gp),G q=none->G' q=some (.lst ((fL add W bs rs src aN fr).map Row.d))->ax G G'->R (.tup [.int ((bf W bs rs 0 (bS src bs.length) fr).2.2.1:Int),.ref q]) G'):tH
inductive tD:Prop
 | mk (mv:D) (pc:Addr) (W:Nat) (bs:List Str) (rs:List aq) (x:D) (src aN fr:Nat) (rows:List Row) (sz:Nat) (_:ds=[mv,.ref pc,.tup [.int (W:Int),.tup (bs.map .str),x],.int (src:Int),.int (aN:Int),.int (fr:Int)]) (_:G pc=some (.lst (bB rs))) (_:nC W bs rs) (_:1<=W) (_:22*cf rs<=440) (_:src+bs.length<=fr) (_:fr<=1000) (_:aN<=1000) (_:qr W bs rs src aN fr mv rows sz) (_:∀(q:Addr) (G':Gp),G q=none->G' q=some (.lst (rows.map Row.d))->ax G G'->R (.tup [.int (sz:Int),.ref q]) G'):tD
def jf(l:Nat):Int:=2^l-1
def stK:Nat->Int
 | 0=>0
 | k+1=>1*2^k
theorem Ki:∀k,k<6->(∀l,l<6->(!decide (R7 (jf l) (stK (k+1))=0))=decide (k+1<=l))/\JG (jf k) (stK (k+1))=jf (k+1)/\R7 (jf (k+1)) (U7 (stK (k+1)))=jf k/\R7 (jf (k+1)) 1=1/\jf (k+1) / 2^Int.toNat 1=jf k/\((0:Int)<jf (k+1)):=∅
inductive nG:Prop
 | mk (k:Nat) (_:ds=[.int (k:Int)]) (_:k<=1000) (_:R (.int (stK k)) G):nG
inductive p8:Prop
 | mk (k l:Nat) (_:ds=[.int (k:Int),.int (jf l)]) (_:k<7) (_:l<6) (_:R (.bl (decide (k<=l))) G):p8
inductive qa:Prop
 | mk (l:Nat) (_:ds=[.int (jf l)]) (_:l<6) (_:R (.int (l:Int)) G):qa
inductive ql:Prop
 | mk (mv:D) (k k':Nat) (_:ds=[mv,.int (jf k)]) (_:okM mv k k') (_:k<6) (_:k'<6) (_:R (.int (jf k')) G):ql
inductive tj:Prop
 | mk (a:Addr) (st:List (D×Nat)) (_:ds=[.ref a]) (_:G a=some (.lst (st.map (·.1)))) (_:AH 0 st) (_:st.length<=500) (_:∀(q:Addr) (G':Gp),G q=none->G' q=some (.lst ((0::st.map (·.2)).map λl=>D.int (jf l)))->ax G G'->R (.ref q) G'):tj
inductive tE:Prop
 | mk (a:Addr) (st:List (D×Nat)) (n:Nat) (_:ds=[.ref a]) (_:G a=some (.lst (st.map (·.1)))) (_:AH 0 st) (_:st.length<=500) (_:n∈0::st.map (·.2)) (_:(∀l∈0::st.map (·.2),l<=n/\l<6)) (_:∀G',ax G G'->R (.int (n:Int)) G'):tE
inductive tF:Prop
 | mk (mv:D) (k n s:Nat) (_:ds=[mv,.int (jf k),.int (n:Int),.int (s:Int)]) (_:(mv=df "lay" (k+1)/\k<s/\k+1<=n\/mv=df "clear" k/\1<=k/\k<=n)) (_:n<=5) (_:R (.bl true) G):tF
theorem js.ch(hn:n<=5):∀{st:List (D×Nat)} {l:Nat} {b:Bool},js n s l b st->AH l st/\∀x∈st.map (·.2),x<=n
 | [],_,_,_=>#[trivial,λ_ h=>nomatch h]
 | (mv,l')::r,l,b,h=>by
  rcases h with⟨rfl,rfl,h1,h2,h3⟩|⟨rfl,rfl,h1,h3⟩|⟨rfl,rfl,rfl,rfl,h3⟩
  ·obtain⟨i1,i2⟩:=js.ch hn h3
   exact#[#[.inl #[rfl,rfl],(),i1],Wa.mpr #[h2,i2]]
  ·obtain⟨i1,i2⟩:=js.ch hn h3
   exact#[#[.inr (.inl #[rfl,rfl]),(),i1],Wa.mpr #[by show l'<=n;omega,i2]]
  ·obtain⟨i1,i2⟩:=js.ch hn h3
   exact#[#[.inr (.inr #[rfl,rfl]),(),i1],Wa.mpr #[B8 _,i2]]
inductive qk:Prop
 | mk (a:Addr) (st:List (D×Nat)) (n s:Nat) (_:ds=[.ref a,.int (n:Int),.int (s:Int)]) (_:G a=some (.lst (st.map (·.1)))) (_:js n s 0 false st) (_:1<=n) (_:n<=4) (_:R (.str "shown") G):qk
theorem wf1{m k l:Nat}(h1:1<=k)(h2:k<=l+1):(di (c9 m l) (L7 ((k:Int)-1))).getD (.int 0)=.int (ku m k:Int):=by
 unfold ku
 by_cases e:k=1
 ·subst e
  have hn:di (c9 m l) (L7 (((1:Nat):Int)-1))=none:=by
   unfold di;rw[Na.mpr]
   ·rfl
   ·intro kv wH
    unfold c9 at wH;obtain⟨i,hi,rfl⟩:=K2.mp wH;rw[decide_eq_true_eq];intro e;have e:=Vh e;omega
  rw[hn];rfl
 ·obtain⟨j,rfl⟩:∃j,k=j+2:=#[k-2,()]
  rw[show((j+2:Nat):Int)-1=((j+1:Nat):Int) by omega,Dv (),if_neg e];rfl
def tX(n:Nat)(mv:D)(k:Nat):Prop:=mv=df "lay" k\/mv=df "clear" k\/mv=.tup [.str "show"]/\k=n
theorem tX.key{n k:Nat}{mv:D}(h:tX n mv k):∃mk:List Key,mv=.tup (mk.map kD):=by
 rcases h with rfl|rfl|⟨rfl,rfl⟩
 ·exact⟨[.inr "lay",.inl (k:Int)],rfl⟩
 ·exact⟨[.inr "clear",.inl (k:Int)],rfl⟩
 ·exact⟨[.inr "show"],rfl⟩
theorem tX.Kw{n k k':Nat}{mv:D}(h:tX n mv k)(h':tX n mv k'):k=k':=by
 rcases h with rfl|rfl|⟨rfl,rfl⟩ <;> rcases h' with e|e|⟨e,h⟩ <;> simp[df] at e <;> omega
theorem tX.code{n k:Nat}{mv:D}(h:tX n mv k)(W:Nat)(bs:List Str)(rs:List aq)(src aN fr:Nat):∃rows sz,qr W bs rs src aN fr mv rows sz:=by
 rcases h with rfl|rfl|⟨rfl,rfl⟩
 ·exact⟨_,_,.lay⟩
 ·exact⟨_,_,.clear⟩
 ·exact⟨_,_,.Ld⟩
def L_(W:Nat)(bs:List Str)(PP:List (List aq))(fr n:Nat)(q:fA)(c:bY):Prop:=∃(mv:D) (k src aN:Nat),zE q=.tup [mv,.int (src:Int),.int (aN:Int)]/\tX n mv k/\qr W bs (PP.getD (k-1) []) src aN fr mv c.rs c.sz
theorem L_.get{W:Nat}{bs:List Str}{PP:List (List aq)}{fr n k src aN:Nat}{q:fA}{c:bY}{mv:D}(h:L_ W bs PP fr n q c)(e:zE q=.tup [mv,.int (src:Int),.int (aN:Int)])(hk:tX n mv k):qr W bs (PP.getD (k-1) []) src aN fr mv c.rs c.sz:=by
 obtain⟨mv',k',s',t',e',h1,h2⟩:=h;rw[e] at e';simp only[D.tup.injEq,V1,D.int.injEq,and_true,Int.ofNat_inj] at e';obtain⟨rfl,rfl,rfl⟩:=e';obtain rfl:=hk.Kw h1;exact h2
inductive p_:Prop
 | mk (W:Nat) (bs:List Str) (x:D) (PP:List (List aq)) (pp pl sl:Addr) (as ss:List Addr) (st:List (D×Nat)) (s:Nat) (_:ds=[.tup [.int (W:Int),.tup (bs.map .str),x],.ref pp,.ref pl,.ref sl]) (_:G pp=some (.lst (as.map .ref))) (_:jE G as PP) (_:G pl=some (.lst (st.map (·.1)))) (_:G sl=some (.lst (ss.map .ref))) (_:j6 G bs.length ss (0::st.map (·.2))) (_:js PP.length s 0 false st) (_:PP.length∈st.map (·.2)) (_:1<=PP.length) (_:PP.length<=4) (_:st.length<=9) (_:tV W bs PP) (_:∀(q:Addr) (cs:List bY) (G':Gp),G q=none->G' q=some (.lst (cs.map bY.d))->(∀c∈cs,G' c.ra=some (.lst (c.rs.map Row.d)))->lr W bs PP bs.length ((2+PP.length)*bs.length) 0 st cs->ax G G'->R (.ref q) G'):p_
structure tW(W:Nat)(bs:List Str)(rs:List aq)(ks:List Nat)(st:List (D×Nat))(s:Nat):Prop where
 dp:aS rs<=6
 wt:bX rs<=1000
 bd:hJ rs
 kl:ks.length<=4
 gd:gd ks (aF rs).length
 pk:tV W bs (fU ks (aF rs))
 oc:js (fU ks (aF rs)).length s 0 false st
 mm:(fU ks (aF rs)).length∈st.map (·.2)
 sl:st.length<=9
inductive qb:Prop
 | mk (W:Nat) (bs:List Str) (rs:List aq) (ca pl:Addr) (ks:List Nat) (st:List (D×Nat)) (s:Nat) (_:ds=[.tup [.int (W:Int),.tup (bs.map .str),.tup (bB rs)],.ref ca,.int (s:Int),.ref pl]) (_:G ca=some (.lst ((nI ks).map .int))) (_:G pl=some (.lst (st.map (·.1)))) (_:tW W bs rs ks st s) (_:∀(q:Addr) (cs:List bY) (G':Gp),G q=none->G' q=some (.lst ((iT [] (cs.map bY.rs)).map Row.d))->lr W bs (fU ks (aF rs)) bs.length ((2+(fU ks (aF rs)).length)*bs.length) 0 st cs->ax G G'->R (.tup [.int (gW cs:Int),.ref q]) G'):qb
def dn:Nat->List bY->List Nat
 | p,[]=>[p]
 | p,c::r=>p::dn (p+c.rs.length) r
inductive sY:Prop
 | mk (W:Nat) (bs:List Str) (rs:List aq) (ca pl:Addr) (ks:List Nat) (st:List (D×Nat)) (s:Nat) (_:ds=[.tup [.int (W:Int),.tup (bs.map .str),.tup (bB rs)],.ref ca,.int (s:Int),.ref pl]) (_:G ca=some (.lst ((nI ks).map .int))) (_:G pl=some (.lst (st.map (·.1)))) (_:tW W bs rs ks st s) (_:∀(q:Addr) (cs:List bY) (as:List Addr) (G':Gp),G q=none->as.length=cs.length+1->G' q=some (.lst (((dn 0 cs).zip as).map λx=>D.tup [.int (x.1:Int),.ref x.2]))->lr W bs (fU ks (aF rs)) bs.length ((2+(fU ks (aF rs)).length)*bs.length) 0 st cs->ax G G'->R (.ref q) G'):sY
inductive tK:Prop
 | mk (st:Addr) (_:ds=[.ref st]) (_:cE G st) (_:∀(W:Nat) (bs:List Str) (rs:List aq) (G':Gp),1<=W->W<=16->1<=bs.length->bs.length<=6->bs.Nodup->dY W bs rs->hJ rs->aS rs<=3->bX rs<=20->aF rs≠[]->eV st G G'->R (.tup [.int (W:Int),.tup (bs.map .str),.tup (bB rs)]) G'):tK
theorem j6.two{G:Gp}:∀{ss:List Addr},j6 G m ss (lv::l'::r)->∃a a' s3,ss=a::a'::s3/\G a=some (.bN (c9 m lv))/\G a'=some (.bN (c9 m l'))/\j6 G m (a'::s3) (l'::r)
 | [],h=>nomatch h
 | [a],⟨_,_,e,_,h⟩=>by cases e;cases h
 | a::a'::s3,⟨_,_,e,h1,h2⟩=>by
  cases e;have h3:=h2;obtain⟨_,_,e,h4,h5⟩:=h2;cases e;exact#[a,a',s3,rfl,h1,h4,h3]
theorem jE.get{G:Gp}:∀{as:List Addr} {ps:List (List aq)} {i:Nat},jE G as ps->i<ps.length->∃a,as[i]?=some a/\G a=some (.lst (bB (ps.getD i [])))
 | [],ps,i,h,hi=>by
  have h:ps=[]:=h;subst h;cases hi
 | a::as,ps,i,h,hi=>by
  obtain⟨p,t,rfl,h1,h2⟩:=h;cases i with
  | zero=>exact#[a,rfl,h1]
  | succ i =>
   obtain⟨b,e1,e2⟩:=jE.get (i:=i) h2 (Nat.lt_of_succ_lt_succ hi);exact#[b,e1,e2]
theorem wk2(hn:jd kvs k=none)(h:jd (xW kvs k v) q=some d):q=k/\d=v\/jd kvs q=some d:=by
 have sv:kvs.find? (λkv=>decide (kv.1=k))=none:=by unfold jd at hn;simpa using hn
 have ha:(kvs.any λkv=>decide (kv.1=k))=false:=by
  rw[V4];rw[Na] at sv;exact sv
 unfold xW at h;rw[ha,if_neg ∅] at h;unfold jd at h⊢;rw[VQ] at h;cases e:kvs.find? (λkv=>decide (kv.1=q)) with
 | some x=>rw[e] at h;exact .inr h
 | none =>
  rw[e] at h
  by_cases z:k=q
  ·subst z
   simp at h;exact .inl #[rfl,h.symm]
  ·simp[z] at h
theorem vk2(hn:jd kvs k=none):jd (xW kvs k v) k=some v:=by
 have sv:kvs.find? (λkv=>decide (kv.1=k))=none:=by unfold jd at hn;simpa using hn
 have ha:(kvs.any λkv=>decide (kv.1=k))=false:=by
  rw[V4];rw[Na] at sv;exact sv
 unfold xW jd;rw[ha,if_neg ∅,VQ,sv];simp
theorem tW.len(h:tW W bs rs ks st s):1<=(fU ks (aF rs)).length/\(fU ks (aF rs)).length<=4:=by
 have e:=congrArg F9 (KC ks (aF rs) (by rw[h.gd.2.2];exact B8 _));rw[B0] at e;have h1:=h.kl;have h2:ks.length≠0:=λz=>h.gd.1 (B05.mp z)
 omega
theorem KU:∀{cs:List bY} {p:Nat},(dn p cs).length=cs.length+1
 | [],_=>rfl
 | _::_,_=>congrArg (·+1) KU
theorem uq2:∀{cs:List bY} {p:Nat},dn p (cs++[c])=dn p cs++[p+((cs++[c]).map λc=>c.rs.length).sum]
 | [],p=>by simp[dn]
 | d::cs,p=>by
  show p::dn _ (cs++[c])=p::(dn _ cs++_)
  rw[uq2,J7,C0,N1,K5]
theorem vg9:cutD (x::xs) (some 1) none=xs:=by
 unfold cutD;rw[HT.lW,show((1:Int))=((1:Nat):Int) from rfl,HT.kH,VB (by simp)];simp
inductive tN:Prop
 | mk (st:Addr) (m mx:Nat) (_:ds=[.ref st,.int (m:Int),.int (mx:Int)]) (_:cE G st) (_:1<=m) (_:m<=1000) (_:1<=mx) (_:mx<=100) (_:∀(q:Addr) (ks:List Nat) (G':Gp),gd ks m->ks.length<=mx->q≠st->G q=none->G' q=some (.lst ((nI ks).map .int))->eV st G G'->R (.ref q) G'):tN
def je(n:Nat):List (D×Nat):=((D1 n).map λj=>(df "lay" (j+1),j+1))++[(.tup [.str "show"],n)]++((D1 n).map λj=>(df "clear" (n-j),n-j-1))
theorem wo2(h1:1<=n)(h4:n<=4)(hs:n<=s):js n s 0 false (je n)/\n∈(je n).map (·.2)/\(je n).length<=9:=by
 obtain rfl|rfl|rfl|rfl:n=1\/n=2\/n=3\/n=4:=()
 all_goals refine⟨?_,∅,∅⟩
 all_goals simp[je,js,D1,D16,df];omega
def sI(W:Nat)(bs:List Str)(PP:List (List aq)):Nat->List (D×Nat)->List Nat
 | _,[]=>[]
 | l,(_,l')::r=>jA W bs PP l l'::sI W bs PP l' r
def Hb(W:Nat)(bs:List Str)(p:List aq):Nat:=2*kr W bs p+bs.length
theorem wg6:∀{PP:List (List aq)},1<=PP.length->PP.length<=4->sI W bs PP 0 (je PP.length)=PP.map (Hb W bs)++[bs.length]++(PP.map (Hb W bs)).reverse
 | [_],_,_=>rfl
 | [_,_],_,_=>rfl
 | [_,_,_],_,_=>rfl
 | [_,_,_,_],_,_=>rfl
 | [],h,_=>by cases h
 | _::_::_::_::_::_,_,h=>by simp at h
theorem Zq:∀{ks:List Nat} {O p:List aq},p∈fU ks O->∃a b,O=a++p++b
 | [],_,_,h=>nomatch h
 | k::ks,O,p,h=>by
  rcases E6.mp h with rfl|h
  ·exact⟨[],O.drop k,by simp⟩
  ·obtain⟨a,b,e⟩:=Zq h
   exact#[O.take k++a,b,by rw[E2,E2,<- E2 a p b,<- e,List.take_append_drop]]
theorem x96{bs:List Str}(h1:1<=W)(h2:W<=16)(h3:1<=bs.length)(h4:bs.length<=6)(hn:bs.Nodup)(ho:dY W bs rs)(hd:aS rs<=3)(hw:bX rs<=20):tV W bs (fU ks (aF rs)):=by
 refine#[λp hp=>?_,h1,h3,h4];obtain⟨a,b,e⟩:=Zq hp;have o1:=Dm rs ho;have o2:=Dq rs;have o3:=Ds rs;have o4:=Bu rs;rw[e] at o1 o2 o3 o4;have o1:=(cP.mp (cP.mp o1).1).2;have o2:=(eY.mp (eY.mp o2).1).2;rw[xM,xM] at o3;rw[Bx,Bx] at o4;exact#[#[h4,hn,o1,o2,(),(),h2],()]
theorem dh.nth:∀{A:List (List Row)} {acc:List Row},dh W a (iT acc (A++c::L))->dh W (a+(acc.length+(A.map F9).sum)) c
 | [],acc,h=>h.part.1
 | x::A,acc,h=>by
  have:=dh.nth (A:=A) h.part.2;rw[KL,K5] at this;exact this
theorem YW{w:Str}{p:Addr}{G:Gp}{ns:List Nat}{q:DK}(hl:ns.length<=10)(h:q (.ref p) (aG G p (.lst (ns.map (df w))))):uw (λ_=>True) (rS 0) Ar (sJ (lQ (dC (.str w)) (lQ (ni 0) nk))) p q (ns.map nD) [none] (aG G p (.lst [])):=by
 refine kj (λr σ G'=>∃(l t:List Nat) (v:Option D),l++t=ns/\r=t.map nD/\G'=aG G p (.lst (l.map (df w)))/\σ=[v]) #[[],ns,none,rfl,rfl,rfl,rfl] ?_ ?_
 ·rintro σ G' ⟨l,t,v,e,e2,rfl,rfl⟩
  have ht:t=[]:=by simpa using e2.symm
  subst ht;rw[E4] at e;subst e;exact#[trivial,h]
 ·rintro z r σ G' ⟨l,t,v,e,e2,rfl,rfl⟩ ih
  cases t with
  | nil=>cases e2
  | cons k t =>
   cases e2;have hlen:=congrArg F9 e;rw[B4,C1] at hlen;refine#[trivial,?_]
   show 2<=sizeLine/\(match aG G p (.lst (l.map (df w))) p with|some (.lst xs)=>_|_=>False)
   rw[aC];refine#[∅,by rw[B0];exact C8 (m:=100) () ∅,ih _ _ #[l++[k],t,_,by rw[<- e];simp,rfl,?_,rfl]];rw[h9,B9];rfl
theorem Zl:∀{cs:List bY},(∀c∈cs,c.sz<=B)->gW cs<=B
 | [],_=>J8 _
 | c::cs,h=>Nat.max_le.mpr #[h c D3,Zl λc hc=>h c (C7 _ hc)]
theorem Lv.start{W m fr sz:Nat}{vs:List Nat}(hW:W<=16)(h1:vs.length=m)(h2:∀v∈vs,v<2^W)(hf:m<=fr)(hz:m<=sz):Lv fr sz (vs.map (λ(v:Nat)=>(v:Int))++D0 (sz-m) 0):=by
 refine#[#[by rw[B4,R4,B0];omega,λv hv=>?_],λi hi=>?_]
 ·rcases K1.mp hv with h|h
  ·obtain⟨n,hn,rfl⟩:=K2.mp h
   have:=C9 (h2 n hn) (Wb (n:=2) ∅ hW);omega
  ·rw[List.eq_of_mem_replicate h];omega
 ·unfold gt
  rw[J0,E8 (by rw[B0];omega),Wr];split <;> rfl
theorem qr.inv{W:Nat}{bs:List Str}{rs:List aq}{src aN fr sz:Nat}{mv:D}{rows:List Row}(h:qr W bs rs src aN fr mv rows sz):(∃k,mv=df "lay" k)/\rows=fL true W bs rs src aN fr\/(∃k,mv=df "clear" k)/\rows=fL false W bs rs src aN fr\/mv=.tup [.str "show"]/\rows=(D1 bs.length).map λj=>Row.add (bs.length+j) (.box (aN+j)):=by
 cases h with
 | lay=>exact .inl #[#[_,rfl],rfl]
 | clear=>exact .inr (.inl #[#[_,rfl],rfl])
 | Ld=>exact .inr (.inr #[rfl,rfl])
theorem lr.Kw:∀{st:List (D×Nat)} {l:Nat} {cs ds:List bY},lr W bs PP m fr l st cs->lr W bs PP m fr l st ds->cs.map bY.rs=ds.map bY.rs
 | [],_,cs,ds,h1,h2=>by
  have h1:cs=[]:=h1;have h2:ds=[]:=h2;rw[h1,h2]
 | (mv,l')::r,_,_,_,⟨c,t,e,m1,h1⟩,⟨d,u,f,m2,h2⟩=>by
  subst e f;rw[C0,C0,lr.Kw h1 h2]
  congr 1
  rcases m1.inv with⟨⟨k,rfl⟩,e1⟩|⟨⟨k,rfl⟩,e1⟩|⟨rfl,e1⟩ <;> rcases m2.inv with⟨⟨j,e⟩,e2⟩|⟨⟨j,e⟩,e2⟩|⟨e,e2⟩ <;> first|exact e1.trans e2.symm|(simp[df] at e;done)|(simp[df] at e;exact absurd e.1 ∅)
theorem Zx:∀{cs ds:List bY} {p:Nat},cs.map bY.rs=ds.map bY.rs->dn p cs=dn p ds
 | [],[],_,_=>rfl
 | [],_::_,_,h=>by cases h
 | _::_,[],_,h=>by cases h
 | c::cs,d::ds,p,h=>by
  rw[C0,C0] at h;injection h with h1 h2
  show p::dn _ cs=p::dn _ ds
  rw[h1,Zx h2]
theorem Zw:∀{c1:List bY} {p:Nat},(dn p (c1++c2))[c1.length]?=some (p+(c1.map λc=>c.rs.length).sum)
 | [],p=>by cases c2 <;> rfl
 | c::c1,p=>by
  show(dn (p+c.rs.length) (c1++c2))[c1.length]?=_
  rw[Zw,C0,N1,K5]
theorem Zv{as:List Addr}(h:as.length=(c1++c2).length+1):∃a,da (((dn 0 (c1++c2)).zip as).map λx=>D.tup [.int (x.1:Int),.ref x.2]) (c1.length:Int)=some (.tup [.int (((c1.map λc=>c.rs.length).sum:Nat):Int),.ref a]):=by
 have hl:c1.length<as.length:=by rw[h,B4];omega
 refine#[as[c1.length],uB ?_];rw[F0,show((dn 0 (c1++c2)).zip as)[c1.length]?=some ((c1.map λc=>c.rs.length).sum,as[c1.length]) from V0.mpr #[by rw[Zw,L0],B7 hl]];rfl
theorem Y':∀{st:List (D×Nat)} {l:Nat},(sI W bs PP l st).length=st.length
 | [],_=>rfl
 | _::_,_=>congrArg (·+1) Y'
theorem dk(d:FnAt K x qual st ps)(sc:ag N ps (bA st))
  (ht:∀(il:Value) (A:Around) (outer:List Env) (s:Shared) (H:Hp) (E:XK),aM k (A.deeper (C98 qual (bA st) s.heap.objs.size d.a il))->qZ (pe nZ P w K mg base N qual (bA st) d.a il A outer s H E).vX (pB st) t)
  (hb:∀ds G R,S ds G R->t { nx:=λ_ G'=>R .non G',rt:=R} (Br N ds) G) (hl:∀ds G R,S ds G R->ds.length=ps.length:=by intro _ _ _ h;cases h;subst_vars;rfl):Ok P w mg base (k+1) d S:=C_ d sc hl ht hb
theorem km(F:bG P w K mg base CX j f fd ps sp)(h:j<=k:=by decide):bG P w K mg base CX k f fd ps sp:=F.mono h
theorem ek{X:Cx}{d:Fg X.K X.mg x st ps}(G:bG X.prog X.w X.K X.mg X.base nZ k d.a d.fd ps (lR X.K S))(hr:aM k X.A)(ha:A3 X (e::es) ts)(hg:Gl X x:=by rfl)(gR:(x==("__debug__" :Str))=false:=by decide)
  (he:C5 (e::es) X.env=(false,eval e X.env)::C5 es X.env:=by rfl) (bZ:(backTo pos (C5 es X.env)).any (·.1)=false:=by rfl):E3 X (.Call (.Name x p) (e::es) [] pos) (j5 S [] ts):=ec d.1 d.g G hr ha hg gR he bZ
end
end Law
set_option compiler.extract_closed false
open PySem L2 L3 Rw in
set_option hygiene false in
local macro_rules | `(tactic| simp! [$xs,*])=>`(tactic| try simp only [↓JO,Int.toNat_natCast,↓j5,↓A_,↓CO,↓ij,↓NM,↓i5,↓AZ,↓nj,↓NP,↓Ax,↓dB,↓Az,↓Uk,↓Aw,↓NI,↓Au,↓NN,↓Ul,↓ni,↓dC,↓Av,↓LR,↓nk,↓lQ,↓sJ,↓sL,↓LU,↓LS,↓JQ,↓Qv,↓Ce,↓Um,↓wW,↓Ay,↓NQ,↓NJ,↓Ar,↓rS,↓zK,↓wm,↓NU,↓zL,↓Xh,↓Xi,↓vp,↓sM,↓CC,↓CK,↓CI,↓CH,↓CG,↓CF,↓CL,↓Wt,↓CB,zb,ko,Br,Bm,List.map_cons,List.map_nil,List.cons_append,List.nil_append,List.length_cons,List.length_nil,List.replicate,List.getElem?_cons_zero,List.getElem?_cons_succ,List.set_cons_zero,List.set_cons_succ,Nat.reduceAdd,Nat.reduceSub,Nat.sub_self,↓v79,↓v80,aC,Option.bind_some,Option.bind_none,id,Bool.false_eq_true,↓reduceIte,true_and,and_true,decide_true,decide_false,Bool.not_true,Bool.not_false,NH,xc1,xc0,xb9,xb8,x03,x02,x01,x05,x04,↓Ny,↓Nx,↓Nw,↓Nv,↓Nu,↓Nt,↓Nr,↓Nq,↓Np,↓Nn,↓x76,↓x75,↓x74,↓x73,↓x72,↓x71,↓Nl,↓Nk,↓Nj,↓Ni,↓Nh,↓Ng,↓Nf,↓Nd,↓Nc,↓Nb,↓x70,↓x69,↓x68,↓x67,↓x66,↓x65,↓x64,↓x63,↓x62,↓x61,↓x60,↓x59,↓x58,↓x57,↓x56,↓x55,↓x54,↓x53,↓NL,$xs,*])
open L3 in
set_option hygiene false in
local macro_rules | `(tactic| dsimp! [$xs,*])=>`(tactic| (simp only [Go];simp! [$xs,*]))
open PySem L2 L3 Rw in
set_option hygiene false in
local macro_rules | `(!$n:num)=>`(ev $n)
open PySem L2 L3 Rw in
set_option hygiene false in
local macro_rules | `(#v[])=>`(lu) | `(#v[$x])=>`(nS $x lu) | `(#v[$x,$xs,*])=>`(nS $x #v[$xs,*])
namespace Law
open PySem L2 L3 Rw
section
variable{P:Program}{w:World}{K:W.Frag}{mg:Str->Option Value}{base:Heap}(T:Txt K mg)
theorem wv8{n:Nat}(IU:n<*T.mK.1<*tw):n+1<*T.jW.1<*qg:=by
 refine dk T.jW.1 iP (λ_ _ _ _ _ _ hr =>
   (au (aQ 1 iP.nd (dU lu))
   (au (lB (jG (!0)) (c8 2 iP.nd) (au (aQ 3 iP.nd (cN eL rfl T.aX ∅ #v[!1]))
   (aE (dW (KO (!1) #v[(lT (N':=["row", "ahead"]) (ix:=[none,some 3]) (jh rfl rfl rfl) (jG (¬2)) (λ_ _ _ _=>(c8 0 (show(["row", "ahead"]:List Str).Nodup by decide))) (λ_ _ _ _=>ki) (λ_ _ _ _=>(ek IU hr #v[!0,!1])))])))))
   (aE (bj (bD #v[(cN YH rfl T.nA ∅ #v[(lT (N':=["code"]) (ix:=[none]) (jh rfl rfl rfl) (jG (!0)) (λ_ _ _ _=>(c8 0 (show(["code"]:List Str).Nodup by decide))) (λ_ _ _ _=>ki) (λ_ _ _ _=>(¬0)))]),!1])))))) (λds G R h=>?_)
 ·obtain⟨ca,cs,rfl,oY,Aj,h0,TX,post⟩:=h
  simp!;refine#[∅,λp hp=>?_];have npc:ca≠p:=aU oY hp;have own:∀{G1:Gp} {o:DO},ax G G1->ax G (aG G1 p o):=λg=>#[λb o e=>by rw[av (aU e hp)];exact g.kp _ _ e]
  have f0:aG G p (.lst []) ca=some (.lst (cs.map bY.d)):=by rw[av npc];exact oY
  dsimp![f0];refine lE (λr σ G'=>Hl λ(c1 c2:List bY) (acc:List Row) (v2 v3:Option D)=>MF (c1++c2=cs) (r=c2.map bY.d) (iT acc (c2.map bY.rs)=iT [] (cs.map bY.rs)) (acc.length<=1000*c1.length) (ax G G') (G' p=some (.lst (acc.map Row.d))) (σ=[some (.ref ca),some (.ref p),v2,v3]))
   #[[],cs,[],none,none,rfl,rfl,rfl,by simp,own ax.refl,aC,rfl] ?_ ?_
  ·rintro σ G' ⟨c1,c2,acc,v2,v3,e,e2,ej,hl,g,zY,rfl⟩
   have h2:c2=[]:=by simpa using e2.symm
   subst h2;have ej':acc=iT [] (cs.map bY.rs):=ej;refine#[by rw[g.kp _ _ oY];rfl,?_];dsimp![g.kp _ _ oY];intro p2 mf;have g2:∀{o:DO},ax G (aG G' p2 o):=g.new mf;have n2:p≠p2:=aU zY mf;refine kj (λr σ AG=>lN λ(d1 d2:List bY) (v:Option D)=>pz (d1++d2=cs) (r=d2.map bY.d) (AG=aG G' p2 (.lst ((d1.map λc=>(c.sz:Int)).map .int))) (σ=[v])) #[[],cs,none,rfl,rfl,rfl,rfl] ?_ ?_
   ·rintro σ AG ⟨d1,d2,v,e,e2,rfl,rfl⟩
    have h2:d2=[]:=by simpa using e2.symm
    subst h2;rw[E4] at e;subst e;refine#[by rw[g2.kp _ _ oY];rfl,?_];simp![CV,DB];refine#[by rw[B0];exact h0,λM hM1 hM2=>?_];rw[wy2 h0 hM1 hM2];refine#[∅,post p _ hp ?_ g2];rw[av n2,zY,ej']
   ·rintro z r σ AG ⟨d1,d2,v,e,e2,rfl,rfl⟩ ih
    cases d2 with
    | nil=>cases e2
    | cons c d2 =>
     cases e2;refine#[by rw[g2.kp _ _ oY];rfl,?_];simp![bY.d];refine#[?_,ih _ _ #[d1++[c],d2,_,by rw[<- e,E2];rfl,rfl,?_,rfl]]
     ·have:=congrArg F9 e
      rw[B4,C1] at this;rw[B0,B0];exact C8 (m:=20000) () ∅
     ·rw[h9,B9,B9];rfl
  ·rintro z r σ G' ⟨c1,c2,acc,v2,v3,e,e2,ej,hl,g,zY,rfl⟩ ih
   cases c2 with
   | nil=>cases e2
   | cons c c2 =>
    cases e2;refine#[by rw[g.kp _ _ oY];rfl,?_];have Ad:c∈cs:=by rw[<- e];simp
    obtain⟨GF,BY⟩:=Aj c Ad;have Ac:=congrArg F9 e;rw[B4,C1] at Ac;have wL:=g.kp _ _ GF;simp![zY,B0,bY.d];dsimp![wL,zY];intro p2 mf;have n2:p≠p2:=aU zY mf;have nc2:c.ra≠p2:=aU wL mf;refine kj (λr σ AG=>lN λ(l1 l2:List Row) (v:Option D)=>pz (l1++l2=c.rs) (r=l2.map Row.d) (AG=aG G' p2 (.lst ((l1.map (mv acc.length)).map Row.d))) (σ=[v,some (.int (acc.length:Int))])) #[[],c.rs,none,rfl,rfl,rfl,rfl] ?_ ?_
    ·rintro σ AG ⟨l1,l2,v,e,e2,rfl,rfl⟩
     have h2:l2=[]:=by simpa using e2.symm
     subst h2;rw[E4] at e;subst e;refine#[by rw[av nc2,wL];rfl,?_];have f1:aG G' p2 (.lst ((c.rs.map (mv acc.length)).map Row.d)) p=some (.lst (acc.map Row.d)):=by rw[av n2];exact zY
     simp![f1];refine#[by rw[B0,B0,B0];exact D6 (m:=100000) () ∅,?_];refine ih _ _ #[c1++[c],c2,dG acc c.rs,_,_,by rw[<- e,E2];rfl,rfl,ej,?_,own (g.new mf),?_,rfl]
     ·rw[KL,B4,U8];omega
     ·rw[aC,dG,B9]
    ·rintro z r σ AG ⟨l1,l2,v,e,e2,rfl,rfl⟩ ih'
     cases l2 with
     | nil=>cases e2
     | cons row l2 =>
      cases e2;refine#[by rw[av nc2,wL];rfl,?_];simp!;refine rC (v:=(mv acc.length row).d) (G1:=aG G' p2 (.lst ((l1.map (mv acc.length)).map Row.d))) (λR h=>#[row,acc.length,rfl,h]) ?_;simp!;refine#[?_,ih' _ _ #[l1++[row],l2,_,by rw[<- e,E2];rfl,rfl,?_,rfl]]
      ·have:=congrArg F9 e
       rw[B4,C1] at this;rw[B0,B0];exact C8 (m:=20000) () ∅
      ·rw[h9,B9,B9];rfl
theorem wt6{n:Nat}:n+1<*T.mK.1<*tw:=by
 refine dk T.mK.1 Yi (λ_ _ _ _ _ _ hr =>
   (au (aT (bO (yS hr) (¬0) (bD #v[aZ,aZ]) (by with_unfolding_all rfl)) (aE (bj (bD #v[¬0,¬0,¬0,(aP cG (¬0) (!1))]))) cU)
   (aE (bj (!0))))) (λds G R h=>?_)
 ·obtain⟨row,a,rfl,post⟩:=h
  rcases zI row with⟨x,n,k,rfl⟩|⟨x,n,k,rfl⟩|⟨w0,rest,hd,h1,h2,hp⟩
  ·have e:(k:Int)+(a:Int)=((k+a:Nat):Int):=()
   simp![Row.d,eJ,C6,decide_false,decide_true,QH,MD,Z8,Mz,MM,e];exact⟨∅,post⟩
  ·have e:(k:Int)+(a:Int)=((k+a:Nat):Int):=()
   simp![Row.d,eJ,C6,decide_false,decide_true,QH,MD,Z8,Mz,MM,e];exact⟨∅,post⟩
  ·have hm:mv a row=row:=by cases row <;> first|rfl|cases hp
   rw[hm,hd] at post;simp only[hd];simp![h1,h2,QH,MD,Z8,Mz,MM];dsimp!;exact post
theorem wr8{n:Nat}(IC:n<*T.mw.1<*sU):n+1<*T.my.1<*sV:=by
 refine dk T.my.1 ow (λ_ _ _ _ _ _ hr =>
   (au (aQ 1 ow.nd (aP iw (cN eL rfl T.aX ∅ #v[¬0]) aA))
   (aE (bj (bD #v[¬0,(lT (N':=["row", "last"]) (ix:=[none,some 1]) (jh rfl rfl rfl) (v39 rfl T.fP #v[¬0]) (λ_ _ _ _=>(c8 0 (show(["row", "last"]:List Str).Nodup by decide))) (λ_ _ _ _=>ki) (λ_ _ _ _=>(ek IC hr #v[!0,!1])))]))))) (λds G R h=>?_)
 ·obtain⟨c0,ra,rs,rfl,wA,hp,hl,post⟩:=h
  simp?[wA,yY,B0]
  intro p BS;have Sg:ra≠p:=aU wA BS;have er:(rs.map Row.d).reverse=rs.reverse.map Row.d:=by rw[VJ]
  rw[er];refine kj (λr σ G'=>lN λ(l1 l2:List Row) (v:Option D)=>pz (l1++l2=rs.reverse) (r=l2.map Row.d) (G'=aG G p (.lst ((l1.map (lU rs.length)).map Row.d))) (σ=[v,some (.int ((rs.length:Int)-1))])) #[[],rs.reverse,none,rfl,rfl,rfl,rfl] ?_ ?_
  ·rintro σ G' ⟨l1,l2,v,e,e2,rfl,rfl⟩
   have h2:l2=[]:=by simpa using e2.symm
   subst h2;rw[E4] at e;subst e;refine#[by rw[av Sg,wA];rfl,?_];refine#[∅,post p _ BS ?_ (ax.refl.new BS)];rw[aC,iK,VJ]
  ·rintro z r σ G' ⟨l1,l2,v,e,e2,rfl,rfl⟩ ih
   cases l2 with
   | nil=>cases e2
   | cons row l2 =>
    cases e2;refine#[by rw[av Sg,wA];rfl,?_];have Ad:row∈rs:=B97.mp (by rw[<- e];simp);obtain⟨j,hj⟩:=List.getElem?_of_mem Ad;simp!;refine rC (v:=(lU rs.length row).d) (G1:=aG G p (.lst ((l1.map (lU rs.length)).map Row.d))) (λR h=>#[row,rs.length,rfl,hp.lt hj,h]) ?_;simp!;refine#[?_,ih _ _ #[l1++[row],l2,_,by rw[<- e,E2];rfl,rfl,?_,rfl]]
    ·have:=congrArg F9 e
     rw[B4,C1,Q9] at this;rw[B0,B0];exact C8 (m:=1000) () ∅
    ·rw[h9,B9,B9];rfl
theorem wr7{n:Nat}:n+1<*T.mw.1<*sU:=by
 refine dk T.mw.1 Yo (λ_ _ _ _ _ _ hr =>
   (au (aT (bO (aV hr) (¬0) aZ (ah _)) (aE (bj (bD #v[aZ,¬0,¬0]))) cU)
   (au (aT (bO (aV hr) (¬0) aZ (ah _)) (aE (bj (bD #v[aZ,¬0,¬0]))) cU)
   (au (aT (bO (aV hr) (¬0) aZ (ah _)) (aE (bj (bD #v[aZ,¬0,¬0,(aP iw (!1) (¬0))]))) cU)
   (au (aT (bO (aV hr) (¬0) aZ (ah _)) (aE (bj (bD #v[aZ,¬0,¬0,(aP iw (!1) (¬0))]))) cU)
   (aE (bj (!0)))))))) (λds G R h=>?_)
 ·obtain⟨row,m,rfl,hk,post⟩:=h
  cases row with
  | add x o =>
   simp?[Row.d,eJ,C6,decide_false,decide_true]
   exact#[∅,post]
  | take x o =>
   simp?[Row.d,eJ,C6,decide_false,decide_true]
   exact#[∅,post]
  | turn x i cs =>
   simp?[Row.d,eJ,C6,decide_false,decide_true]
   exact post
  | swap x y =>
   simp?[Row.d,eJ,C6,decide_false,decide_true]
   exact post
  | go x n k =>
   have:=hk x n k (.inl rfl);have e:(m:Int)-1-(k:Int)=((m-1-k:Nat):Int):=()
   simp?[Row.d,eJ,C6,decide_false,decide_true,e]
   exact#[∅,post]
  | aL x n k =>
   have:=hk x n k (.inr rfl);have e:(m:Int)-1-(k:Int)=((m-1-k:Nat):Int):=()
   simp?[Row.d,eJ,C6,decide_false,decide_true,e]
   exact#[∅,post]
theorem wx8{n:Nat}:n+1<*T.j3<*tT:=by
 refine dk T.j3 XU (λ_ _ _ _ _ _ hr =>
   (au (xC T.ao.cl T.ao.iS (!0) (!1))
   (au (xC T.ao.cl T.ao.iB (!0) (!2))
   (au (xC T.ao.cl T.ao.cK (!0) (dU lu))
   (aE (xC T.ao.cl T.ao.iA (!0) aA)))))) (λds G R h=>?_)
 ·obtain⟨p,W,fr,rfl,hp,post⟩:=h
  simp![hp,BM,eJ,str_beq,C6,decide_false,decide_true,beq_self_eq_true,F6,P1,putD];refine#[∅,?_];dsimp![aC,BM,eJ,str_beq,C6,decide_false,decide_true,beq_self_eq_true,F6,P1,putD];refine#[∅,?_];dsimp![aC,BM,eJ,str_beq,C6,decide_false,decide_true,beq_self_eq_true,F6,P1,putD];refine#[∅,λrp wz=>?_];rw[h9] at wz;have np:p≠rp:=aU aC wz;rw[av (D8 np)] at wz;simp![h9,av np,aC,BM,eJ,str_beq,C6,decide_false,decide_true,beq_self_eq_true,F6,P1,putD];refine#[∅,?_];dsimp![aC,BM,eJ,str_beq,C6,decide_false,decide_true,beq_self_eq_true,F6,P1,putD];refine#[∅,?_];refine post rp _ wz #[by rw[aC];rfl,?_] λb o hb e=>?_
  ·rw[av (D8 np),av (D8 np),aC];rfl
  ·rw[av hb,av hb,av (aU e wz),av hb];exact e
theorem wx9{n:Nat}:n+1<*T.bE<*dI:=by
 refine dk T.bE XT (λ_ _ _ _ _ _ hr =>
   (au (Ko T.ao.cl T.ao.iB (!0) aA xH)
   (aE (bj (aP iw (iI T.ao.cl T.ao.iB (!0)) aA))))) (λds G R h=>?_)
 ·obtain⟨p,rp,W,fr,rows,st,rfl,A,post⟩:=h
  simp![A.ob,aB];refine#[Qa,?_];rw[show((fr:Int)+1)=((fr+1:Nat):Int) by omega,aB.2.2.2.2.2.2.2.2.1];dsimp![aC,aB];rw[show(((fr+1:Nat):Int)-1)=(fr:Int) by omega];exact post _ #[aC,by rw[av (D8 A.pr)];exact A.ro] λb o h1 h2 e=>by rw[av h1];exact e
theorem wx7{n:Nat}:n+1<*T.bP<*dH:=by
 refine dk T.bP XW (λ_ _ _ _ _ _ hr =>
   (au (dW (KO (iI T.ao.cl T.ao.cK (!0)) #v[!1]))
   (aE (Ko T.ao.cl T.ao.iA (!0) (cN eL rfl T.aX ∅ #v[!1]) xH)))) (λds G R h=>?_)
 ·obtain⟨p,rp,q,W,fr,rows,new,st,rfl,A,hq,nq,h1,h2,post⟩:=h
  simp![A.ob,A.ro,aB,hq];refine#[by rw[B0,B0];exact D6 (m:=20000) () ∅,?_];have l2:((new.map Row.d).length<=sizeLine)=True:=eq_true (by rw[B0];exact D6 (m:=20000) () ∅);dsimp![av A.pr,A.ob,aB,av nq,hq,l2,B0];rw[show((st:Int)+(new.length:Int))=((st+new.length:Nat):Int) by omega];refine#[Qa,?_];rw[aB.2.2.2.2.2.2.2.2.2];refine post _ #[aC,by rw[av (D8 A.pr),aC,B9]] λb o h1 h2 e=>by rw[av h1,av h2];exact e
theorem wx6{n:Nat}(yJ:n<*T.gx<*qq):n+1<*T.hE<*tS:=by
 refine dk T.hE XX (λ_ _ _ _ _ _ hr =>
   (au (dW (em T.ao.cl T.gx T.xY yJ hr (!0) #v[!1,aA,!2]))
   (au (dW (em T.ao.cl T.gx T.xY yJ hr (!0) #v[!1,aA,!3]))
   (aE (Ko T.ao.cl T.ao.iA (!0) (aP cG (cN eL rfl T.aX ∅ #v[!2]) aA) xH))))) (λds G R h=>?_)
 ·obtain⟨p,rp,q1,q2,W,fr,ch,rows,ys,ns,st,rfl,A,k1,k2,n1,n2,h1,h2,h3,post⟩:=h
  have cpu:∀{G:Gp} {q:Addr} {n:Int} {rows new:List Row} {Q:DK},ar bF G p rp W fr rows st->G q=some (.lst (new.map Row.d))->q≠rp->rows.length<=9000->new.length<=1000->(∀G',ar bF G' p rp W fr (rows++(.go ch n (rows.length+new.length+1)::(new++[.aL ch n rows.length]))) st->cw p rp G G'->Q .non G')->∃R,qq [.ref p,.int (ch:Int),.int n,.ref q] G R/\∀d G',R d G'->Q d G':=λA hq nq h1 h2 k =>
   rW (post:=λd G'=>d=.non/\ar bF G' p rp W fr _ st/\cw p rp _ G') (λR h'=>#[p,rp,_,W,fr,ch,_,_,_,st,rfl,A,hq,nq,h1,h2,λG' x y=>h' _ _ #[rfl,x,y]]) λd G' ⟨e,x,y⟩=>by subst e;exact k G' x y
  have np:∀{G:Gp} {q:Addr} {l:List Row} {rows:List Row},ar bF G p rp W fr rows st->G q=some (.lst (l.map Row.d))->q≠p:=λA k z=>by rw[z,A.ob] at k;cases k
  simp![A.ob,aB];refine cpu A k1 n1 () () λG1 A1 a1=>?_
  have SI:=a1 _ _ (np A k2) n2 k2;have Lw:=a1 _ _ (np A k1) n1 k1;simp![A1.ob,aB];dsimp![A1.ob,aB];refine cpu A1 SI n2 (by rw[B4,C1,B4];show rows.length+(ys.length+1+1)<=9000;omega) () λG2 A2 a2=>?_
  have SK:=a2 _ _ (np A1 Lw) n1 Lw;have l2:((ys.map Row.d).length<=sizeLine)=True:=eq_true (by rw[B0];exact D6 (m:=3000) () ∅);simp!;dsimp![A2.ob,aB,SK,l2,B0];refine#[Qa,?_];rw[show((st:Int)+((ys.length:Int)+3))=((st+(ys.length+3):Nat):Int) by omega,aB.2.2.2.2.2.2.2.2.2];refine post _ #[aC,?_] λb o h1 h2 e=>by rw[av h1];exact a2 b o h1 h2 (a1 b o h1 h2 e)
  rw[av (D8 A.pr),A2.ro];have e3:(rows++(Row.go ch 0 (rows.length+ys.length+1)::(ys++[.aL ch 0 rows.length]))).length=rows.length+(ys.length+2):=by rw[B4,C1,B4];rfl
  rw[e3,E2];rfl
theorem wx5{n:Nat}:n+1<*T.gx<*qq:=by
 refine dk T.gx oI (λ_ _ _ _ _ _ hr =>
   (au (aQ 4 oI.nd (cN eL rfl T.aX ∅ #v[(iI T.ao.cl T.ao.cK (!0))]))
   (au (dW (qz (iI T.ao.cl T.ao.cK (!0)) #v[(bD #v[aZ,!1,!2,(aP cG (aP cG (!4) (cN eL rfl T.aX ∅ #v[!3])) aA)])]))
   (au (dW (KO (iI T.ao.cl T.ao.cK (!0)) #v[!3]))
   (aE (dW (qz (iI T.ao.cl T.ao.cK (!0)) #v[(bD #v[aZ,!1,!2,!4])]))))))) (λds G R h=>?_)
 ·obtain⟨p,rp,q,W,fr,x,n,rows,new,st,rfl,A,hq,nq,h1,h2,post⟩:=h
  have l1:((rows.map Row.d).length<=sizeLine)=True:=eq_true (by rw[B0];exact D6 (m:=20000) () ∅);have l2:((new.map Row.d).length<=sizeLine)=True:=eq_true (by rw[B0];exact D6 (m:=20000) () ∅);simp![A.ob,A.ro,aB,l1];dsimp![A.ob,A.ro,aB,hq,l2];refine#[∅,by rw[B0];exact C8 (m:=20000) () ∅,?_];have e1:(rows.map Row.d++[D.tup [D.str "go",.int (x:Int),.int n,.int (((rows.map Row.d).length:Int)+((new.map Row.d).length:Int)+1)]])=(rows++[Row.go x n (rows.length+new.length+1)]).map Row.d:=by
   rw[B9,B0,B0];rfl
  rw[e1];obtain⟨r2,BQ⟩:∃r2,r2=rows++[Row.go x n (rows.length+new.length+1)]:=#[_,rfl];have x_:r2.length=rows.length+1:=by rw[BQ,B4];rfl
  rw[<- BQ];dsimp![av A.pr,A.ob,aB,aC,av nq,hq];refine#[by rw[B0,B0];exact D6 (m:=20000) () ∅,?_];rw[<- B9];dsimp![av A.pr,A.ob,aB,aC];refine#[∅,by rw[B0,B4];exact C8 (m:=20000) () ∅,?_];rw[h9,h9];refine post _ #[by rw[av A.pr];exact A.ob,?_] λb o h1 h2 e=>by rw[av h2];exact e
  rw[aC,BQ];have e2:rows++(Row.go x n (rows.length+new.length+1)::(new++[.aL x n rows.length]))=(rows++[Row.go x n (rows.length+new.length+1)]++new)++[Row.aL x n rows.length]:=by simp
  rw[e2,B9 (l₁:=rows++[Row.go x n (rows.length+new.length+1)]++new),B0];rfl
theorem wr4{n:Nat}(Js:n<*T.j3<*tT)(qt:n+1<*T.gs.1<*WH):n+1+1<*T.jO.1<*pY:=by
 refine dk T.jO.1 kx (λ_ _ _ _ _ _ hr =>
   (au (aQ 5 kx.nd (emk T.kO T.ao.m Js hr #v[!2,!4]))
   (au (aQ 6 kx.nd (vf1 hr rfl T.pT rfl T.fQ #v[!1,!3]))
   (au (dW (ek qt hr #v[!0,!6,!5]))
   (aE (bj (bD #v[(iI T.ao.cl T.ao.cK (!5)),(lT (N':=["name", "where"]) (ix:=[none,some 6]) (jh rfl rfl rfl) (jG (!1)) (λ_ _ _ _=>(c8 0 (show(["name", "where"]:List Str).Nodup by decide))) (λ_ _ _ _=>ki) (λ_ _ _ _=>(vA hr (!1) (!0)))),(iI T.ao.cl T.ao.iB (!5)),(iI T.ao.cl T.ao.iA (!5))]))))))) (λds G R h=>?_)
 ·obtain⟨pc,pa,W,fr,bs,pl,rs,rfl,gE,BR,hl,hb,hn,hr,hs,jx,hsz,hW,post⟩:=h
  simp!;intro p hp;have g0:ax G (aG G p (.ins bF [])):=ax.refl.new hp;refine rW (post:=λd G'=>d=.non/\∃rp,G rp=none/\rp≠p/\ar bF G' p rp W fr [] 0/\ax G G') (λR h=>#[p,W,fr,rfl,aC,λrp G' x1 x2 x3=>h _ _ #[rfl,rp,g0.none x1,D8 (aU aC x1),x2,#[λb o e=>x3 b o (aU e hp) (g0.kp _ _ e)]]]) ?_;rintro d G1 ⟨rfl,rp,wz,Sg,A1,g1⟩;refine#[rfl,?_];have zV:=g1.kp _ _ BR;have uA3:=g1.kp _ _ gE;have hkb:(bs.map W5).map kD=bs.map D.str:=by rw[L5];rfl
  dsimp![QL];refine#[bs.map W5,pl.map nD,by rw[hkb];rfl,by show bt (G1 pa)=_;rw[zV];rfl,by rw[B0,B0];exact hl.symm,by rw[B0];omega,λwa SV=>?_];rw[v24 hl hn];have g2:ax G (aG G1 wa (.bN (bI bs pl))):=g1.new SV;have A2:=A1.new (o:=.bN (bI bs pl)) SV;have fwa:G wa=none:=g1.none SV;dsimp!;refine rW (post:=λd G'=>d=.non/\ar bF G' p rp W (bf W bs rs 0 pl fr).2.2.1 (bf W bs rs 0 pl fr).1 (bf W bs rs 0 pl fr).2.2.2/\G' wa=some (.bN (bI bs (bf W bs rs 0 pl fr).2.1))/\(∀b o,b≠p->b≠rp->b≠wa->aG G1 wa (.bN (bI bs pl)) b=some o->G' b=some o)) (λR h=>#[.ref pc,p,rp,wa,W,fr,bs,pl,[],0,rs,rfl,A2,aC,by show bt (aG G1 wa (.bN (bI bs pl)) pc)=_;rw[g2.kp _ _ gE];rfl,λz=>aU gE wz (D.ref.inj z),hl,hb,hn,hr,hs,C8 jx ∅,by show 0+22*cf rs<=3960;omega,hW,λG' x y z=>h _ _ #[rfl,by rw[J6,L0] at x;exact x,y,z]]) ?_;rintro d G3 ⟨rfl,A3,w3,f3⟩;have g3:ax G G3:=#[λb o e=>f3 b o (aU e hp) (aU e wz) (aU e fwa) (g2.kp _ _ e)];simp!;dsimp![A3.ob,aB];intro p1 c_;have Tw:(bf W bs rs 0 pl fr).2.1.length=bs.length:=(rX hW hb rs (a:=0) (fr:=fr) hr hs hl).2.2.2.1;generalize hX:bf W bs rs 0 pl fr=X at *;obtain⟨new,R_,f3',uA1⟩:=X;refine kj (λr σ G'=>lN λ(l t:List Str) (v0:Option D)=>pz (l++t=bs) (r=t.map D.str) (G'=aG G3 p1 (.lst ((l.map (gtB bs R_)).map nD))) (σ=[v0,some (.ref wa)])) #[[],bs,none,rfl,rfl,rfl,rfl] ?_ ?_
  ·rintro σ G4 ⟨l,t,v0,el,e2,rfl,rfl⟩
   have ht:t=[]:=by simpa using e2.symm
   subst ht;rw[E4] at el;subst el;refine#[trivial,?_];have A4:=A3.new (o:=.lst ((l.map (gtB l R_)).map nD)) c_;simp![A4.ob,aB];rw[Qz hn Tw];rw[Qz hn Tw] at A4;refine#[∅,post rp p1 _ wz (g3.none c_) ?_ A4.ro aC (g3.new c_)];exact aU A3.ro c_
  ·rintro z t σ G4 ⟨l,t,v0,el,e2,rfl,rfl⟩ ih
   cases t with
   | nil=>cases e2
   | cons x0 t =>
    cases e2;refine#[trivial,?_];have hm:x0∈bs:=by rw[<- el];simp
    have hlen:=congrArg F9 el;rw[B4,C1] at hlen;simp![vq];refine#[wa,bI bs R_,.inr x0,_,rfl,rfl,by rw[av (aU w3 c_)];exact w3,vC hm Tw,?_];simp![aC];refine#[C8 (m:=1000) (by rw[B0,B0];omega) ∅,ih _ _ #[l++[x0],t,_,by rw[<- el];simp,rfl,?_,rfl]];rw[h9,B9,B9];rfl
theorem wr2{n dp:Nat}(IA:n<*T.mq.1<*k_ dp)(nM:n<*T.jS.1<*nH)(Iz:n<*T.mn.1<*sT):n+1<*T.gs.1<*eZ (dp+1):=by
 refine dk T.gs.1 iL (λ_ _ _ _ _ _ hr =>
   (aE (lB (jG (!0)) (c8 3 iL.nd) (aE (aT (bO (aV hr) (¬3) aZ (ah _)) (aE (KD hr (!1) (¬3) (ek nM hr #v[¬3,!1,!2]))) (aE (aT (bO (aV hr) (¬3) aZ (ah _)) (au (aQ 4 iL.nd (ek nM hr #v[¬3,!1,!2]))
   (au (aQ 5 iL.nd (ek nM hr #v[¬3,!1,!2]))
   (aE (KD hr (!1) (¬3) (ek Iz hr #v[¬3,!4,!5,!2]))))) (aE (dW (ek IA hr #v[!3,!1,!2])))))))))) (λds G R h=>?_)
 ·obtain⟨d,p,rp,wa,W,fr,bs,pl,rows,st,rs,rfl,A,hw,h0,nd,hl,hb,hn,az,Gw,jx,hsz,hW,post⟩:=h
  have dJ:wa≠p:=λz=>by rw[z,A.ob] at hw;cases hw
  have eP:wa≠rp:=λz=>by rw[z,A.ro] at hw;cases hw
  have kd:∀G':Gp,(∀b o,b≠p->b≠rp->b≠wa->G b=some o->G' b=some o)->jo G' d=some (bB rs):=by
   intro G' f;cases d with
   | tup ds=>exact h0
   | ref a =>
    have wQ:bt (G a)=some (bB rs):=h0;cases e:G a with
    | none=>rw[e] at wQ;cases wQ
    | some o =>
     have n1:a≠p:=λz=>by rw[z,A.ob] at wQ;cases wQ
     have n2:a≠rp:=λz=>nd (by rw[z])
     have n3:a≠wa:=λz=>by rw[z,hw] at wQ;cases wQ
     show bt (G' a)=_
     rw[f a o n1 n2 n3 e,<- e];exact wQ
   | _=>exact absurd h0 (by simp[jo])
  refine Xy h0 rfl λok gP=>?_
  refine lE (λr σ G'=>Hl λ(l t:List aq) (v3 v4 v5:Option D)=>yO (l++t=rs) (r=bB t) (ar bF G' p rp W (bf W bs l rows.length pl fr).2.2.1 (rows++(bf W bs l rows.length pl fr).1) (st+(bf W bs l rows.length pl fr).2.2.2)) (G' wa=some (.bN (bI bs (bf W bs l rows.length pl fr).2.1))) (∀b o,b≠p->b≠rp->b≠wa->G b=some o->G' b=some o) (σ=[some d,some (.ref wa),some (.ref p),v3,v4,v5])) #[[],rs,none,none,none,rfl,rfl,by show ar bF G p rp W fr (rows++[]) (st+0);rw[E4];exact A,hw,λ_ _ _ _ _ e=>e,rfl] ?_ ?_
  ·rintro σ G1 ⟨l,t,v3,v4,v5,e,e2,A1,w1,f1,rfl⟩
   have ht:t=[]:=by
    cases t with
    | nil=>rfl
    | cons x t=>cases e2
   subst ht;rw[E4] at e;subst e;exact#[gP _ (kd _ f1),post G1 A1 w1 f1]
  ·rintro z r σ G1 ⟨l,t,v3,v4,v5,e,e2,A1,w1,f1,rfl⟩ ih
   cases t with
   | nil=>cases e2
   | cons r0 t =>
    cases e2;refine#[gP _ (kd _ f1),?_];have hm:r0∈rs:=by rw[<- e];simp
    have Gs:=XF az hm;have z_:=XD Gw hm;have mh:=Dj (MY jx) r0 hm;have rJ:=uw7 (W:=W) (bs:=bs) l (r:=r0) (a:=rows.length) (pl:=pl) (fr:=fr);have Gb:cf rs=cf l+(oq r0+cf t):=by rw[<- e,Bx];rfl
    have z0:dY W bs l:=by rw[<- e] at az;exact(cP.mp az).1
    have hnL:fk l:=by rw[<- e] at Gw;exact(eY.mp Gw).1
    have hle:=rX hW hb l (a:=rows.length) (fr:=fr) z0 hnL hl;generalize hX:bf W bs l rows.length pl fr=X at *;obtain⟨xr,xp,xf,xs⟩:=X;obtain⟨q1,q2,q3,q4,q5⟩:xr.length<=22*cf l/\xf<=fr+9*cf l/\fr<=xf/\xp.length=bs.length/\xs<=22*cf l:=hle;have A1:ar bF G1 p rp W xf (rows++xr) (st+xs):=A1;have w1:G1 wa=some (.bN (bI bs xp)):=w1;have ig:(rows++xr).length=rows.length+xr.length:=B4;have ld:(bI bs xp).length<sizeLine:=C8 (m:=1000) (by have:=Dy bs xp;(clear ig w1 q5 q3 q2 q1 rJ hX Gb mh ih e f1 gP kd eP dJ post hW hsz jx nd h0 hw;omega)) ∅;have rJ:bf W bs (l++[r0]) rows.length pl fr=(xr++(cx W bs r0 (rows.length+xr.length) xp xf).1,(cx W bs r0 (rows.length+xr.length) xp xf).2.1,(cx W bs r0 (rows.length+xr.length) xp xf).2.2.1,xs+(cx W bs r0 (rows.length+xr.length) xp xf).2.2.2):=rJ;generalize yg:forL ok _ _ _ (bB t)=FL at ih⊢;have kJ:∀(G2:Gp) (v3 v4 v5:Option D),ar bF G2 p rp W (cx W bs r0 (rows.length+xr.length) xp xf).2.2.1 (rows++xr++(cx W bs r0 (rows.length+xr.length) xp xf).1) (st+xs+(cx W bs r0 (rows.length+xr.length) xp xf).2.2.2)->G2 wa=some (.bN (bI bs (cx W bs r0 (rows.length+xr.length) xp xf).2.1))->(∀b o,b≠p->b≠rp->b≠wa->G1 b=some o->G2 b=some o)->FL [some d,some (.ref wa),some (.ref p),v3,v4,v5] G2:=λG2 v3 v4 v5 B1 B2 B3 =>
     ih _ _ #[l++[r0],t,v3,v4,v5,by rw[<- e];simp,rfl,by rw[rJ,<- E2,<- K5];exact B1,by rw[rJ];exact B2,λb o h1 h2 h3 e=>B3 b o h1 h2 h3 (f1 b o h1 h2 h3 e),rfl]
    have fin:∀(G2:Gp) (v3 v4 v5:Option D) (x:Str) (b f2:Nat) (new:List Row),ar bF G2 p rp W f2 (rows++xr++new) (st+xs+new.length)->cw p rp G1 G2->x∈bs->cx W bs r0 (rows.length+xr.length) xp xf=(new,eh bs xp x b,f2,new.length)->FL [some d,some (.ref wa),some (.ref p),v3,v4,v5] (aG G2 wa (.bN (lA (bI bs xp) (.inr x) (.int (b:Int))))):=by
     intro G2 v3 v4 v5 x b f2 new A2 a2 hx ev;rw[Rg hx hn q4];refine kJ _ _ _ _ ?_ ?_ λc o h1 h2 h3 e=>?_
     ·rw[ev];exact#[by rw[av (D8 dJ)];exact A2.ob,by rw[av (D8 eP)];exact A2.ro]
     ·rw[aC,ev]
     ·rw[av h3];exact a2 c o h1 h2 e
    cases r0 with
    | is x a =>
     obtain⟨hx,ha⟩:x∈bs/\jt W bs a:=Gs;have fW:oq (.is x a)=1:=rfl;simp![cI,CP];refine Kv A1 w1 q4 ha (by(clear fin kJ rJ mh e ih yg ld w1 q5 q4 q3 q2 hX f1 gP kd eP dJ post hW jx hb hl nd h0 hw;omega)) λG2 A2 a2=>?_
     simp!;refine#[wa,bI bs xp,.inr x,rfl,rfl,a2 _ _ dJ eP w1,ld,?_];exact fin G2 _ _ _ x _ _ _ A2 a2 hx rfl
    | op x o a c =>
     obtain⟨hx,ho,ha,hc⟩:x∈bs/\o∈L3.signs/\jt W bs a/\jt W bs c:=Gs;have fW:oq (.op x o a c)=1:=rfl;have d1:(C4 "op" = C4 "is")=False:=eq_false ∅;simp![cI,d1];refine Kv A1 w1 q4 ha (by(clear d1 fin kJ rJ mh e ih yg ld w1 q5 q4 q3 q2 hX f1 gP kd eP dJ post hW jx hb hl nd h0 hw;omega)) λG2 A2 a2=>?_
     have BP:=a2 _ _ dJ eP w1;have la:=om (fr:=xf) a;have lc:=om (fr:=aY xf a) c;simp!;dsimp!;refine Kv A2 BP q4 hc (by rw[B4];(clear lc BP d1 fin kJ rJ mh e ih yg ld w1 q5 q4 q3 q2 hX f1 gP kd eP dJ post hW jx hb hl nd h0 hw;omega)) λG3 A3 a3=>?_
     have hw3:=a3 _ _ dJ eP BP;simp!;dsimp![CP];refine bM #[o,ho,p,rp,W,aY (aY xf a) c,eW bs xp xf a,eW bs xp (aY xf a) c,_,_,rfl,A3,hW,by rw[B4,B4];(clear hw3 BP d1 fin kJ rJ mh e ih yg ld w1 q5 q4 q3 q2 hX f1 gP kd eP dJ post hW jx hb hl nd h0 hw;omega),λG4 A4 a4=>?_];simp!;refine#[wa,bI bs xp,.inr x,rfl,rfl,a4 _ _ dJ eP hw3,ld,?_];refine fin G4 _ _ _ x _ _ _ ?_ (a2.trans (a3.trans a4)) hx rfl
     show ar bF G4 p rp W (lV (aY (aY xf a) c) o) (rows++xr++(de xf a++de (aY xf a) c++fT W (eW bs xp xf a) (eW bs xp (aY xf a) c) (aY (aY xf a) c) o)) (st+xs+(de xf a++de (aY xf a) c++fT W (eW bs xp xf a) (eW bs xp (aY xf a) c) (aY (aY xf a) c) o).length)
     rw[show rows++xr++(de xf a++de (aY xf a) c++fT W (eW bs xp xf a) (eW bs xp (aY xf a) c) (aY (aY xf a) c) o)=rows++xr++de xf a++de (aY xf a) c++fT W (eW bs xp xf a) (eW bs xp (aY xf a) c) (aY (aY xf a) c) o by simp[E2],B4,B4,<- K5,<- K5];exact A4
    | eF a ys ns =>
     have d1:(C4 "choose" = C4 "is")=False:=eq_false ∅;have d2:(C4 "choose" = C4 "op")=False:=eq_false ∅;have jy:1+max (aS ys) (aS ns)<=dp:=mh;simp![cI,d1,d2];refine rW (post:=λd G'=>d=.non/\ar bF G' p rp W (cx W bs (.eF a ys ns) (rows.length+xr.length) xp xf).2.2.1 (rows++xr++(cx W bs (.eF a ys ns) (rows.length+xr.length) xp xf).1) (st+xs+(cx W bs (.eF a ys ns) (rows.length+xr.length) xp xf).2.2.2)/\G' wa=some (.bN (bI bs (cx W bs (.eF a ys ns) (rows.length+xr.length) xp xf).2.1))/\∀b o,b≠p->b≠rp->b≠wa->G1 b=some o->G' b=some o) (λR h'=>#[p,rp,wa,W,xf,bs,xp,rows++xr,st+xs,a,ys,ns,rfl,A1,w1,q4,hb,hn,Gs,z_,by(clear h' d2 d1 fin kJ rJ Gb mh e ih yg ld ig w1 q5 q4 q3 q2 q1 hX f1 gP kd eP dJ post hW hsz jx hb hl nd h0 hw;omega),by(clear h' d2 d1 fin kJ rJ Gb mh e ih yg ld ig w1 q5 q4 q3 q2 q1 hX f1 gP kd eP dJ post hW hsz jx hb hl nd h0 hw;omega),by(clear h' jy d2 d1 fin kJ rJ mh e ih yg ld w1 q5 q4 q3 q2 hX f1 gP kd eP dJ post hW jx hb hl nd h0 hw;omega),hW,λG' x y z=>h' _ _ #[rfl,by rw[ig] at x;exact x,by rw[ig] at y;exact y,z]]) ?_;rintro d G2 ⟨rfl,A2,w2,f2⟩;simp!;exact kJ G2 _ _ _ A2 w2 f2
    | gV k ys=>exact z_.elim
theorem wr3{n dp:Nat}(cb:n<*T.bE<*dI)(Jr:n<*T.hE<*tS)(qt:n<*T.gs.1<*eZ dp)(nM:n<*T.jS.1<*nH)(IG:n<*T.mB.1<*sX):n+1<*T.mq.1<*k_ dp:=by
 refine dk T.mq.1 fE (λ_ _ _ _ _ _ hr =>
   (au (aQ 3 fE.nd (lD QY rfl T.fQ ∅ #v[!1]))
   (au (dW (ek qt hr #v[¬0,!3,!2]))
   (au (aQ 4 fE.nd (lD QY rfl T.fQ ∅ #v[!1]))
   (au (dW (ek qt hr #v[¬0,!4,!2]))
   (au (aQ 5 fE.nd (ek IG hr #v[(ek nM hr #v[¬0,!1,!2]),!2]))
   (au (dW (xb3 (!1) (!3)))
   (au (Qm 6 fE.nd (N':=["name", "yes", "no"]) (ix:=[none,some 3,some 4]) (jh rfl rfl rfl) (wf0 (!3)) (λ_ _ _ _=>(c8 0 (show(["name", "yes", "no"]:List Str).Nodup by decide))) (λ_ _ _ _=>(we9 (bO (ke hr) (Za hr (!1) (!0)) (vA hr (!2) (!0)) (ah _)))) (λ_ _ _ _=>(!0)))
   (au (lB (jG (!6)) (c8 7 fE.nd) (aE (KD hr (!1) (!7) (lM T.ao.cl T.bE T.dZ cb hr (!2)))))
   (aE (dW (em T.ao.cl T.hE T.FJ Jr hr (!2) #v[!5,(lT (N':=["name", "where", "yes"]) (ix:=[none,some 1,some 3]) (jh rfl rfl rfl) (jG (!6)) (λ_ _ _ _=>(c8 0 (show(["name", "where", "yes"]:List Str).Nodup by decide))) (λ_ _ _ _=>ki) (λ_ _ _ _=>(bD #v[aZ,(vA hr (!1) (!0)),(bD #v[aZ,(Za hr (!2) (!0))])]))),(lT (N':=["name", "where", "no"]) (ix:=[none,some 1,some 4]) (jh rfl rfl rfl) (jG (!6)) (λ_ _ _ _=>(c8 0 (show(["name", "where", "no"]:List Str).Nodup by decide))) (λ_ _ _ _=>ki) (λ_ _ _ _=>(bD #v[aZ,(vA hr (!1) (!0)),(bD #v[aZ,(vA hr (!2) (!0))])])))])))))))))))) (λds G R h=>?_)
 ·obtain⟨p,rp,wa,W,fr,bs,pl,rows,st,c,ys,ns,rfl,A,hw,hl,hb,hn,az,Gw,oX,mj,hsz,hW,post⟩:=h
  obtain⟨hc,oky,okn⟩:jt W bs c/\dY W bs ys/\dY W bs ns:=az;obtain⟨nty,ntn⟩:fk ys/\fk ns:=Gw;have hsz:rows.length+22*(1+cf ys+cf ns)<=3960:=hsz;have dJ:wa≠p:=λz=>by rw[z,A.ob] at hw;cases hw
  have eP:wa≠rp:=λz=>by rw[z,A.ro] at hw;cases hw
  have hyl:=rX hW hb ys (a:=rows.length) (fr:=fr) oky nty hl;simp![cI];refine#[wa,_,rfl,hw,λpy jv=>?_];have lK:py≠p:=D8 (aU A.ob jv);have lJ:py≠rp:=D8 (aU A.ro jv);have lI:py≠wa:=D8 (aU hw jv);dsimp!;refine bM #[.tup (bB ys),p,rp,py,W,fr,bs,pl,rows,st,ys,rfl,A.new jv,aC,rfl,by simp,hl,hb,hn,oky,nty,oX,by(clear lI lJ lK jv eP dJ post hW mj oX hb hl hw;omega),hW,λG2 A2 y2 f2=>?_];have o9:∀b o,b≠p->b≠rp->G b=some o->G2 b=some o:=λb o h1 h2 e=>f2 b o h1 h2 (aU e jv) (by rw[av (aU e jv)];exact e)
  have w2:=o9 _ _ dJ eP hw;have eR:∀{N:List Row×List Nat×Nat×Nat},bf W bs ns (rows.length+(bf W bs ys rows.length pl fr).1.length) pl (bf W bs ys rows.length pl fr).2.2.1=N->cx W bs (.eF c ys ns) rows.length pl fr=((bf W bs ys rows.length pl fr).1++N.1++de N.2.2.1 c++[Row.take (aY N.2.2.1 c) (.box (eW bs pl N.2.2.1 c)),Row.turn (aY N.2.2.1 c+1) 0 [(aY N.2.2.1 c,31)]]++qY (rows.length+((bf W bs ys rows.length pl fr).1++N.1++de N.2.2.1 c++[Row.take (aY N.2.2.1 c) (.box (eW bs pl N.2.2.1 c)),Row.turn (aY N.2.2.1 c+1) 0 [(aY N.2.2.1 c,31)]]).length) (aY N.2.2.1 c+1) (iy (aY N.2.2.1 c+2) (uY (bf W bs ys rows.length pl fr).2.1 N.2.1)) (iy (aY N.2.2.1 c+2) (uN (bf W bs ys rows.length pl fr).2.1 N.2.1)),fV (aY N.2.2.1 c+2) (bf W bs ys rows.length pl fr).2.1 N.2.1,aY N.2.2.1 c+2+(uY (bf W bs ys rows.length pl fr).2.1 N.2.1).length,(bf W bs ys rows.length pl fr).2.2.2+N.2.2.2+(de N.2.2.1 c).length+2+((uY (bf W bs ys rows.length pl fr).2.1 N.2.1).length+3)):=λe=>by subst e;rfl
  generalize hY:bf W bs ys rows.length pl fr=Y at *;obtain⟨yr,yp,yf,nP⟩:=Y;obtain⟨l1,l2,l3,l4,l5⟩:yr.length<=22*cf ys/\yf<=fr+9*cf ys/\fr<=yf/\yp.length=bs.length/\nP<=22*cf ys:=hyl;have A2:ar bF G2 p rp W yf (rows++yr) (st+nP):=A2;have y2:G2 py=some (.bN (bI bs yp)):=y2;have hnl:=rX hW hb ns (a:=rows.length+yr.length) (fr:=yf) okn ntn hl;have ig:(rows++yr).length=rows.length+yr.length:=B4;simp!;dsimp!;refine#[wa,_,rfl,w2,λpn jN=>?_];have oP:pn≠p:=D8 (aU A2.ob jN);have oO:pn≠rp:=D8 (aU A2.ro jN);have oN:pn≠wa:=D8 (aU w2 jN);have pI:pn≠py:=D8 (aU y2 jN);dsimp!;refine rW (post:=λd G'=>d=.non/\ar bF G' p rp W (bf W bs ns (rows.length+yr.length) pl yf).2.2.1 (rows++yr++(bf W bs ns (rows.length+yr.length) pl yf).1) (st+nP+(bf W bs ns (rows.length+yr.length) pl yf).2.2.2)/\G' pn=some (.bN (bI bs (bf W bs ns (rows.length+yr.length) pl yf).2.1))/\∀b o,b≠p->b≠rp->b≠pn->aG G2 pn (.bN (bI bs pl)) b=some o->G' b=some o) (λR h'=>#[.tup (bB ns),p,rp,pn,W,yf,bs,pl,rows++yr,st+nP,ns,rfl,A2.new jN,aC,rfl,by simp,hl,hb,hn,okn,ntn,mj,by rw[ig];(clear h' pI oN oO oP jN y2 l5 l4 l3 l2 eR hY w2 o9 f2 lI lJ lK jv eP dJ post hW mj oX hb hl hw;omega),hW,λG' x y z=>h' _ _ #[rfl,by rw[ig] at x;exact x,by rw[ig] at y;exact y,z]]) ?_;rintro d G4 ⟨rfl,A4,n4,f4⟩;have o7:∀b o,b≠p->b≠rp->G2 b=some o->G4 b=some o:=λb o h1 h2 e=>f4 b o h1 h2 (aU e jN) (by rw[av (aU e jN)];exact e)
  have w4:=o7 _ _ dJ eP w2;have y4:=o7 _ _ lK lJ y2;have eR:=eR (N:=bf W bs ns (rows.length+yr.length) pl yf) rfl;generalize hN:bf W bs ns (rows.length+yr.length) pl yf=N at *;obtain⟨nr,np,nf,qJ⟩:=N;obtain⟨m1,m2,m3,m4,m5⟩:nr.length<=22*cf ns/\nf<=yf+9*cf ns/\yf<=nf/\np.length=bs.length/\qJ<=22*cf ns:=hnl;have A4:ar bF G4 p rp W nf (rows++yr++nr) (st+nP+qJ):=A4;have n4:G4 pn=some (.bN (bI bs np)):=n4;have gE:=om (fr:=nf) c;simp!;dsimp!;refine Kv A4 w4 hl hc (by rw[B4,ig];(clear gE n4 m5 m4 m3 m2 eR hN y4 w4 o7 f4 pI oN oO oP jN y2 l5 l4 l3 l2 hY w2 o9 f2 lI lJ lK jv eP dJ post hW mj oX hb hl hw;omega)) λG5 A5 a5=>?_
  simp!;refine bM #[p,rp,W,aY nf c,eW bs pl nf c,_,_,rfl,A5,by rw[B4,B4,ig];(clear n4 m5 m4 m3 m2 eR hN y4 w4 o7 f4 pI oN oO oP jN y2 l5 l4 l3 l2 hY w2 o9 f2 lI lJ lK jv eP dJ post hW mj oX hb hl hw;omega),λG6 A6 a6=>?_];have f6:∀b o,b≠p->b≠rp->G4 b=some o->G6 b=some o:=λb o h1 h2 e=>a6 b o h1 h2 (a5 b o h1 h2 e)
  have w6:=f6 _ _ dJ eP w4;have y6:=f6 _ _ lK lJ y4;have n6:=f6 _ _ oP oO n4;generalize hF:aY nf c+2=F at *;simp!;dsimp![As];refine#[#[wa,_,rfl,w6],wa,py,_,_,rfl,rfl,D8 lI,w6,y6,D6 (m:=1000) (by have:=Dy bs pl;have:=Dy bs yp;(clear eR hF n6 y6 w6 f6 gE n4 m5 m3 m2 m1 hN y4 w4 o7 f4 pI oN oO oP jN ig y2 l5 l3 l2 l1 hY w2 o9 f2 lI lJ lK jv eP dJ hsz post hW mj oX hw;omega)) ∅,?_];rw[vb7 hn hl l4];obtain⟨G7,Ao⟩:∃G7,G7=aG G6 wa (.bN (bI bs yp)):=#[_,rfl];have w7:G7 wa=some (.bN (bI bs yp)):=by rw[Ao];exact aC
  have y7:G7 py=some (.bN (bI bs yp)):=by rw[Ao,av lI];exact y6
  have n7:G7 pn=some (.bN (bI bs np)):=by rw[Ao,av oN];exact n6
  have A7:ar bF G7 p rp W F (rows++yr++nr++de nf c++[.take (aY nf c) (.box (eW bs pl nf c)),.turn (aY nf c+1) 0 [(aY nf c,31)]]) (st+nP+qJ+(de nf c).length+2):=by rw[Ao];exact#[by rw[av (D8 dJ)];exact A6.ob,by rw[av (D8 eP)];exact A6.ro]
  have f7:∀b o,b≠p->b≠rp->b≠wa->G b=some o->G7 b=some o:=λb o h1 h2 h3 e=>by rw[Ao,av h3];exact f6 b o h1 h2 (o7 b o h1 h2 (o9 b o h1 h2 e))
  rw[<- Ao];clear Ao;generalize iV:rows++yr++nr++de nf c++[Row.take (aY nf c) (.box (eW bs pl nf c)),.turn (aY nf c+1) 0 [(aY nf c,31)]]=pre at *;generalize uS:st+nP+qJ+(de nf c).length+2=cH at *;dsimp![Yz];refine#[py,bI bs yp,rfl,y7,?_];rw[ZS l4];intro o8;obtain⟨G8,Am⟩:∃G8,G8=aG G7 py (.o6 o8 (bI bs yp)):=#[_,rfl];have w8:G8 wa=some (.bN (bI bs yp)):=by rw[Am,av (D8 lI)];exact w7
  have y8:G8 py=some (.o6 o8 (bI bs yp)):=by rw[Am];exact aC
  have n8:G8 pn=some (.bN (bI bs np)):=by rw[Am,av pI];exact n7
  have A8:ar bF G8 p rp W F pre cH:=by rw[Am];exact#[by rw[av (D8 lK)];exact A7.ob,by rw[av (D8 lJ)];exact A7.ro]
  have f8:∀b o,b≠p->b≠rp->b≠wa->G b=some o->G8 b=some o:=λb o h1 h2 h3 e=>by rw[Am,av (aU e jv)];exact f7 b o h1 h2 h3 e
  rw[<- Am];clear Am;intro p1 c_;generalize uT:Go (ij _ _ _)=N9;have qK:py≠p1:=aU y8 c_;have sh:pn≠p1:=aU n8 c_;refine kj (λr σ G'=>lN λ(l t:List Str) (v0:Option D)=>pz (l++t=bs) (r=t.map D.str) (G'=aG G8 p1 (.lst ((l.filter λn=>!decide (gtB bs yp n=gtB bs np n)).map D.str))) (σ=[v0,some (.ref py),some (.ref pn)])) #[[],bs,none,rfl,rfl,rfl,rfl] ?_ ?_
  ·rintro σ G9 ⟨l,t,v0,el,e2,rfl,rfl⟩
   have ht:t=[]:=by simpa using e2.symm
   subst ht;rw[E4] at el;subst el;refine#[by rw[av qK];exact y8,?_];rw[uj5 hn l4 m4];have hU:=ZC (bs:=l) (ps:=yp) (qs:=np) l4 m4;have LJ:=zj (ps:=yp) (qs:=np);have sA:=λx=>Dr (bs:=l) (ps:=yp) (qs:=np) (x:=x)
   have kW:=Qt (f:=F) hn l4 m4;have uR:=QW (f:=F) hn l4 m4;generalize iu l yp np=U at *;obtain⟨G9,ye⟩:∃G9,G9=aG G8 p1 (.lst (U.map D.str)):=#[_,rfl];have w9:G9 wa=some (.bN (bI l yp)):=by rw[ye,av (aU w8 c_)];exact w8
   have y9:G9 py=some (.o6 o8 (bI l yp)):=by rw[ye,av qK];exact y8
   have n9:G9 pn=some (.bN (bI l np)):=by rw[ye,av sh];exact n8
   have u9:G9 p1=some (.lst (U.map D.str)):=by rw[ye];exact aC
   have A9:ar bF G9 p rp W F pre cH:=by rw[ye];exact A8.new c_
   have uI:p1≠wa:=D8 (aU w8 c_);have uK:p1≠p:=D8 (aU A8.ob c_);have uJ:p1≠rp:=D8 (aU A8.ro c_);have f9:∀b o,b≠p->b≠rp->b≠wa->G b=some o->G9 b=some o:=λb o h1 h2 h3 e=>by have:=f8 b o h1 h2 h3 e;rw[ye,av (aU this c_)];exact this
   rw[<- ye];clear ye;rw[<- uT];dsimp![u9];generalize wO:Go (AZ _ _)=NA;refine lE (λr σ G'=>lN λ(u1 u2:List Str) (v7:Option D)=>yO (u1++u2=U) (r=u2.map D.str) (ar bF G' p rp W (F+u1.length) pre cH) (G' wa=some (.bN (bI l (asg l u1 F yp)))) (∀b o,b≠p->b≠rp->b≠wa->G9 b=some o->G' b=some o) (σ=[some (.tup [.str (C4 "choose"),aD c,.tup (bB ys),.tup (bB ns)]),some (.ref wa),some (.ref p),some (.ref py),some (.ref pn),some (.int ((aY nf c+1:Nat):Int)),some (.ref p1),v7])) #[[],U,none,rfl,rfl,A9,w9,λ_ _ _ _ _ e=>e,rfl] ?_ ?_
   ·rintro σ Jt ⟨u1,u2,v7,eu,e2,xw,og,o_,rfl⟩
    have ht:u2=[]:=by simpa using e2.symm
    subst ht;rw[E4] at eu;subst eu;have rD:=o_ _ _ uK uJ uI u9;refine#[by rw[rD];rfl,?_];rw[kW] at og;have vh:=o_ _ _ lK lJ lI y9;have uL:=o_ _ _ oP oO oN n9;have hml:=Dk (ps:=yp) (qs:=np) (fr:=F) ();rw[<- wO];dsimp![xw.ob,aB,rD];intro q1 qP;have dl:(bI l (fV F yp np)).length<=6:=by have:=Dy l (fV F yp np);(clear qP uL vh rD u9 uR kW sA hU e2 o_ og wO f9 uJ uK uI n9 y9 w9 LJ n8 y8 w8 iV n7 y7 w7 eR n6 y6 w6 n4 hN y4 w4 f4 y2 hY w2 f2 post hw sh qK uT c_ f8 uS f7 hF f6 gE m5 m3 m2 m1 o7 pI oN oO oP jN ig l5 l3 l2 l1 o9 lI lJ lK jv eP dJ hsz hW mj oX;omega)
    refine kj (λr σ G'=>lN λ(a t:List Str) (v0:Option D)=>pz (a++t=u1) (r=t.map D.str) (G'=aG Jt q1 (.lst ((a.map λn=>Row.add (gtB l (fV F yp np) n) (.box (gtB l yp n))).map Row.d))) (σ=[v0,some (.ref wa),some (.ref py)])) #[[],u1,none,rfl,rfl,rfl,rfl] ?_ ?_
    ·rintro σ lO ⟨a,t,v0,ea,e2,rfl,rfl⟩
     have ht:t=[]:=by simpa using e2.symm
     subst ht;rw[E4] at ea;subst ea;rw[uR.1];obtain⟨lO,sE⟩:∃lO,lO=aG Jt q1 (.lst ((iy F (uY yp np)).map Row.d)):=#[_,rfl];have qT:∀b o,Jt b=some o->lO b=some o:=λb o e=>by rw[sE,av (aU e qP)];exact e
     have zJ:lO q1=some (.lst ((iy F (uY yp np)).map Row.d)):=by rw[sE];exact aC
     have xv:ar bF lO p rp W (F+a.length) pre cH:=by rw[sE];exact xw.new qP
     have r_:q1≠rp:=D8 (aU xw.ro qP);rw[<- sE];clear sE;have vF:=qT _ _ rD;refine#[by rw[vF];rfl,?_];simp only[vF,bt];intro q2 ju;refine kj (λr σ G'=>lN λ(b t:List Str) (v0:Option D)=>pz (b++t=a) (r=t.map D.str) (G'=aG lO q2 (.lst ((b.map λn=>Row.add (gtB l (fV F yp np) n) (.box (gtB l np n))).map Row.d))) (σ=[v0,some (.ref wa),some (.ref pn)])) #[[],a,none,rfl,rfl,rfl,rfl] ?_ ?_
     ·rintro σ uk ⟨b,t,v0,eb,e2,rfl,rfl⟩
      have ht:t=[]:=by simpa using e2.symm
      subst ht;rw[E4] at eb;subst eb;rw[uR.2];obtain⟨uk,sD⟩:∃uk,uk=aG lO q2 (.lst ((iy F (uN yp np)).map Row.d)):=#[_,rfl];have sF:∀b o,lO b=some o->uk b=some o:=λb o e=>by rw[sD,av (aU e ju)];exact e
      have SJ:uk q2=some (.lst ((iy F (uN yp np)).map Row.d)):=by rw[sD];exact aC
      have A12:ar bF uk p rp W (F+b.length) pre cH:=by rw[sD];exact xv.new ju
      have zC:q2≠rp:=D8 (aU xv.ro ju);rw[<- sD];clear sD;refine#[by rw[sF _ _ vF],?_];have hul:=Bg (ps:=yp) (qs:=np);have bZ:pre.length<=4100:=by
       rw[<- iV,B4,B4,B4,ig]
       show rows.length+yr.length+nr.length+(de nf c).length+2<=4100
       omega
      refine bM #[p,rp,q1,q2,W,F+b.length,aY nf c+1,pre,_,_,cH,rfl,A12,sF _ _ zJ,SJ,r_,zC,bZ,by rw[vB];(clear bZ zC SJ sF vF rD u9 uR kW sA e2 ju r_ zJ qT dl qP uL vh o_ og wO f9 uJ uK uI n9 y9 w9 n8 y8 w8 iV n7 y7 w7 eR n6 y6 w6 n4 hN y4 w4 f4 y2 hY w2 f2 post hw sh qK uT c_ f8 uS f7 hF f6 gE m5 m3 m2 m1 o7 pI oN oO oP jN ig l5 l3 l2 l1 o9 lI lJ lK jv eP dJ hsz hW mj oX;omega),by rw[vB];(clear bZ zC SJ sF vF rD u9 uR kW sA e2 ju r_ zJ qT dl qP uL vh o_ og wO f9 uJ uK uI n9 y9 w9 n8 y8 w8 iV n7 y7 w7 eR n6 y6 w6 n4 hN y4 w4 f4 y2 hY w2 f2 post hw sh qK uT c_ f8 uS f7 hF f6 gE m5 m3 m2 m1 o7 pI oN oO oP jN ig l5 l3 l2 l1 o9 lI lJ lK jv eP dJ hsz hW mj oX;omega),λAF Cz LW=>?_];have f13:∀c o,c≠p->c≠rp->Jt c=some o->AF c=some o:=λc o h1 h2 e=>LW c o h1 h2 (sF c o (qT c o e))
      refine post AF ?_ ?_ λc o h1 h2 h3 e=>f13 c o h1 h2 (o_ c o h1 h2 h3 (f9 c o h1 h2 h3 e))
      ·rw[eR]
       show ar bF AF p rp W (F+(uY yp np).length) (rows++(yr++nr++de nf c++[Row.take (aY nf c) (.box (eW l pl nf c)),.turn (aY nf c+1) 0 [(aY nf c,31)]]++qY (rows.length+(yr++nr++de nf c++[Row.take (aY nf c) (.box (eW l pl nf c)),.turn (aY nf c+1) 0 [(aY nf c,31)]]).length) (aY nf c+1) (iy F (uY yp np)) (iy F (uN yp np)))) (st+(nP+qJ+(de nf c).length+2+((uY yp np).length+3)))
       have hP:pre=rows++(yr++nr++de nf c++[Row.take (aY nf c) (.box (eW l pl nf c)),.turn (aY nf c+1) 0 [(aY nf c,31)]]):=by rw[<- iV];simp only[E2]
       generalize yr++nr++de nf c++[Row.take (aY nf c) (.box (eW l pl nf c)),.turn (aY nf c+1) 0 [(aY nf c,31)]]=PP at hP⊢;rw[vB,hP,B4,E2,hU,<- uS] at Cz;rw[show st+(nP+qJ+(de nf c).length+2+((uY yp np).length+3))=st+nP+qJ+(de nf c).length+2+((uY yp np).length+3) by omega];exact Cz
      ·rw[eR]
       exact f13 _ _ dJ eP og
     ·rintro z t σ uk ⟨b,t,v0,eb,e2,rfl,rfl⟩ ih
      cases t with
      | nil=>cases e2
      | cons x0 t =>
       cases e2;have hx:x0∈l:=sA x0 (by rw[<- eb];simp);have hlen:=congrArg F9 eb;rw[B4,C1] at hlen;refine#[by rw[av (aU vF ju),vF],?_];simp![vq];have yZ:=qT _ _ og;have Lr:=qT _ _ uL;refine#[wa,bI l (fV F yp np),.inr x0,_,rfl,rfl,by rw[av (aU yZ ju)];exact yZ,vC hx (by(clear Lr yZ hlen ih eb ju vF r_ zJ qT rD u9 uR kW sA hU e2 dl qP uL vh o_ og wO f9 uJ uK uI n9 y9 w9 LJ n8 y8 w8 iV n7 y7 w7 eR n6 y6 w6 n4 hN y4 w4 f4 y2 hY w2 f2 post hb hl hw sh qK uT c_ f8 uS f7 hF f6 gE m5 m3 m2 m1 o7 pI oN oO oP jN ig l5 l3 l2 l1 o9 lI lJ lK jv eP dJ hsz hW mj oX;omega)),pn,bI l np,.inr x0,_,rfl,rfl,by rw[av (aU Lr ju)];exact Lr,vC hx m4,?_];simp![aC];refine#[∅,∅,C8 (m:=1000) (by rw[B0,B0];(clear Lr yZ ih eb ju vF r_ zJ qT rD u9 uR kW sA e2 dl qP uL vh o_ og wO f9 uJ uK uI n9 y9 w9 n8 y8 w8 iV n7 y7 w7 eR n6 y6 w6 n4 hN y4 w4 f4 y2 hY w2 f2 post hw sh qK uT c_ f8 uS f7 hF f6 gE m5 m3 m2 m1 o7 pI oN oO oP jN ig l5 l3 l2 l1 o9 lI lJ lK jv eP dJ hsz hW mj oX;omega)) ∅,ih _ _ #[b++[x0],t,_,by rw[<- eb];simp,rfl,?_,rfl]];rw[h9,B9,B9];rfl
    ·rintro z t σ lO ⟨a,t,v0,ea,e2,rfl,rfl⟩ ih
     cases t with
     | nil=>cases e2
     | cons x0 t =>
      cases e2;have hx:x0∈l:=sA x0 (by rw[<- ea];simp);have hlen:=congrArg F9 ea;rw[B4,C1] at hlen;refine#[by rw[av (aU rD qP),rD];rfl,?_];simp![vq,JP];refine#[wa,bI l (fV F yp np),.inr x0,_,rfl,rfl,by rw[av (aU og qP)];exact og,vC hx (by(clear hlen ih ea dl qP uL vh rD u9 uR kW sA hU e2 o_ og wO f9 uJ uK uI n9 y9 w9 LJ n8 y8 w8 iV n7 y7 w7 eR n6 y6 w6 n4 hN y4 w4 f4 y2 hY w2 f2 post hb hl hw sh qK uT c_ f8 uS f7 hF f6 gE m5 m3 m2 m1 o7 pI oN oO oP jN ig l5 l3 l2 l1 o9 lI lJ lK jv eP dJ hsz hW mj oX;omega)),py,o8,bI l yp,.inr x0,_,rfl,rfl,by rw[av (aU vh qP)];exact vh,vC hx l4,?_];simp![aC];refine#[∅,∅,C8 (m:=1000) (by rw[B0,B0];(clear ih ea dl qP uL vh rD u9 uR kW sA e2 o_ og wO f9 uJ uK uI n9 y9 w9 n8 y8 w8 iV n7 y7 w7 eR n6 y6 w6 n4 hN y4 w4 f4 y2 hY w2 f2 post hw sh qK uT c_ f8 uS f7 hF f6 gE m5 m3 m2 m1 o7 pI oN oO oP jN ig l5 l3 l2 l1 o9 lI lJ lK jv eP dJ hsz hW mj oX;omega)) ∅,ih _ _ #[a++[x0],t,_,by rw[<- ea];simp,rfl,?_,rfl]];rw[h9,B9,B9];rfl
   ·rintro z r σ Jt ⟨u1,u2,v7,eu,e2,xw,og,o_,rfl⟩ ih
    cases u2 with
    | nil=>cases e2
    | cons x0 u2 =>
     cases e2;have hx:x0∈l:=sA x0 (by rw[<- eu];simp);refine#[by rw[o_ _ _ uK uJ uI u9];rfl,?_];simp![CP,xw.ob,aB];refine rA xw λlO xv Hk=>?_
     simp!;have yZ:=Hk _ _ dJ eP og;refine#[wa,bI l (asg l u1 F yp),.inr x0,rfl,rfl,yZ,C8 (m:=1000) (by have:=Dy l (asg l u1 F yp);(clear yZ ih eu o_ og wO f9 uJ uK uI u9 n9 y9 w9 uR kW sA hU LJ n8 y8 w8 iV n7 y7 w7 eR n6 y6 w6 n4 hN y4 w4 f4 y2 hY w2 f2 post hw e2 sh qK uT c_ f8 uS f7 hF f6 gE m5 m3 m2 m1 o7 pI oN oO oP jN ig l5 l3 l2 l1 o9 lI lJ lK jv eP dJ hsz hW mj oX;omega)) ∅,?_];rw[Rg hx hn (by rw[YR];exact l4),<- ZJ];refine ih _ _ #[u1++[x0],u2,_,by rw[<- eu];simp,rfl,?_,aC,λb o h1 h2 h3 e=>by rw[av h3];exact Hk b o h1 h2 (o_ b o h1 h2 h3 e),rfl];rw[B4,show F+(u1.length+[x0].length)=F+u1.length+1 from rfl];exact#[by rw[av (D8 dJ)];exact xv.ob,by rw[av (D8 eP)];exact xv.ro]
  ·rintro z t σ G9 ⟨l,t,v0,el,e2,rfl,rfl⟩ ih
   cases t with
   | nil=>cases e2
   | cons x0 t =>
    cases e2;refine#[by rw[av qK];exact y8,?_];have hm:x0∈bs:=by rw[<- el];simp
    simp![JP,vq];refine#[py,o8,bI bs yp,.inr x0,_,rfl,rfl,by rw[av qK];exact y8,vC hm l4,?_];refine#[pn,bI bs np,.inr x0,_,rfl,rfl,by rw[av sh];exact n8,vC hm m4,?_];simp![aC];have hlen:=congrArg F9 el;rw[B4,C1] at hlen
    by_cases q:gtB bs yp x0=gtB bs np x0
    ·rw[if_neg (by simp[q])]
     refine ih _ _ #[l++[x0],t,_,by rw[<- el];simp,rfl,?_,rfl];rw[VX,B03 (by simp[q]),C17,E4]
    ·rw[if_pos (by rw[decide_eq_false ()];rfl)]
     refine#[C8 (m:=1000) (by rw[B0];have:=B37 (λn=>!decide (gtB bs yp n=gtB bs np n)) l;(clear q ih el sh qK uT c_ f8 n8 y8 w8 uS iV f7 n7 y7 w7 eR hF n6 y6 w6 f6 gE n4 m5 m3 m2 m1 hN y4 w4 o7 f4 pI oN oO oP jN ig y2 l5 l3 l2 l1 hY w2 o9 f2 lI lJ lK jv eP dJ hsz post hW mj oX hw;omega)) ∅,ih _ _ #[l++[x0],t,_,by rw[<- el];simp,rfl,?_,rfl]];rw[h9,VX,B04 (by simp[q]),C17,B9];rfl
theorem wt2{n:Nat}(cb:n<*T.bE<*dI)(cF:n<*T.bP<*dH):n+1<*T.jS.1<*nH:=by
 refine dk T.jS.1 oz (λ_ _ _ _ _ _ hr =>
   (au (aT (rT (cN KW rfl T.bW ∅ #v[!0,(Kd (T := "str") T.sP ∅)])) (aE (bj (vA hr (!1) (!0)))) cU)
   (au (aQ 3 oz.nd (lM T.ao.cl T.bE T.dZ cb hr (!2)))
   (au (dW (em T.ao.cl T.bP T.gi cF hr (!2) #v[(dU #v[(bD #v[aZ,!3,(bD #v[aZ,!0])])])]))
   (aE (bj (!3))))))) (λds G R h=>?_)
 ·obtain⟨p,rp,wa,W,fr,rows,st,bs,pl,a,rfl,A,hw,hl,ha,h1,post⟩:=h
  cases a with
  | num i =>
   simp![aD,zb];refine#[by simp,?_];rw[if_neg ∅];dsimp![A.ob,aB];refine rA A λG1 A1 a1=>?_
   simp!;dsimp![A1.ob,aB];refine#[∅,∅,∅,λp1 c_=>?_];refine vx (new:=[.add fr (.num (i:Int))]) A1 c_ () (P5 rfl) λG2 A2 a2=>?_
   simp!;dsimp!;exact post G2 A2 (a1.trans a2)
  | box x =>
   simp![aD,zb,vq];refine#[by simp,?_];rw[if_pos ∅];exact#[wa,_,.inr x,_,rfl,rfl,hw,vC ha hl,post G (by rw[show rows++de fr (.box x)=rows from E4 _];exact A) cw.refl]
theorem wr1{n:Nat}(II:n<*T.mC.1<*WE)(Ji:n<*T.m6.1<*WA)(ui:n<*T.jZ.1<*NF)(Jl:n<*T.m_.1<*Wy)(Jk:n<*T.m9.1<*Wz)(IK:n<*T.mE.1<*WD)(Jm:n<*T.ng.1<*Wx):n+1<*T.mn.1<*sT:=by
 refine C_ T.mn.1 Yq (λds G R h=>?_) (λ_ _ _ _ _ _ hr =>
   (au (aT (bO (aV hr) (!0) aZ (ah _)) (aE (bj (ek II hr #v[!1,!2,!3]))) cU)
   (au (aT (bO (aV hr) (!0) aZ (ah _)) (aE (bj (ek Ji hr #v[!1,!2,!3]))) cU)
   (au (aT (bO (aV hr) (!0) aZ (ah _)) (aE (bj (ek ui hr #v[!1,!2,!3]))) cU)
   (au (aT (bO (aV hr) (!0) aZ (ah _)) (aE (bj (ek Jl hr #v[!1,!2,!3]))) cU)
   (au (aT (bO (aV hr) (!0) aZ (ah _)) (aE (bj (ek Jk hr #v[!1,!2,!3]))) cU)
   (au (aT (bO (aV hr) (!0) aZ (ah _)) (aE (bj (ek IK hr #v[!1,!2,!3]))) cU)
   (aE (bj (ek Jm hr #v[!1,!2,!3])))))))))) (λds G R h=>?_)
 ·obtain⟨o,ho,p,rp,W,fr,x,y,rows,st,rfl,_⟩:=h;rfl
 ·obtain⟨o,ho,p,rp,W,fr,x,y,rows,st,rfl,A,hW,hl,post⟩:=h
  rcases QT ho with rfl|rfl|rfl|rfl|rfl|rfl|rfl
  ·simp![J7,J6]
   exact rQ (xs:=xy) (bx:=λfr=>fr) (fn:=λfr=>fr+2) (nw:=λW x y fr=>fT W x y fr "+") A hW () post
  ·simp![J7,J6]
   rw[if_neg ∅];dsimp!;exact rQ (xs:=xy) (bx:=λfr=>fr) (fn:=λfr=>fr+2) (nw:=λW x y fr=>fT W x y fr "-") A hW () post
  ·simp![J7,J6]
   rw[if_neg ∅];dsimp!;rw[if_neg ∅];dsimp!;exact rQ (xs:=xy) (bx:=λfr=>fr) (fn:=λfr=>fr+1) (nw:=λW x y fr=>cD fr x y W) A hW () post
  ·simp![J7,J6]
   rw[if_neg ∅];dsimp!;rw[if_neg ∅];dsimp!;rw[if_neg ∅];dsimp!;exact rQ (xs:=xy) (bx:=λfr=>fr+1) (fn:=λfr=>fr+2) (nw:=λW x y fr=>fT W x y fr "|") A hW () post
  ·simp![J7,J6]
   rw[if_neg ∅];dsimp!;rw[if_neg ∅];dsimp!;rw[if_neg ∅];dsimp!;rw[if_neg ∅];dsimp!;exact rQ (xs:=xy) (bx:=λfr=>fr+1) (fn:=λfr=>fr+2) (nw:=λW x y fr=>fT W x y fr "^") A hW () post
  ·simp![J7,J6]
   rw[if_neg ∅];dsimp!;rw[if_neg ∅];dsimp!;rw[if_neg ∅];dsimp!;rw[if_neg ∅];dsimp!;rw[if_neg ∅];dsimp!;exact rQ (xs:=xy) (bx:=λfr=>fr+1) (fn:=λfr=>fr+2) (nw:=λW x y fr=>fT W x y fr "<") A hW () post
  ·simp![J7,J6]
   rw[if_neg ∅];dsimp!;rw[if_neg ∅];dsimp!;rw[if_neg ∅];dsimp!;rw[if_neg ∅];dsimp!;rw[if_neg ∅];dsimp!;rw[if_neg ∅];dsimp!;exact rQ (xs:=xy) (bx:=λfr=>fr+2) (fn:=λfr=>fr+3) (nw:=λW x y fr=>fT W x y fr "=") A hW () post
theorem ws1{n:Nat}(cb:n<*T.bE<*dI)(cF:n<*T.bP<*dH):n+1<*T.mC.1<*WE:=by
 refine dk T.mC.1 kA (λ_ _ _ _ _ _ hr =>
   (au (aQ 3 kA.nd (lM T.ao.cl T.bE T.dZ cb hr (!2)))
   (au (aQ 4 kA.nd (lM T.ao.cl T.bE T.dZ cb hr (!2)))
   (au (dW (em T.ao.cl T.bP T.gi cF hr (!2) #v[(dU #v[(bD #v[aZ,!3,(bD #v[aZ,!0])]),(bD #v[aZ,!3,(bD #v[aZ,!1])]),(bD #v[aZ,!4,(iI T.ao.cl T.ao.iS (!2)),(bD #v[(bD #v[!3,(iI T.ao.cl T.ao.iS (!2))])])]),(bD #v[aZ,!3,(bD #v[aZ,!4])])])]))
   (aE (bj (!3))))))) (λds G R h=>?_)
 ·obtain⟨p,rp,W,fr,x,y,rows,st,rfl,A,hW,hl,post⟩:=h
  simp![xy,J7,J6,A.ob,aB];refine rA A λG1 A1 a1=>?_
  simp!;dsimp![A1.ob,aB];refine rA A1 λG2 A2 a2=>?_
  simp!;dsimp![A2.ob,aB];refine#[∅,∅,∅,∅,∅,∅,∅,∅,∅,∅,λp1 c_=>?_];refine vx (new:=fT W x y fr "+") A2 c_ () (P5 rfl) λG3 A3 a3=>?_
  simp!;dsimp!;exact post G3 A3 ((a1.trans a2).trans a3)
theorem ww1{n:Nat}(cb:n<*T.bE<*dI)(cF:n<*T.bP<*dH)(j_:n<*T.iZ.1<*JN):n+1<*T.m6.1<*WA:=by
 refine dk T.m6.1 kG (λ_ _ _ _ _ _ hr =>
   (au (aQ 3 kG.nd (ek j_ hr #v[!0,!1,!2]))
   (au (aQ 4 kG.nd (lM T.ao.cl T.bE T.dZ cb hr (!2)))
   (au (dW (em T.ao.cl T.bP T.gi cF hr (!2) #v[(dU #v[(bD #v[aZ,!4,(iI T.ao.cl T.ao.iS (!2)),(bD #v[(bD #v[!3,(zg T.bT)])])]),(bD #v[aZ,!3,(bD #v[aZ,!4])])])]))
   (aE (bj (!3))))))) (λds G R h=>?_)
 ·obtain⟨p,rp,W,fr,x,y,rows,st,rfl,A,hW,hl,post⟩:=h
  simp![xy,J7,J6];refine rQ (xs:=xy) (bx:=λfr=>fr) (fn:=λfr=>fr+1) (nw:=λ_ x y fr=>[.add fr (.box x),.take fr (.box y)]) A hW () λG1 A1 a1=>?_
  simp!;dsimp![A1.ob,aB];refine rA A1 λG2 A2 a2=>?_
  simp!;dsimp![A2.ob,aB];refine#[∅,∅,∅,∅,∅,∅,λp1 c_=>?_];refine vx (new:=[.turn (fr+1) W [(fr,31)],.add fr (.box (fr+1))]) A2 c_ (by rw[B4];show _+2<=_;omega) (P5 rfl) λG3 A3 a3=>?_
  simp!;dsimp!;rw[E2,K5] at A3;exact post G3 A3 ((a1.trans a2).trans a3)
theorem wy0{n:Nat}(cb:n<*T.bE<*dI)(cF:n<*T.bP<*dH):n+1<*T.iZ.1<*JN:=by
 refine dk T.iZ.1 oJ (λ_ _ _ _ _ _ hr =>
   (au (aQ 3 oJ.nd (lM T.ao.cl T.bE T.dZ cb hr (!2)))
   (au (dW (em T.ao.cl T.bP T.gi cF hr (!2) #v[(dU #v[(bD #v[aZ,!3,(bD #v[aZ,!0])]),(bD #v[aZ,!3,(bD #v[aZ,!1])])])]))
   (aE (bj (!3)))))) (λds G R h=>?_)
 ·obtain⟨p,rp,W,fr,x,y,rows,st,rfl,A,hW,hl,post⟩:=h
  simp![xy,J7,J6,A.ob,aB];refine rA A λG1 A1 a1=>?_
  simp!;dsimp![A1.ob,aB];refine#[∅,∅,∅,∅,∅,λp1 c_=>?_];refine vx (new:=[.add fr (.box x),.take fr (.box y)]) A1 c_ () (P5 rfl) λG2 A2 a2=>?_
  simp!;dsimp!;exact post G2 A2 (a1.trans a2)
theorem ww6{n:Nat}(cb:n<*T.bE<*dI)(cF:n<*T.bP<*dH):n+1<*T.jZ.1<*NF:=by
 refine dk T.jZ.1 oF (λ_ _ _ _ _ _ hr =>
   (au (aQ 3 oF.nd (lM T.ao.cl T.bE T.dZ cb hr (!2)))
   (au (dW (em T.ao.cl T.bP T.gi cF hr (!2) #v[(lT (N':=["bit", "box", "first", "second"]) (ix:=[none,some 3,some 0,some 1]) (jh rfl rfl rfl) (uA rfl T.bH #v[(iI T.ao.cl T.ao.iS (!2))]) (λ_ _ _ _=>(c8 0 (show(["bit", "box", "first", "second"]:List Str).Nodup by decide))) (λ_ _ _ _=>ki) (λ_ _ _ _=>(bD #v[aZ,!1,!0,(bD #v[(bD #v[!2,!0]),(bD #v[!3,!0])])])))]))
   (aE (bj (!3)))))) (λds G R h=>?_)
 ·obtain⟨p,rp,W,fr,x,y,rows,st,rfl,A,hW,hl,post⟩:=h
  simp![xy,J7,J6,A.ob,aB];refine rA A λG1 A1 a1=>?_
  simp!;dsimp![A1.ob,aB];refine#[#[(),()],λp1 c_=>?_];refine kj (λr σ G'=>lN λ(i c:Nat) (v:Option D)=>pz (i+c=W) (r=cn (i:Int) c) (G'=aG G1 p1 (.lst ((cD fr x y i).map Row.d))) (σ=[v,some (.int (fr:Int)),some (.int (x:Int)),some (.int (y:Int))])) #[0,W,none,(),rfl,rfl,rfl] ?_ ?_
  ·rintro σ G2 ⟨i,c,v,e,e2,rfl,rfl⟩
   have hc:c=0:=by
    cases c with
    | zero=>rfl
    | succ c=>rw[lG] at e2;cases e2
   subst hc;obtain rfl:i=W:=()
   refine#[trivial,?_];refine vx (new:=cD fr x y i) A1 c_ () (by unfold cD;rw[B0,D9];omega) λG3 A3 a3=>?_
   simp!;dsimp!;exact post G3 A3 (a1.trans a3)
  ·rintro z r σ G2 ⟨i,c,v,e,e2,rfl,rfl⟩ ih
   cases c with
   | zero=>cases e2
   | succ c =>
    rw[lG] at e2;cases e2;refine#[trivial,?_];simp![aC];refine#[∅,∅,∅,∅,?_,ih _ _ #[i+1,c,_,(),rfl,?_,rfl]]
    ·rw[B0]
     unfold cD;rw[B0,D9];exact C8 (m:=1000) () ∅
    ·rw[h9]
     unfold cD;rw[R0,B9,B9];rfl
theorem ww7{n:Nat}(t_:n<*T.jP.1<*pZ):n+1<*T.m_.1<*Wy:=by
 refine dk T.m_.1 Ya (λ_ _ _ _ _ _ hr =>
   (aE (bj (ek t_ hr #v[!0,!1,aA,!2])))) (λds G R h=>?_)
 ·obtain⟨p,rp,W,fr,x,y,rows,st,rfl,A,hW,hl,post⟩:=h
  simp![xy,J7,J6];exact rW (post:=λd G'=>d=.int ((fr+1:Nat):Int)/\ar bF G' p rp W (fr+2) (rows++fT W x y fr "|") (st+(fT W x y fr "|").length)/\cw p rp G G') (λR h'=>#[1,∅,p,rp,W,fr,x,y,rows,st,rfl,A,hW,(),λG' a b=>h' _ _ #[rfl,a,b]]) λd G' ⟨e,a,b⟩=>by subst e;exact post G' a b
theorem ww5{n:Nat}(t_:n<*T.jP.1<*pZ):n+1<*T.m9.1<*Wz:=by
 refine dk T.m9.1 Yb (λ_ _ _ _ _ _ hr =>
   (aE (bj (ek t_ hr #v[!0,!1,aA,!2])))) (λds G R h=>?_)
 ·obtain⟨p,rp,W,fr,x,y,rows,st,rfl,A,hW,hl,post⟩:=h
  simp![xy,J7,J6];exact rW (post:=λd G'=>d=.int ((fr+1:Nat):Int)/\ar bF G' p rp W (fr+2) (rows++fT W x y fr "^") (st+(fT W x y fr "^").length)/\cw p rp G G') (λR h'=>#[2,∅,p,rp,W,fr,x,y,rows,st,rfl,A,hW,(),λG' a b=>h' _ _ #[rfl,a,b]]) λd G' ⟨e,a,b⟩=>by subst e;exact post G' a b
theorem ws2{n:Nat}(cb:n<*T.bE<*dI)(cF:n<*T.bP<*dH)(ui:n<*T.jZ.1<*NF):n+1<*T.jP.1<*pZ:=by
 refine C_ T.jP.1 kB (λds G R h=>?_) (λ_ _ _ _ _ _ hr =>
   (au (aQ 4 kB.nd (ek ui hr #v[!0,!1,!3]))
   (au (aQ 5 kB.nd (lM T.ao.cl T.bE T.dZ cb hr (!3)))
   (au (dW (em T.ao.cl T.bP T.gi cF hr (!3) #v[(aP cG (dU #v[(bD #v[aZ,!5,(bD #v[aZ,!0])]),(bD #v[aZ,!5,(bD #v[aZ,!1])])]) (aP nR (dU #v[(bD #v[aZ,!5,(bD #v[aZ,!4])])]) (!2)))]))
   (aE (bj (!5))))))) (λds G R h=>?_)
 ·obtain⟨n,hn,p,rp,W,fr,x,y,rows,st,rfl,_⟩:=h;rfl
 ·obtain⟨n,hn,p,rp,W,fr,x,y,rows,st,rfl,A,hW,hl,post⟩:=h
  have hand:(cD fr x y W).length=W:=by unfold cD;rw[B0,D9]
  simp![J7,J6,A.ob,aB];refine rQ (xs:=xy) (bx:=λfr=>fr) (fn:=λfr=>fr+1) (nw:=λW x y fr=>cD fr x y W) A hW () λG1 A1 a1=>?_
  simp!;dsimp![A1.ob,aB];refine rA A1 λG2 A2 a2=>?_
  simp!;dsimp![A2.ob,aB];refine#[∅,∅,∅,∅,∅,λp1 c_=>?_];simp!;refine#[∅,∅,∅,λp2 mf=>#[#[(),(),D6 (m:=10) () ∅],λp3 kR=>?_]];have k1:∀{o2 o3:DO},aG (aG (aG G2 p1 (.lst (([.add (fr+1) (.box x),.add (fr+1) (.box y)]:List Row).map Row.d))) p2 o2) p3 o3 p1=some (.lst (([.add (fr+1) (.box x),.add (fr+1) (.box y)]:List Row).map Row.d)):=λ{o2 o3}=>by
   have n2:p1≠p2:=aU aC mf;have n3:p1≠p3:=λz=>by rw[<- z,av n2,aC] at kR;cases kR
   rw[av n3,av n2,aC]
  refine vz4 k1 aC (by rw[V6,R4];exact D6 (m:=10) (by show 2+n<=10;omega) ∅) λp4 xZ=>?_
  have ef:([Row.add (fr+1) (.box x),.add (fr+1) (.box y)]:List Row).map Row.d++(D0 n [D.tup [.str "take",.int ((fr+1:Nat):Int),.tup [.str "box",.int (fr:Int)]]]).flatten=([.add (fr+1) (.box x),.add (fr+1) (.box y)]++D0 n (.take (fr+1) (.box fr)):List Row).map Row.d:=by
   rw[V6,B9,B75];rfl
  rw[ef];have A2':=((A2.new (o:=.lst (([.add (fr+1) (.box x),.add (fr+1) (.box y)]:List Row).map Row.d)) c_).new (o:=.lst (([.take (fr+1) (.box fr)]:List Row).map Row.d)) mf).new (o:=.lst ((D0 n [D.tup [.str "take",.int ((fr+1:Nat):Int),.tup [.str "box",.int (fr:Int)]]]).flatten)) kR;have a2':=((cw.refl (p:=p) (rp:=rp)).new (o:=.lst (([.add (fr+1) (.box x),.add (fr+1) (.box y)]:List Row).map Row.d)) c_).new (o:=.lst (([.take (fr+1) (.box fr)]:List Row).map Row.d)) mf |>.new (o:=.lst ((D0 n [D.tup [.str "take",.int ((fr+1:Nat):Int),.tup [.str "box",.int (fr:Int)]]]).flatten)) kR
  refine vx (new:=[.add (fr+1) (.box x),.add (fr+1) (.box y)]++D0 n (.take (fr+1) (.box fr))) A2' xZ (by rw[B4,hand];omega) (by rw[B4,R4];show 2+n<=1000;omega) λG3 A3 a3=>?_
  simp!;dsimp!;refine post G3 ?_ ((a1.trans a2).trans (a2'.trans a3))
  show ar bF G3 p rp W (fr+2) (rows++(cD fr x y W++([.add (fr+1) (.box x),.add (fr+1) (.box y)]++D0 n (.take (fr+1) (.box fr))))) (st+(cD fr x y W++([Row.add (fr+1) (.box x),.add (fr+1) (.box y)]++D0 n (Row.take (fr+1) (.box fr)))).length)
  rw[B4 (as:=cD fr x y W),<- K5,<- E2];exact A3
theorem ws6{n:Nat}(cb:n<*T.bE<*dI)(cF:n<*T.bP<*dH)(j_:n<*T.iZ.1<*JN):n+1<*T.mE.1<*WD:=by
 refine dk T.mE.1 kC (λ_ _ _ _ _ _ hr =>
   (au (aQ 3 kC.nd (ek j_ hr #v[!0,!1,!2]))
   (au (aQ 4 kC.nd (lM T.ao.cl T.bE T.dZ cb hr (!2)))
   (au (dW (em T.ao.cl T.bP T.gi cF hr (!2) #v[(dU #v[(bD #v[aZ,!4,aA,(bD #v[(bD #v[!3,(zg T.bT)])])])])]))
   (aE (bj (!4))))))) (λds G R h=>?_)
 ·obtain⟨p,rp,W,fr,x,y,rows,st,rfl,A,hW,hl,post⟩:=h
  simp![xy,J7,J6];refine rQ (xs:=xy) (bx:=λfr=>fr) (fn:=λfr=>fr+1) (nw:=λ_ x y fr=>[.add fr (.box x),.take fr (.box y)]) A hW () λG1 A1 a1=>?_
  simp!;dsimp![A1.ob,aB];refine rA A1 λG2 A2 a2=>?_
  simp!;dsimp![A2.ob,aB];refine#[∅,∅,∅,∅,λp1 c_=>?_];refine vx (new:=[.turn (fr+1) 0 [(fr,31)]]) A2 c_ (by rw[B4];show _+2<=_;omega) (P5 rfl) λG3 A3 a3=>?_
  simp!;dsimp!;rw[E2,K5] at A3;exact post G3 A3 ((a1.trans a2).trans a3)
theorem ww9{n:Nat}(cb:n<*T.bE<*dI)(cF:n<*T.bP<*dH)(j_:n<*T.iZ.1<*JN):n+1<*T.ng.1<*Wx:=by
 refine dk T.ng.1 iR (λ_ _ _ _ _ _ hr =>
   (au (aQ 3 iR.nd (ek j_ hr #v[!0,!1,!2]))
   (au (aQ 4 iR.nd (ek j_ hr #v[!1,!0,!2]))
   (au (aQ 5 iR.nd (lM T.ao.cl T.bE T.dZ cb hr (!2)))
   (au (dW (em T.ao.cl T.bP T.gi cF hr (!2) #v[(dU #v[(bD #v[aZ,!5,aA,(bD lu)]),(bD #v[aZ,!5,aA,(bD #v[(bD #v[!3,(zg T.bT)])])]),(bD #v[aZ,!5,aA,(bD #v[(bD #v[!4,(zg T.bT)])])])])]))
   (aE (bj (!5)))))))) (λds G R h=>?_)
 ·obtain⟨p,rp,W,fr,x,y,rows,st,rfl,A,hW,hl,post⟩:=h
  simp![xy,J7,J6];refine rQ (xs:=xy) (bx:=λfr=>fr) (fn:=λfr=>fr+1) (nw:=λ_ x y fr=>[.add fr (.box x),.take fr (.box y)]) A hW () λG1 A1 a1=>?_
  simp!;dsimp!;have x_:(rows++[Row.add fr (.box x),.take fr (.box y)]).length+2*0<=4100:=by rw[B4];show _+2+0<=_;omega
  refine bM #[p,rp,W,fr+1,y,x,_,_,rfl,A1,hW,x_,λG2 A2 a2=>?_];simp!;dsimp![A2.ob,aB];refine rA A2 λG3 A3 a3=>?_
  simp!;dsimp![A3.ob,aB];refine#[∅,∅,∅,∅,∅,∅,∅,∅,∅,λp1 c_=>?_];refine vx (new:=[.turn (fr+2) 0 [],.turn (fr+2) 0 [(fr,31)],.turn (fr+2) 0 [(fr+1,31)]]) A3 c_ (by rw[B4,B4];show _+2+2<=_;omega) (P5 rfl) λG4 A4 a4=>?_
  simp!;dsimp!;refine post G4 ?_ ((a1.trans a2).trans (a3.trans a4))
  show ar bF G4 p rp W (fr+3) (rows++(([Row.add fr (.box x),.take fr (.box y)]++[.add (fr+1) (.box y),.take (fr+1) (.box x)])++[.turn (fr+2) 0 [],.turn (fr+2) 0 [(fr,31)],.turn (fr+2) 0 [(fr+1,31)]])) (st+2+2+3)
  rw[<- E2,<- E2];exact A4
theorem ws0{n:Nat}(cb:n<*T.bE<*dI)(cF:n<*T.bP<*dH):n+1<*T.mB.1<*sX:=by
 refine dk T.mB.1 kz (λ_ _ _ _ _ _ hr =>
   (au (aQ 2 kz.nd (lM T.ao.cl T.bE T.dZ cb hr (!1)))
   (au (aQ 3 kz.nd (lM T.ao.cl T.bE T.dZ cb hr (!1)))
   (au (dW (em T.ao.cl T.bP T.gi cF hr (!1) #v[(dU #v[(bD #v[aZ,!2,(bD #v[aZ,!0])]),(bD #v[aZ,!3,aA,(bD #v[(bD #v[!2,(zg T.bT)])])])])]))
   (aE (bj (!3))))))) (λds G R h=>?_)
 ·obtain⟨p,rp,W,fr,x,rows,st,rfl,A,hl,post⟩:=h
  simp![A.ob,aB];refine rA A λG1 A1 a1=>?_
  simp!;dsimp![A1.ob,aB];refine rA A1 λG2 A2 a2=>?_
  simp!;dsimp![A2.ob,aB];refine#[∅,∅,∅,∅,∅,∅,λp1 c_=>?_];refine vx (new:=[.take fr (.box x),.turn (fr+1) 0 [(fr,31)]]) A2 c_ () (P5 rfl) λG3 A3 a3=>?_
  simp!;dsimp!;exact post G3 A3 ((a1.trans a2).trans a3)
theorem wu2{n:Nat}(uf:n<*T.jW.1<*qg)(ID:n<*T.my.1<*sV)(t9:n<*T.jO.1<*pY):n+1<*T.mP.1<*tH:=by
 refine dk T.mP.1 gK (λ_ _ _ _ _ _ hr =>
   (au (aQ 6 gK.nd (cN eL rfl T.aX ∅ #v[¬2]))
   (au (aQ 7 gK.nd (ek t9 hr #v[!1,¬2,¬2,(vf0 hr rfl T.bH rfl T.dR #v[!3,(aP cG (!3) (!6))]),!5]))
   (au (aQ 8 gK.nd (bD #v[¬7,¬7]))
   (au (Qm 9 gK.nd (N':=["at", "place", "word", "target"]) (ix:=[none,none,some 0,some 4]) (jh rfl rfl rfl) (Rp rfl T.cC #v[¬7]) (λ_ _ _ _=>(Bc (n:=2) rfl (qx (c8 0 (show(["at", "place", "word", "target"]:List Str).Nodup by decide)) (qx (c8 1 (show(["at", "place", "word", "target"]:List Str).Nodup by decide)) Bn)))) (λ_ _ _ _=>ki) (λ_ _ _ _=>(bD #v[!2,(aP cG (!3) (!0)),(bD #v[aZ,!1])])))
   (aE (bj (ek uf hr #v[(dU #v[!8,(bD #v[¬7,!9]),(ek ID hr #v[!8])])])))))))) (λds G R h=>?_)
 ·obtain⟨add,pc,W,bs,rs,x,src,aN,fr,rfl,gE,ok,hW,TV,h1,h2,h3,post⟩:=h
  have hb:=ok.nb;simp![B0];dsimp![QM];refine#[#[(),()],λp hp=>?_];have hr:cn (src:Int) ((src:Int)+(bs.length:Int)-(src:Int)).toNat=(bS src bs.length).map nD:=by
   rw[show((src:Int)+(bs.length:Int)-(src:Int)).toNat=bs.length by omega];unfold cn bS;rw[L5];exact K9 λk _=>by show D.int _=D.int _;congr 1
  rw[hr];refine bM #[pc,p,W,fr,bs,bS src bs.length,rs,rfl,by rw[av (aU gE hp)];exact gE,aC,by unfold bS;rw[B0,D9],ok.nb,ok.nd,ok.ok,ok.nt,ok.dp,ok.sz,ok.hW,λq1 q2 G2 n1 n2 n3 k1 k2 g2=>?_];have g0:=(ax.refl (G:=G) |>.new (o:=.lst ((bS src bs.length).map nD)) hp).trans g2;have bZ:(bS src bs.length).length=bs.length:=by unfold bS;rw[B0,D9]
  have wl:=rX (a:=0) (fr:=fr) ok.hW ok.nb rs ok.ok ok.nt bZ;have wp:=(qB (a:=0) (fr:=fr) ok.hW rs ok.ok ok.nt bZ λp hp=>QD h1 hp).1.pr.pairs;unfold fL at post;generalize hZ:(bf W bs rs 0 (bS src bs.length) fr)=Z at *;dsimp!;dsimp!;refine#[∅,?_];obtain⟨l1,l2,l3,lz,l5⟩:=wl;simp![CU,k2,bt];intro p3 kR;have n13:q1≠p3:=aU k1 kR;have n23:q2≠p3:=aU k2 kR;refine kj (λr σ G'=>xc λ(l t:List Nat) (v0 v1:Option D)=>pz (l++t=Z.2.1) (r=uW l.length (t.map nD)) (G'=aG G2 p3 (.lst (((D1 l.length).map λj=>if add=true then Row.add (aN+j) (.box (Z.2.1.getD j 0)) else Row.take (aN+j) (.box (Z.2.1.getD j 0))).map Row.d))) (σ=[v0,v1,some (.str (NV add)),some (.int (aN:Int))])) #[[],Z.2.1,none,none,rfl,rfl,rfl,rfl] ?_ ?_
  ·rintro σ G3 ⟨l,t,v0,v1,e,e2,rfl,rfl⟩
   have ht:t=[]:=by
    cases t with
    | nil=>rfl
    | cons x t=>cases e2
   subst ht;rw[E4] at e;subst e;refine#[by rw[av n23,k2],?_];have car:aG G2 p3 (.lst (((D1 Z.2.1.length).map λj=>if add=true then Row.add (aN+j) (.box (Z.2.1.getD j 0)) else Row.take (aN+j) (.box (Z.2.1.getD j 0))).map Row.d)) p3=some (.lst ((cZ add aN Z.2.1).map Row.d)):=aC;have lc:(cZ add aN Z.2.1).length<=1000:=by unfold cZ;rw[B0,D9];omega
   have k13:aG G2 p3 (.lst (((D1 Z.2.1.length).map λj=>if add=true then Row.add (aN+j) (.box (Z.2.1.getD j 0)) else Row.take (aN+j) (.box (Z.2.1.getD j 0))).map Row.d)) q1=some (.lst (Z.1.map Row.d)):=by rw[av n13];exact k1
   have g3:=g0.new (o:=.lst (((D1 Z.2.1.length).map λj=>if add=true then Row.add (aN+j) (.box (Z.2.1.getD j 0)) else Row.take (aN+j) (.box (Z.2.1.getD j 0))).map Row.d)) kR;generalize aG G2 p3 (.lst (((D1 Z.2.1.length).map λj=>if add=true then Row.add (aN+j) (.box (Z.2.1.getD j 0)) else Row.take (aN+j) (.box (Z.2.1.getD j 0))).map Row.d))=G3 at *;dsimp!;refine#[∅,?_];refine bM #[_,q1,Z.1,rfl,k13,wp,(),λq4 G4 n4 k4 g4=>?_];simp!;refine#[∅,λp5 Gn=>?_];have g5:=g4.new (o:=.lst ([bY.mk Z.2.2.1 q1 Z.1,bY.mk Z.2.2.1 p3 (cZ add aN Z.2.1),bY.mk Z.2.2.1 q4 (iK Z.1)].map bY.d)) Gn;refine bM #[p5,[bY.mk Z.2.2.1 q1 Z.1,bY.mk Z.2.2.1 p3 (cZ add aN Z.2.1),bY.mk Z.2.2.1 q4 (iK Z.1)],rfl,aC,?_,by simp,by simp,λq6 G6 n6 k6 g6=>?_]
   ·intro c hc
    have lt:(iK Z.1).length<=1000:=by unfold iK;rw[Q9,B0];omega
    simp only[E6,O0,or_false] at hc
    rcases hc with rfl|rfl|rfl
    ·exact⟨g5.kp _ _ k13,by show Z.1.length<=1000;omega⟩
    ·exact⟨g5.kp _ _ car,lc⟩
    ·exact⟨by show aG G4 p5 _ q4=_;rw[av (aU k4 Gn)];exact k4,lt⟩
   ·have hm:gW [bY.mk Z.2.2.1 q1 Z.1,bY.mk Z.2.2.1 p3 (cZ add aN Z.2.1),bY.mk Z.2.2.1 q4 (iK Z.1)]=Z.2.2.1:=by
     show max Z.2.2.1 (max Z.2.2.1 (max Z.2.2.1 0))=_
     simp
    rw[hm];exact post q6 G6 ((g3.trans g5).none n6) k6 ((g3.trans g5).trans g6)
  ·rintro z r σ G3 ⟨l,t,v0,v1,e,e2,rfl,rfl⟩ ih
   cases t with
   | nil=>cases e2
   | cons y t =>
    cases e2;refine#[by rw[av n23,k2],?_];have hy:Z.2.1.getD l.length 0=y:=by
     rw[<- e,J0,E8 (B8 _),U4];rfl
    have pN:l.length<bs.length:=by rw[<- lz,<- e,B4,C1];omega
    simp![aC];refine#[∅,∅,?_,ih _ _ #[l++[y],t,_,_,by rw[<- e];simp,by rw[B4];rfl,?_,rfl]]
    ·rw[B0,B0,D9];exact C8 (m:=1000) () ∅
    ·rw[h9,B4,U8,R0,B9,B9]
     have SO:Z.2.1[l.length]?.getD 0=y:=by rw[<- J0];exact hy
     cases add <;> simp[Row.d,NV,nY.d,SO,nD]
theorem wu1{n:Nat}(t9:n<*T.jO.1<*pY):n+1<*T.mO.1<*tG:=by
 refine dk T.mO.1 kE (λ_ _ _ _ _ _ hr =>
   (au (aQ 2 kE.nd (cN eL rfl T.aX ∅ #v[¬1]))
   (au (aQ 3 kE.nd (ek t9 hr #v[!0,¬1,¬1,(v42 hr rfl T.bH rfl T.dR #v[!2]),!2]))
   (aE (bj (aP cG (aP nR aA (¬3)) (!2))))))) (λds G R h=>?_)
 ·obtain⟨pc,W,bs,rs,x,rfl,gE,ok,post⟩:=h
  simp![B0];have hb:=ok.nb;dsimp![Q_];refine#[#[(),()],λp hp=>?_];have hr:cn 0 ((bs.length:Int)-0).toNat=(D1 bs.length).map nD:=by
   rw[show((bs.length:Int)-0).toNat=bs.length by omega];unfold cn;exact K9 λk _=>by show D.int _=D.int _;congr 1;omega
  rw[hr];refine bM #[pc,p,W,bs.length,bs,D1 bs.length,rs,rfl,by rw[av (aU gE hp)];exact gE,aC,D9,ok.nb,ok.nd,ok.ok,ok.nt,ok.dp,ok.sz,ok.hW,λq1 q2 G2 h1 h2 h3 k1 k2 g2=>?_];have post:=post G2 ((ax.refl.new hp).trans g2);unfold kr at post;generalize (bf W bs rs 0 (D1 bs.length) bs.length)=Z at *;dsimp!;refine#[.inl ∅,?_];rw[show(2:Int)*(Z.2.2.2:Int)+(bs.length:Int)=((2*Z.2.2.2+bs.length:Nat):Int) by omega];exact post
theorem wt4{n:Nat}(nJ:n<*T.gu.1<*WG):n+1<*T.mI.1<*tq:=by
 refine dk T.mI.1 Yk (λ_ _ _ _ _ _ hr =>
   (aE (bj (ek nJ hr #v[¬0])))) (λds G R h=>?_)
 ·obtain⟨x,y,rs,rfl,h1,h2,h3,post⟩:=h
  simp!;exact bM #[_,rfl,(),h2,h3,λq G' a b c=>post q G' a b c]
theorem wr6{n dp:Nat}(IB:n<*T.mr.1<*lb dp):n+1<*T.gu.1<*e_ (dp+1):=by
 refine dk T.gu.1 ky (λ_ _ _ _ _ _ hr =>
   (au (aQ 1 ky.nd (dU lu))
   (au (lB (jG (!0)) (c8 2 ky.nd) (aE (dW (KO (!1) #v[(ek IB hr #v[!2])]))))
   (aE (bj (!1)))))) (λds G R h=>?_)
 ·obtain⟨rs,rfl,hd,hw,hb,post⟩:=h
  simp!;refine#[∅,λp hp=>?_];dsimp!;refine lE (λr σ G'=>lN λ(l t:List aq) (v2:Option D)=>Jy (l++t=rs) (r=bB t) (ax G G') (G' p=some (.lst (bB (aF l)))) (σ=[some (.tup (bB rs)),some (.ref p),v2])) #[[],rs,none,rfl,rfl,ax.refl.new hp,aC,rfl] ?_ ?_
  ·rintro σ G1 ⟨l,t,v2,e,e2,g,kp,rfl⟩
   have ht:t=[]:=by
    cases t with
    | nil=>rfl
    | cons x t=>cases e2
   subst ht;rw[E4] at e;subst e;refine#[trivial,?_];dsimp!;exact post p G1 hp kp g
  ·rintro x r σ G1 ⟨l,t,v2,e,e2,g,kp,rfl⟩ ih
   cases t with
   | nil=>cases e2
   | cons r0 t =>
    cases e2;refine#[trivial,?_];have hm:r0∈rs:=by rw[<- e];simp
    have mh:=Dj (MY hd) r0 hm;have SU:=Kr hm;have FX:bX l+(kh r0+bX t)=bX rs:=by rw[<- e,zi];rfl
    have Ti:=Dp l;simp![kp];refine bM #[_,rfl,mh,(),(Ka hb hm),λq G2 f2 k2 g2=>?_];have wd:=g2.kp _ _ kp;have npq:p≠q:=aU kp f2;have Gs:(dO r0).length<=kh r0:=by
     have:=Kg (dO r0);rw[Qi] at this;exact this
    simp![wd,k2];refine#[D6 (m:=2000) (by rw[oo,oo];omega) ∅,ih _ _ #[l++[r0],t,_,by rw[<- e];simp,rfl,#[λc o h=>?_],?_,rfl]]
    ·rw[av (aU h hp)]
     exact g2.kp _ _ (g.kp _ _ h)
    ·rw[aC,KQ,<- DA]
     simp[aF]
theorem wr5{n dp:Nat}(nJ:n<*T.gu.1<*e_ dp):n+1<*T.mr.1<*lb dp:=by
 refine dk T.mr.1 Yp (λ_ _ _ _ _ _ hr =>
   (au (aT (bO (aV hr) (¬0) aZ (ah _)) (aE (bj (qX (bO (aV hr) (¬0) aA (ah _)) (dU lu) (aP nR (ek nJ hr #v[¬0]) (¬0))))) cU)
   (au (aT (bO (aV hr) (¬0) aZ (ah _)) (aE (bj (dU #v[(bD #v[aZ,¬0,(lD zo rfl T.cR ∅ #v[(ek nJ hr #v[¬0])]),(lD zo rfl T.cR ∅ #v[(ek nJ hr #v[¬0])])])]))) cU)
   (aE (bj (dU #v[!0])))))) (λds G R h=>?_)
 ·obtain⟨r,rfl,hd,hw,hb,post⟩:=h
  cases r with
  | is x a =>
   simp![cI];dsimp!;dsimp!;exact#[∅,λp hp=>post p _ hp aC (ax.refl.new hp)]
  | op x o a b =>
   simp![cI];dsimp!;dsimp!;exact#[∅,λp hp=>post p _ hp aC (ax.refl.new hp)]
  | eF a ys ns =>
   simp![cI];have jy:1+max (aS ys) (aS ns)<=dp:=hd;have zQ:1+bX ys+bX ns<=1000:=hw;rw[if_neg ∅];refine bM #[_,rfl,(),(),hb.1,λq1 G1 f1 k1 g1=>?_];simp![k1,bt];refine bM #[_,rfl,(),(),hb.2,λq2 G2 f2 k2 g2=>?_];simp![k2,bt];refine#[∅,∅,λp hp=>post p _ ?_ ?_ ((g1.trans g2).new hp)]
   ·exact(g1.trans g2).none hp
   ·rw[aC];rfl
  | gV k ys =>
   have jy:1+aS ys<=dp:=hd;have zQ:k*bX ys<=1000:=hw;simp![cI];refine iJ (λhk=>?_) (λhk=>?_)
   ·have hk0:k=0:=()
    subst hk0;exact#[∅,λp hp=>post p _ hp (by rw[aC];rfl) (ax.refl.new hp)]
   ·have LD:bX ys<=k*bX ys:=Nat.le_mul_of_pos_left _ ()
    refine bM #[_,rfl,(),(),hb.2.1,λq1 G1 f1 k1 g1=>?_];simp![k1];have Ti:=Dp ys;have BU:(aF ys).length*k<=1000:=D6 (N4 k Ti) (by rw[MC];exact zQ);have hk9:=hb.2.2;refine#[#[(),(),D6 (m:=1000) (by rw[oo];exact BU) ∅],λp hp=>post p _ (g1.none hp) ?_ (g1.new hp)];rw[aC,Rh];rfl
theorem ws3{n:Nat}(IS:n<*T.mI.1<*tq):n+1<*T.iW.1<*nF:=by
 refine dk T.iW.1 fF (λ_ _ _ _ _ _ hr =>
   (au (aQ 2 fF.nd (ek IS hr #v[!0]))
   (au (aT (rE (w_or (bO (aV hr) (cN eL rfl T.aX ∅ #v[!1]) aA (ah _)) (w_or (bO (jk) (cN wj2 rfl T.nz ∅ #v[!1]) aA (ah _)) (zc (bO (ke hr) (cN x78 rfl T.sO ∅ #v[!1]) (cN eL rfl T.aX ∅ #v[!2]) (ah _)))))) (aE QB) cU)
   (au (aQ 3 fF.nd (dU lu))
   (au (aQ 4 fF.nd aA)
   (au (lB (jG (!1)) (c8 5 fF.nd) (au (dW (qz (!3) #v[(wV yR (!2) (Bq (!4)) (Bq (aP cG (!4) (!5))))]))
   (aE (JY 4 fF.nd (!5) xH))))
   (aE (bj (!3))))))))) (λds G R h=>?_)
 ·obtain⟨x,y,rs,ca,ks,rfl,oY,hd,hw,hb,hl,hg,good⟩:=h
  simp!;refine bM #[_,_,_,rfl,hd,hw,hb,λqp G1 fp kp g1=>?_];have ml:=g1.kp _ _ oY;have eC:ks.length≠0:=λz=>hg.1 (B05.mp z)
  simp![ml,B0];generalize hu:ij (i5 (sL nk) (rS 3)) _=u;dsimp![ml,B0];refine iJ (λq=>?_) (λq=>?_)
  ·exact absurd (by unfold nI at q;rw[B0] at q;omega) eC
  simp![PN,ml,bt,DB];refine#[by unfold nI;rw[B0];omega,λM hM hM2=>iJ (λq1=>?_) (λq1=>?_)]
  ·obtain⟨k,hk,rfl⟩:=K2.mp hM
   have:=hg.2.1 k hk;omega
  simp![yT,ml,bt,DB,kp,oo];have q2:(nI ks).sum=((aF rs).length:Int):=by rw[XB,hg.2.2]
  rw[if_neg (by rw[decide_eq_true q2];decide)];subst hu;generalize hO:aF rs=O at *;dsimp!;refine#[∅,λpp zU=>?_];have Ac:qp≠pp:=aU kp zU;have pM:ca≠pp:=aU ml zU;have Gm:=g1.none zU;dsimp!;dsimp![av pM,ml,bt];have BU:=hl;refine lE (λr σ G'=>xc λ(l t:List Nat) (as:List Addr) (v5:Option D)=>VL (l++t=ks) (r=(nI t).map .int) (ax G1 G') (G' pp=some (.lst (as.map .ref))) (∀a∈as,G a=none) (∀a∈as,a≠pp) (jE G' as (fU l O)) (as.length=l.length) (σ=[some (.tup [x,y,.tup (bB rs)]),some (.ref ca),some (.ref qp),some (.ref pp),some (.int (l.sum:Int)),v5])) #[[],ks,[],none,rfl,rfl,ax.refl.new zU,aC,(λa h=>nomatch h),(λa h=>nomatch h),rfl,rfl,rfl] ?_ ?_
  ·rintro σ G2 ⟨l,t,as,v5,e,e2,g2,k2,f1,f2,pa,hle,rfl⟩
   have ht:t=[]:=by
    cases t with
    | nil=>rfl
    | cons x t=>cases e2
   subst ht;rw[E4] at e;subst e;refine#[by rw[g2.kp _ _ ml],?_];dsimp!;exact good pp as G2 Gm f1 f2 k2 pa (g1.trans g2)
  ·rintro z r σ G2 ⟨l,t,as,v5,e,e2,g2,k2,f1,f2,pa,hle,rfl⟩ ih
   cases t with
   | nil=>cases e2
   | cons c t =>
    cases e2;refine#[by rw[g2.kp _ _ ml],?_];have SY:l.sum+c<=O.length:=by
     rw[<- hg.2.2,<- e,Y0,N1];omega
    have pN:l.length<ks.length:=by rw[<- e,B4,C1];omega
    have wd:=g2.kp _ _ kp;simp![wd,bt,k2];intro p3 h3;have n3:pp≠p3:=aU k2 h3;simp![av n3,k2];rw[wh9 SY];refine#[C8 (m:=1000) (by rw[B0];omega) ∅,?_];dsimp!;have g3:=g2.new (o:=.lst (bB ((O.drop l.sum).take c))) h3;have keep:∀a∈as,∀o,G2 a=some o->aG (aG G2 p3 (.lst (bB ((O.drop l.sum).take c)))) pp (.lst (as.map D.ref++[.ref p3])) a=some o:=λa ha o ho=>by rw[av (f2 a ha),av (aU ho h3)];exact ho
    refine ih _ _ #[l++[c],t,as++[p3],some (.int (c:Int)),by rw[<- e];simp,rfl,g3.own zU,by rw[aC,B9];rfl,?_,?_,?_,by rw[B4,B4,hle];rfl,by rw[Y0];simp]
    ·intro a ha
     rcases K1.mp ha with ha|ha
     ·exact f1 a ha
     ·rw[J9.mp ha];exact(g1.trans g2).none h3
    ·intro a ha
     rcases K1.mp ha with ha|ha
     ·exact f2 a ha
     ·rw[J9.mp ha];exact D8 n3
    ·rw[Z_]
     exact jE.snoc (by rw[av (D8 n3),aC]) (pa.wd keep)
theorem ww2{n:Nat}(IY:n<*T.mO.1<*tG)(nK:n<*T.iW.1<*nF):n+1<*T.m7.1<*qj:=by
 refine dk T.m7.1 Yc (λ_ _ _ _ _ _ hr =>
   (aE (bj (lT (N':=["stretch", "program"]) (ix:=[none,some 0]) (jh rfl rfl rfl) (jG (ek nK hr #v[!0,!1])) (λ_ _ _ _=>(c8 0 (show(["stretch", "program"]:List Str).Nodup by decide))) (λ_ _ _ _=>ki) (λ_ _ _ _=>(ek IY hr #v[!0,!1])))))) (λds G R h=>?_)
 ·obtain⟨W,bs,rs,ca,ks,rfl,oY,hd,hw,hb,hl,hg,ok,post⟩:=h
  simp!;refine bM #[_,_,rs,ca,ks,rfl,oY,hd,hw,hb,hl,hg,λq as G1 hq f1 f2 k1 pa g1=>?_];simp![k1,bt];intro p3 kR;have n3:q≠p3:=aU k1 kR;have Gm:=g1.none kR;have hlp:(fU ks (aF rs)).length<=1000:=by
   have:=congrArg F9 (KC ks (aF rs) (by rw[hg.2.2];exact B8 _));rw[B0] at this;omega
  generalize lL:fU ks (aF rs)=PP at *;refine kj (λr σ G'=>xc λ(l t:List (List aq)) (sS:List Addr) (v:Option D)=>MF (l++t=PP) (r=sS.map .ref) (∀a∈sS,a∈as) (jE G1 sS t) (ax G1 G') (G' p3=some (.lst ((l.map (pR W bs)).map .int))) (σ=[v,some (.tup [.int (W:Int),.tup (bs.map .str),.tup (bB rs)])])) #[[],PP,as,none,rfl,rfl,λa h=>h,pa,ax.refl.new kR,aC,rfl] ?_ ?_
  ·rintro σ G2 ⟨l,t,sS,v,e,e2,hs,pt,g2,k2,rfl⟩
   have ha:sS=[]:=by
    cases sS with
    | nil=>rfl
    | cons x t=>cases e2
   subst ha;have ht:t=[]:=by
    have:=pt.len;exact D7 this.symm
   subst ht;rw[E4] at e;subst e;refine#[by rw[g2.kp _ _ k1],?_];exact post p3 G2 Gm k2 (g1.trans g2)
  ·rintro z r σ G2 ⟨l,t,sS,v,e,e2,hs,pt,g2,k2,rfl⟩ ih
   cases sS with
   | nil=>cases e2
   | cons a sS =>
    cases e2;cases t with
    | nil=>exact absurd pt.len (by simp)
    | cons p t =>
     obtain⟨pa1,pt1⟩:G1 a=some (.lst (bB p))/\jE G1 sS t:=by
      obtain⟨p',t',e',h1,h2⟩:=pt;cases e';exact#[h1,h2]
     refine#[by rw[g2.kp _ _ k1],?_];simp!;refine bM #[a,W,bs,p,_,rfl,g2.kp _ _ pa1,ok p (by rw[<- e];simp),λG3 g3=>?_];have k3:=g3.kp _ _ k2;simp![k3];have pN:l.length<PP.length:=by rw[<- e,B4,C1];omega
     refine#[C8 (m:=1000) (by rw[B0,B0];omega) ∅,ih _ _ #[l++[p],t,sS,_,by rw[<- e];simp,rfl,λb hb=>hs b (C7 _ hb),pt1,(g2.trans g3).own kR,?_,rfl]];rw[aC,B9,B9];rfl
theorem ww3{n:Nat}(IX:n<*T.mN.1<*tF)(j8:n<*T.iX.1<*nG)(nL:n<*T.jQ.1<*p8)(uj:n<*T.j0.1<*ql):n+1<*T.jY.1<*qk:=by
 refine dk T.jY.1 dr (λ_ _ _ _ _ _ hr =>
   (au (aQ 3 dr.nd aA)
   (au (aQ 4 dr.nd jz)
   (au (lB (Rp rfl T.cC #v[!0]) (Bc (n:=2) rfl (qx (c8 5 dr.nd) (qx (c8 6 dr.nd) Bn))) (au (aT (bO (aV hr) (¬6) aZ (ah _)) (au (aQ 7 dr.nd (Ba (ek nL hr #v[!1,!3]) (y_ (JR (!4)))))
   (aE (aQ 4 dr.nd jz))) (aE (aQ 7 dr.nd (ek IX hr #v[!6,!3,!1,!2]))))
   (au (aT (Bf (rT (!7))) (aE QB) cU)
   (aE (aQ 3 dr.nd (ek uj hr #v[!6,!3]))))))
   (au (aT (rE (w_and (rT (!4)) (Df (bO (aV hr) (!3) aA (ah _))))) (aE (bj aZ)) cU)
   (au (aT (rE (w_and (Bf (rT (!4))) (Df (bO (aV hr) (!3) (ek j8 hr #v[!1]) (ah _))))) (aE (bj aZ)) cU)
   (aE QB))))))) (λds G R h=>?_)
 ·obtain⟨a,st,n',s,rfl,ha,hc,Ac,pM,post⟩:=h
  simp!;dsimp!;dsimp![CU,ha];refine lE (λr σ G'=>Uu λ(i k:Nat) (b:Bool) (t:List (D×Nat)) (v5 v6 v7:Option D)=>Jy (r=uW i (t.map (·.1))) (js n' s k b t) (k<=n') (G'=G) (σ=[some (.ref a),some (.int (n':Int)),some (.int (s:Int)),some (.int (jf k)),some (.bl b),v5,v6,v7])) #[0,0,false,st,none,none,none,rfl,hc,J8 _,rfl,rfl] ?_ ?_
  ·rintro σ G' ⟨i,k,b,t,v5,v6,v7,e2,hc,_,rfl,rfl⟩
   cases t with
   | cons x t=>cases e2
   | nil =>
    obtain⟨rfl,rfl⟩:=hc;refine#[by rw[ha];rfl,?_]
    simp?[jf]
    exact post
  ·rintro z r σ G' ⟨i,k,b,t,v5,v6,v7,e2,hc,hk,rfl,rfl⟩ ih
   cases t with
   | nil=>cases e2
   | cons x t =>
    obtain⟨mv,k'⟩:=x;cases e2;refine#[by rw[ha];rfl,?_]
    rcases hc with⟨rfl,rfl,h1,h2,h3⟩|⟨rfl,rfl,h1,h3⟩|⟨rfl,rfl,rfl,rfl,h3⟩
    ·simp![df]
     rw[if_neg ∅];dsimp!;refine bM ⟨_,k,n',s,rfl,.inl ⟨rfl,h1,h2⟩,(),?_⟩;simp!;dsimp!;refine bM ⟨_,k,k+1,rfl,.inl ⟨rfl,rfl⟩,(),(),?_⟩;simp!;exact ih _ _ ⟨i+1,k+1,b,t,_,_,_,rfl,h3,h2,rfl,rfl⟩
    ·simp![df]
     rw[if_neg ∅];dsimp!;refine bM ⟨_,k'+1,n',s,rfl,.inr ⟨rfl,(),h1⟩,(),?_⟩;simp!;dsimp!;refine bM ⟨_,k'+1,k',rfl,.inr (.inl ⟨rfl,rfl⟩),(),(),?_⟩;simp!;exact ih _ _ ⟨i+1,k',b,t,_,_,_,rfl,h3,(),rfl,rfl⟩
    ·simp!
     refine bM ⟨k',k',rfl,(),(),?_⟩;rw[decide_eq_true (B8 k')];simp!;dsimp!;dsimp!;refine bM ⟨_,k',k',rfl,.inr (.inr ⟨rfl,rfl⟩),(),(),?_⟩;simp!;exact ih _ _ ⟨i+1,k',true,t,_,_,_,rfl,h3,hk,rfl,rfl⟩
theorem wu0{n:Nat}(nL:n<*T.jQ.1<*p8)(uc:n<*T.jU.1<*qa):n+1<*T.mN.1<*tF:=by
 refine dk T.mN.1 oB (λ_ _ _ _ _ _ hr =>
   (au (aQ 4 oB.nd (¬0))
   (au (aT (rE (w_or (bO (jk) (!4) aA (ah _)) (w_or (bO (n_) (!4) (!2) (ah _)) (zc (Bf (rT (ek nL hr #v[(aP iw (!4) aA),!1]))))))) (aE (bj jz)) cU)
   (au (aT (bO (aV hr) (¬0) aZ (ah _)) (aE (bj (Ba (JR (ek nL hr #v[!4,!1])) (y_ (qw (jk) (ek uc hr #v[!1]) (!3) (ah _)))))) cU)
   (aE (bj (ek nL hr #v[!4,!1]))))))) (λds G R h=>?_)
 ·obtain⟨mv,k,n',s,rfl,hm,hn,post⟩:=h
  rcases hm with⟨rfl,h1,h2⟩|⟨rfl,h1,h2⟩
  ·have p1:(((k+1:Nat):Int)<1)=False:=eq_false ()
   have p2:((n':Int)<((k+1:Nat):Int))=False:=eq_false ();have e1:((k+1:Nat):Int)-1=(k:Int):=()
   simp![df];dsimp![p1,p2,e1];refine bM ⟨k,k,rfl,(),(),?_⟩;rw[decide_eq_true (B8 k)]
   simp?
   refine bM ⟨k+1,k,rfl,(),(),?_⟩;rw[decide_eq_false ()];simp!;refine bM ⟨k,rfl,(),?_⟩;simp![eq_true (show(k:Int)<(s:Int) by omega)];exact post
  ·have p1:((k:Int)<1)=False:=eq_false ()
   have p2:((n':Int)<(k:Int))=False:=eq_false ();have e1:(k:Int)-1=((k-1:Nat):Int):=()
   simp![df];dsimp![p1,p2,e1];refine bM ⟨k-1,k,rfl,(),(),?_⟩;rw[decide_eq_true ()]
   simp?
   rw[if_neg ∅]
   simp?
   refine bM ⟨k,k,rfl,(),(),?_⟩;rw[decide_eq_true (B8 k)];exact post
theorem wt1{n:Nat}:n+1<*T.iX.1<*nG:=by
 refine dk T.iX.1 Yl (λ_ _ _ _ _ _ hr =>
   (aE (bj (qX (bO (n_) (!0) aA (ah _)) (aP CZ aA (aP iw (!0) aA)) aA)))) (λds G R h=>?_)
 ·obtain⟨k,rfl,hk,post⟩:=h
  cases k with
  | zero =>
   simp!;exact post
  | succ i =>
   have e1:(((i+1:Nat):Int)-1)=(i:Int):=()
   have c:nO 1 (i:Int):=Xr () ();have p:((0:Int)<((i+1:Nat):Int))=True:=eq_true ();simp![e1,c,p];exact post
theorem ws5{n:Nat}(j8:n<*T.iX.1<*nG):n+1<*T.jQ.1<*p8:=by
 refine dk T.jQ.1 Yn (λ_ _ _ _ _ _ hr =>
   (aE (bj (Ug (qw (aV hr) (!0) aA (ah _)) (y_ (qw (ke hr) (aP J' (!1) (ek j8 hr #v[!0])) aA (ah _))))))) (λds G R h=>?_)
 ·obtain⟨k,l,rfl,hk,hl,post⟩:=h
  cases k with
  | zero =>
   simp!;exact post
  | succ i =>
   have p:(((i+1:Nat):Int)=0)=False:=eq_false ();simp![p];refine bM #[i+1,rfl,(),?_];simp!;rw[(Ki i ()).1 l hl];exact post
theorem wu3{n:Nat}:n+1<*T.jU.1<*qa:=by
 refine dk T.jU.1 iM (λ_ _ _ _ _ _ hr =>
   (au (aQ 1 iM.nd aA)
   (au (QC (bO (n_) (!0) aA (ah _)) (au (JY 1 iM.nd (aP J' (!0) aA) xH)
   (aE (aQ 0 iM.nd (aP Xm (!0) aA)))))
   (aE (bj (!1)))))) (λds G R h=>?_)
 ·obtain⟨l,rfl,hl,post⟩:=h
  simp!;dsimp!;refine Rj (λc σ G'=>∃(y:Nat),VN (G'=G) (c+y=l) (σ=[some (.int (jf c)),some (.int (y:Int))])) (m:=l) #[0,rfl,rfl,rfl] ?_;rintro c σ G' N ⟨y,rfl,e,rfl⟩ ih;cases c with
  | zero =>
   obtain rfl:y=l:=()
   simp?[jf]
   exact post
  | succ c =>
   obtain⟨_,_,_,e1,e2,e3⟩:=Ki c ()
   simp?[e1,e2,eq_true e3]
   exact#[∅,ih _ _ c rfl #[y+1,rfl,(),rfl]]
theorem ww8{n:Nat}(j8:n<*T.iX.1<*nG):n+1<*T.j0.1<*ql:=by
 refine dk T.j0.1 X_ (λ_ _ _ _ _ _ hr =>
   (au (aT (bO (aV hr) (¬0) aZ (ah _)) (aE (bj (aP NB (!1) (ek j8 hr #v[¬0])))) cU)
   (au (aT (bO (aV hr) (¬0) aZ (ah _)) (aE (bj (aP J' (!1) (qW x81 (ek j8 hr #v[¬0]))))) cU)
   (aE (bj (!1)))))) (λds G R h=>?_)
 ·obtain⟨mv,k,k',rfl,hm,hk,rK,post⟩:=h
  rcases hm with⟨rfl,rfl⟩|⟨rfl,rfl⟩|⟨rfl,rfl⟩
  ·simp![df]
   refine bM ⟨k+1,rfl,(),?_⟩;simp![(Ki k hk).2.1];exact post
  ·simp![df]
   rw[if_neg ∅];dsimp!;refine bM ⟨k'+1,rfl,(),?_⟩;simp![yV,(Ki k' rK).2.2.1];exact post
  ·simp!
   rw[if_neg ∅];dsimp!;rw[if_neg ∅];dsimp!;exact post
theorem wt0{n:Nat}(uj:n<*T.j0.1<*ql):n+1<*T.mH.1<*tj:=by
 refine dk T.mH.1 gJ (λ_ _ _ _ _ _ hr =>
   (au (aQ 1 gJ.nd aA)
   (au (aQ 2 gJ.nd (dU #v[!1]))
   (au (lB (jG (!0)) (c8 3 gJ.nd) (au (aQ 1 gJ.nd (ek uj hr #v[!3,!1]))
   (aE (dW (qz (!2) #v[!1])))))
   (aE (bj (!2))))))) (λds G R h=>?_)
 ·obtain⟨a,st,rfl,ha,hc,hn,post⟩:=h
  simp!;dsimp!;refine#[∅,λp hp=>?_];have nap:a≠p:=aU ha hp;have GN:∀{o:DO},aG G p o a=some (.lst (st.map (·.1))):=λ{o}=>by rw[av nap];exact ha
  dsimp![GN];refine lE (λr σ G'=>xc λ(l t:List (D×Nat)) (k:Nat) (v:Option D)=>yO (l++t=st) (r=t.map (·.1)) (AH k t) (k<6) (G'=aG G p (.lst ((0::l.map (·.2)).map λl=>D.int (jf l)))) (σ=[some (.ref a),some (.int (jf k)),some (.ref p),v])) #[[],st,0,none,rfl,rfl,hc,∅,rfl,rfl] ?_ ?_
  ·rintro σ G' ⟨l,t,k,v,e,e2,_,_,rfl,rfl⟩
   have ht:t=[]:=by simpa using e2.symm
   subst ht;rw[E4] at e;subst e;refine#[by rw[GN];rfl,?_];dsimp!;exact post p _ hp aC (ax.refl.new hp)
  ·rintro z r σ G' ⟨l,t,k,v,e,e2,hc,hk,rfl,rfl⟩ ih
   cases t with
   | nil=>cases e2
   | cons x t =>
    obtain⟨mv,k'⟩:=x;cases e2;obtain⟨ok,rK,c3⟩:=hc;refine#[by rw[GN];rfl,?_];simp!;refine bM #[mv,k,k',rfl,ok,hk,rK,?_];simp!;dsimp!;have hl:=congrArg F9 e;rw[B4,C1] at hl;refine#[?_,ih _ _ #[l++[(mv,k')],t,k',some mv,by rw[<- e,E2];rfl,rfl,c3,rK,?_,rfl]]
    ·rw[B0,B0];exact C8 (m:=3001) () ∅
    ·rw[h9];simp
theorem wt9{n:Nat}(uc:n<*T.jU.1<*qa)(IQ:n<*T.mH.1<*tj):n+1<*T.mM.1<*tE:=by
 refine dk T.mM.1 Yh (λ_ _ _ _ _ _ hr =>
   (aE (bj (cN YH rfl T.nA ∅ #v[(lT (N':=["marks"]) (ix:=[none]) (jh rfl rfl rfl) (jG (ek IQ hr #v[!0])) (λ_ _ _ _=>(c8 0 (show(["marks"]:List Str).Nodup by decide))) (λ_ _ _ _=>ki) (λ_ _ _ _=>(ek uc hr #v[!0])))])))) (λds G R h=>?_)
 ·obtain⟨a,st,n',rfl,ha,hc,hn,hm,hx,post⟩:=h
  simp!;refine bM #[a,st,rfl,ha,hc,hn,λq G1 f1 h1 g1=>?_];obtain⟨XS,hXS⟩:∃XS,XS=0::st.map (·.2):=#[_,rfl];have hXl:XS.length<=3001:=by rw[hXS,C1,B0];omega
  rw[<- hXS] at h1 hm hx;simp![h1];intro p hp;refine kj (λr σ G'=>lN λ(x1 x2:List Nat) (v:Option D)=>pz (x1++x2=XS) (r=(x2.map λl=>D.int (jf l))) (G'=aG G1 p (.lst ((x1.map λ(l:Nat)=>(l:Int)).map .int))) (σ=[v])) #[[],XS,none,rfl,rfl,rfl,rfl] ?_ ?_
  ·rintro σ G' ⟨x1,x2,v,e,e2,rfl,rfl⟩
   have ht:x2=[]:=by simpa using e2.symm
   subst ht;rw[E4] at e;subst e;refine#[by rw[av (aU h1 hp),h1];rfl,?_];refine v54 (ns:=x1.map λ(l:Nat)=>(l:Int)) (by rw[aC];rfl) (by rw[B0];exact B23 hm) λM hM hz=>?_
   obtain⟨l,hl,rfl⟩:=K2.mp hM;have h2:=hz _ (List.mem_map_of_mem hm);have h3:=(hx l hl).1;obtain rfl:l=n':=()
   exact post _ (g1.new hp)
  ·rintro z r σ G' ⟨x1,x2,v,e,e2,rfl,rfl⟩ ih
   cases x2 with
   | nil=>cases e2
   | cons x x2 =>
    cases e2;refine#[by rw[av (aU h1 hp),h1];rfl,?_];have hlen:=congrArg F9 e;rw[B4,C1] at hlen;simp!;refine bM #[x,rfl,(hx x (by rw[<- e];simp)).2,?_];simp![aC];refine#[by rw[B0,B0];exact C8 (m:=4000) () ∅,ih _ _ #[x1++[x],x2,_,by rw[<- e,E2];rfl,rfl,?_,rfl]];rw[h9,B9,B9];rfl
theorem wu4{n:Nat}(uf:n<*T.jW.1<*qg)(nK:n<*T.iW.1<*nF)(uh:n<*T.jY.1<*qk)(ua:n<*T.jR.1<*p9)(ub:n<*T.jT.1<*p_)(Ja:n<*T.mR.1<*tI):n+1<*T.mQ.1<*qb:=by
 refine dk T.mQ.1 gL (λ_ _ _ _ _ _ hr =>
   (au (aQ 4 gL.nd (ek nK hr #v[!0,!1]))
   (au (aQ 5 gL.nd (ek uh hr #v[!3,(cN eL rfl T.aX ∅ #v[!4]),!2]))
   (au (aQ 6 gL.nd (ek ua hr #v[!3,(cN eL rfl T.aX ∅ #v[¬0])]))
   (au (aQ 7 gL.nd (ek ub hr #v[!0,!4,!3,!6]))
   (au (aT (bO (aV hr) (!5) aZ (ah _)) (aE (dW (qz (!7) #v[(ek Ja hr #v[(vA hr (bR bQ (!6) (qW CY aA)) (cN eL rfl T.aX ∅ #v[!4])),(cN eL rfl T.aX ∅ #v[¬0])])]))) cU)
   (aE (bj (ek uf hr #v[!7]))))))))) (λds G R h=>?_)
 ·obtain⟨W,bs,rs,ca,pl,ks,st,s,rfl,oY,bZ,ok,post⟩:=h
  have hb:=ok.pk.hb;have B':=ok.pk.B';obtain⟨ya,BV⟩:=ok.len;simp!;refine bM #[_,_,rs,ca,ks,rfl,oY,ok.dp,ok.wt,ok.bd,by have:=ok.kl;omega,ok.gd,λq1 as G1 n1 f1 f2 k1 pa g1=>?_];generalize lL:fU ks (aF rs)=PP at *;simp!;dsimp![k1,bt,B0,pa.len];refine bM #[pl,st,PP.length,s,rfl,g1.kp _ _ bZ,lL▸ok.oc,ya,BV,?_];simp!;dsimp![B0];refine bM #[pl,bs.length,st,rfl,g1.kp _ _ bZ,hb,(),by have:=ok.sl;omega,((lL▸ok.oc).ch ()).1,λq2 ss G2 n2 f3 f4 k2 qE g2=>?_];simp!;dsimp!;refine bM #[W,bs,_,PP,q1,pl,q2,as,ss,st,s,rfl,g2.kp _ _ k1,pa.kp g2.kp,(g1.trans g2).kp _ _ bZ,k2,qE,lL▸ok.oc,lL▸ok.mm,ya,BV,ok.sl,lL▸ok.pk,λq3 cs G3 n3 k3 Cf cd g3=>?_];simp!;dsimp!;rw[if_neg ∅];dsimp!;have gg:=(g1.trans g2).trans g3;have cl:=cd.len;refine bM #[q3,cs,rfl,k3,λc hc=>#[Cf c hc,(lr.good (lL▸ok.pk) ya BV (lL▸ok.oc) (J8 _) cd c hc).2.2.1],?_,by rw[cl];have:=ok.sl;omega,λq4 G4 n4 k4 g4=>?_]
  ·rw[cl];exact VW λz=>by have:=ok.mm;rw[D7 z] at this;cases this
  exact post q4 cs G4 ((gg.none n4)) k4 cd (gg.trans g4)
theorem ws4{n:Nat}(nK:n<*T.iW.1<*nF)(uh:n<*T.jY.1<*qk)(ua:n<*T.jR.1<*p9)(ub:n<*T.jT.1<*p_):n+1<*T.mD.1<*sY:=by
 refine dk T.mD.1 dM (λ_ _ _ _ _ _ hr =>
   (au (aQ 4 dM.nd (ek nK hr #v[!0,!1]))
   (au (dW (ek uh hr #v[!3,(cN eL rfl T.aX ∅ #v[!4]),!2]))
   (au (aQ 5 dM.nd (ek ua hr #v[!3,(cN eL rfl T.aX ∅ #v[¬0])]))
   (au (aQ 6 dM.nd aA)
   (au (aQ 7 dM.nd (dU #v[(bD #v[!6,¬5])]))
   (au (lB (x06 rfl T.pT #v[(ek ub hr #v[!0,!4,!3,!5]),(wV yR (!5) (Bq aA) Qh)]) (Bc (n:=2) rfl (qx (c8 8 dM.nd) (qx (c8 9 dM.nd) Bn))) (au (JY 6 dM.nd (cN eL rfl T.aX ∅ #v[¬8]) xH)
   (aE (dW (qz (!7) #v[(bD #v[!6,!9])])))))
   (aE (bj (!7)))))))))) (λds G R h=>?_)
 ·obtain⟨W,bs,rs,ca,pl,ks,st,s,rfl,oY,bZ,ok,post⟩:=h
  have hb:=ok.pk.hb;have B':=ok.pk.B';obtain⟨ya,BV⟩:=ok.len;simp!;refine bM #[_,_,rs,ca,ks,rfl,oY,ok.dp,ok.wt,ok.bd,by have:=ok.kl;omega,ok.gd,λq1 as G1 n1 f1 f2 k1 pa g1=>?_];generalize lL:fU ks (aF rs)=PP at *;simp!;dsimp![k1,bt,B0,pa.len];refine bM #[pl,st,PP.length,s,rfl,g1.kp _ _ bZ,lL▸ok.oc,ya,BV,?_];simp!;dsimp![B0];refine bM #[pl,bs.length,st,rfl,g1.kp _ _ bZ,hb,(),by have:=ok.sl;omega,((lL▸ok.oc).ch ()).1,λq2 ss G2 n2 f3 f4 k2 qE g2=>?_];obtain⟨a0,pD,rfl⟩:∃a0 pD,ss=a0::pD:=by
   cases ss with
   | nil=>cases qE
   | cons a t=>exact#[a,t,rfl]
  have sl:=qE.len;rw[C1,C1,B0] at sl;simp!;dsimp!;dsimp![k2,bt,C0,NH];refine#[∅,∅,λpt sk=>?_];have gt:=g2.new (o:=.lst [.tup [.int 0,.ref a0]]) sk;dsimp!;refine bM #[W,bs,_,PP,q1,pl,q2,as,a0::pD,st,s,rfl,gt.kp _ _ k1,pa.kp gt.kp,(g1.trans gt).kp _ _ bZ,by rw[av (aU k2 sk)];exact k2,qE.kp (λa ha o ho=>by rw[av (aU ho sk)];exact ho),lL▸ok.oc,lL▸ok.mm,ya,BV,ok.sl,lL▸ok.pk,λq3 cs G3 n3 k3 Cf cd g3=>?_];have SG:=g3.kp _ _ (show aG G2 pt (.lst [.tup [.int 0,.ref a0]]) q2=_ by rw[av (aU k2 sk)];exact k2);have Sv:=g3.kp _ _ (show aG G2 pt (.lst [.tup [.int 0,.ref a0]]) pt=_ from aC);have nqt:q3≠pt:=λz=>by rw[z,aC] at n3;cases n3
  simp![SG,bt];intro p4 xZ;have Sk:q3≠p4:=aU k3 xZ;have Sf:pt≠p4:=aU Sv xZ;have g4:=g3.new (o:=.lst (pD.map D.ref)) xZ;have ec:cutD (D.ref a0::pD.map D.ref) (some 1) none=pD.map D.ref:=vg9;rw[ec];simp![jo,av Sk,k3,aC,bt];have cl:=cd.len;refine lE (λr σ G'=>Uv λ(l t:List bY) (u v:List Addr) (v8 v9:Option D)=>yO (l++t=cs) (u++v=pD) (u.length=l.length) (r=vg (t.map bY.d) (v.map .ref)) (G'=aG (aG G3 p4 (.lst (pD.map D.ref))) pt (.lst (((dn 0 l).zip (a0::u)).map λx=>D.tup [.int (x.1:Int),.ref x.2]))) (σ=[some (.tup [.int (W:Int),.tup (bs.map .str),.tup (bB rs)]),some (.ref ca),some (.int (s:Int)),some (.ref pl),some (.ref q1),some (.ref q2),some (.int (((l.map λc=>c.rs.length).sum:Nat):Int)),some (.ref pt),v8,v9])) #[[],cs,[],pD,none,none,rfl,rfl,rfl,rfl,(vq2 (by rw[av Sf];exact Sv)).symm,rfl] ?_ ?_
  ·rintro σ G5 ⟨l,t,u,v,v8,v9,e,e1,eu,e2,rfl,rfl⟩
   have ht:t=[]:=by
    cases t with
    | nil=>rfl
    | cons c t =>
     have h1:=congrArg F9 e;have h2:=congrArg F9 e1;rw[B4,C1] at h1;rw[B4] at h2;cases v with
     | nil=>rw[O8] at h2;omega
     | cons a v=>cases e2
   subst ht;rw[E4] at e;subst e;have hv:v=[]:=by
    have h2:=congrArg F9 e1;rw[B4] at h2;exact D7 ()
   subst hv;rw[E4] at e1;subst e1;refine#[#[by rw[av nqt,av Sk,k3],by rw[av (D8 Sf),aC]],?_];dsimp!;exact post pt l (a0::u) _ ((g1.trans g2).none sk) (congrArg (·+1) eu) aC (lL▸cd) (((g1.trans gt).trans g4).own ((g1.trans g2).none sk))
  ·rintro z r σ G5 ⟨l,t,u,v,v8,v9,e,e1,eu,e2,rfl,rfl⟩ ih
   cases t with
   | nil=>cases e2
   | cons c t =>
    cases v with
    | nil=>cases e2
    | cons a v =>
     cases e2;refine#[#[by rw[av nqt,av Sk,k3],by rw[av (D8 Sf),aC]],?_];have BX:c∈cs:=by rw[<- e];simp
     have wN:=Cf c BX;have nct:c.ra≠pt:=λz=>by
      rw[z,Sv] at wN;cases hr:c.rs with
      | nil=>rw[hr] at wN;cases wN
      | cons r t=>rw[hr] at wN;cases r <;> cases wN
     have hc5:aG (aG G3 p4 (.lst (pD.map D.ref))) pt (.lst (((dn 0 l).zip (a0::u)).map λx=>D.tup [.int (x.1:Int),.ref x.2])) c.ra=some (.lst (c.rs.map Row.d)):=by rw[av nct,av (aU wN xZ)];exact wN
     have pN:l.length<cs.length:=by rw[<- e,B4,C1];omega
     simp![bY.d,hc5,bt,B0];dsimp![aC];have hs9:=ok.sl;refine#[∅,C8 (m:=1000) (by rw[B0,JK,KU];omega) ∅,?_];have es:(((l.map λc=>c.rs.length).sum:Nat):Int)+(c.rs.length:Int)=((((l++[c]).map λc=>c.rs.length).sum:Nat):Int):=by simp
     rw[es];refine ih _ _ #[l++[c],t,u++[a],v,_,_,by rw[<- e];simp,by rw[<- e1];simp,by rw[B4,B4,eu];rfl,rfl,?_,rfl];rw[h9,uq2,L0];generalize ((l++[c]).map λc=>c.rs.length).sum=N;rw[<- J7,C16 (by rw[KU,C1,eu]),B9];rfl
theorem ws8{n:Nat}(IL:n<*T.mF.1<*sZ):n+1<*T.jR.1<*p9:=by
 refine dk T.jR.1 gI (λ_ _ _ _ _ _ hr =>
   (au (aQ 2 gI.nd wg0)
   (au (aQ 3 gI.nd (dU #v[!2]))
   (au (lB (jG (!0)) (c8 4 gI.nd) (au (aQ 2 gI.nd (ek IL hr #v[!4,!2,!1]))
   (aE (dW (qz (!3) #v[!2])))))
   (aE (bj (!3))))))) (λds G R h=>?_)
 ·obtain⟨pa,m,st,rfl,BR,hm,eD,hs,hc,post⟩:=h
  simp![WL];intro p0 BS;have g0:=ax.refl (G:=G) |>.new (o:=.bN []) BS
  dsimp!;refine⟨∅,λpt sk=>?_⟩;have n0:p0≠pt:=aU aC sk;have gt:=g0.new (o:=.lst [.ref p0]) sk;have Gh:=g0.none sk;have npa:pa≠pt:=aU (g0.kp _ _ BR) sk;have zV:=gt.kp _ _ BR;dsimp![zV,bt];refine lE (λr σ G'=>Uv λ(l t:List (D×Nat)) (as:List Addr) (k:Nat) (p:Addr) (v:Option D)=>JB (l++t=st) (r=t.map (·.1)) (AH k t) (k<6) (ax G G') (G' pt=some (.lst (as.map .ref))) (∀a∈as,G a=none) (∀a∈as,a≠pt) (j6 G' m as (0::l.map (·.2))) (G' p=some (.bN (c9 m k))) (p≠pt) (σ=[some (.ref pa),some (.int (m:Int)),some (.ref p),some (.ref pt),v])) ⟨[],st,[p0],0,p0,none,rfl,rfl,hc,(),gt,aC,?_,?_,?_,by rw[av n0,aC];rfl,n0,rfl⟩ ?_ ?_
  ·intro a ha;rw[J9.mp ha];exact BS
  ·intro a ha;rw[J9.mp ha];exact n0
  ·exact#[0,[],rfl,by rw[av n0,aC];rfl,rfl]
  ·rintro σ G2 ⟨l,t,as,k,p,v,e,e2,c2,hk,g2,k2,f1,f2,sl,kp,np,rfl⟩
   have ht:t=[]:=by
    cases t with
    | nil=>rfl
    | cons x t=>cases e2
   subst ht;rw[E4] at e;subst e;refine#[by rw[g2.kp _ _ BR],?_];dsimp!;exact post pt as G2 Gh f1 f2 k2 sl g2
  ·rintro z r σ G2 ⟨l,t,as,k,p,v,e,e2,c2,hk,g2,k2,f1,f2,sl,kp,np,rfl⟩ ih
   cases t with
   | nil=>cases e2
   | cons x t =>
    obtain⟨mv,k'⟩:=x;cases e2;obtain⟨ok,rK,c3⟩:=c2;refine#[by rw[g2.kp _ _ BR],?_];simp!;refine bM #[p,m,k,k',mv,rfl,hm,(),eD,kp,ok,λq G3 hq k3 g3=>?_];have SG:=g3.kp _ _ k2;have pN:as.length<=600:=by
     have h1:=sl.len;have h2:=congrArg F9 e;rw[B4,C1] at h2;rw[C1,B0] at h1;omega
    simp!;dsimp![SG];have nq:q≠pt:=D8 (aU k2 hq);refine#[C8 (m:=1000) (by rw[B0];omega) ∅,?_];refine ih _ _ #[l++[(mv,k')],t,as++[q],k',q,some mv,by rw[<- e];simp,rfl,c3,rK,(g2.trans g3).own Gh,by rw[aC,B9];rfl,?_,?_,?_,by rw[av nq];exact k3,nq,rfl]
    ·intro a ha
     rcases K1.mp ha with ha|ha
     ·exact f1 a ha
     ·rw[J9.mp ha];exact g2.none hq
    ·intro a ha
     rcases K1.mp ha with ha|ha
     ·exact f2 a ha
     ·rw[J9.mp ha];exact nq
    ·rw[B9]
     refine j6.snoc (by rw[av nq];exact k3) (sl.kp λa ha o ho=>?_);rw[av (f2 a ha)];exact g3.kp _ _ ho
theorem ws7{n:Nat}(Jh:n<*T.mZ.1<*tO):n+1<*T.mF.1<*sZ:=by
 refine dk T.mF.1 oy (λ_ _ _ _ _ _ hr =>
   (au (aQ 3 oy.nd (lD QY rfl T.fQ ∅ #v[!1]))
   (au (aT (bO (aV hr) (¬0) aZ (ah _)) (aE (KD hr (!3) (¬0) (ek Jh hr #v[!1,!2]))) (aE (aT (bO (aV hr) (¬0) aZ (ah _)) (aE (dW (x16 (!3) (¬0)))) cU)))
   (aE (bj (lD (vz6 hr) rfl T.fQ ∅ #v[(lT (N':=["mark", "held"]) (ix:=[none,some 3]) (jh rfl rfl rfl) (jG (cN (v55 hr) rfl T.i7 ∅ #v[!3])) (λ_ _ _ _=>(c8 0 (show(["mark", "held"]:List Str).Nodup by decide))) (λ_ _ _ _=>ki) (λ_ _ _ _=>(bD #v[!0,(vA hr (!1) (!0))])))])))))) (λds G R h=>?_)
 ·obtain⟨a,m,k,k',mv,rfl,hm,hk,eD,ha,hmv,post⟩:=h
  simp!;refine#[a,_,rfl,ha,λp hp=>?_];have g1:=ax.refl (G:=G) |>.new (o:=.bN (c9 m k)) hp
  have np:a≠p:=aU ha hp;have rK:k'<64:=by rcases hmv with⟨_,h⟩|⟨_,h⟩|⟨_,h⟩ <;> omega
  generalize hu:nj _=u;have rest:∀G1:Gp,ax G G1->G1 p=some (.bN (c9 m k'))->Go (u { nx:=λx G'=>R D.non G',rt:=R}) [some mv,some (.ref a),some (.int (m:Int)),some (.ref p)] G1:=by
   intro G1 g1 k1;subst hu;dsimp!;refine#[p,(D1 k').map λj=>((j+1:Nat):Int),_,rfl,vk6 m k',k1,by rw[B0,D9];omega,λp2 ns mf pm sr=>?_];obtain rfl:ns=(D1 k').map λj=>((j+1:Nat):Int):=by
    refine pm.eq_of_pairwise (le:=(·<=·)) (λa b _ _ h1 h2=>Int.le_antisymm h1 h2) sr ?_;rw[B88];exact List.pairwise_lt_range.imp λh=>()
   have n2:p≠p2:=aU k1 mf;simp![aC,bt];intro p3 kR;have n3:p2≠p3:=aU aC kR;have n4:p≠p3:=aU (show aG G1 p2 _ p=some (.bN (c9 m k')) by rw[av n2];exact k1) kR;have uA4:G1 p3=none:=by rw[av (D8 n3)] at kR;exact kR
   refine kj (λr σ G'=>lN λ(i:Nat) (l:List Nat) (v:Option D)=>Jy (D1 i++l=D1 k') (i<=k') (r=(l.map λj=>((j+1:Nat):Int)).map .int) (G'=aG (aG G1 p2 (.lst (((D1 k').map λj=>((j+1:Nat):Int)).map .int))) p3 (.lst ((c9 m i).map Li))) (σ=[v,some (.ref p)])) #[0,D1 k',none,rfl,J8 _,rfl,rfl,rfl] ?_ ?_
   ·rintro σ G2 ⟨i,l,v,e,hi,e2,rfl,rfl⟩
    have hl:l=[]:=by
     cases l with
     | nil=>rfl
     | cons x l=>cases e2
    subst hl;obtain rfl:i=k':=by
     have:=congrArg F9 e;rw[E4,D9,D9] at this;exact this
    refine#[by rw[av n3,aC],?_];have g3:=(g1.new (o:=.lst (((D1 i).map λj=>((j+1:Nat):Int)).map .int)) mf).new (o:=.lst ((c9 m i).map Li)) kR;refine#[p3,c9 m i,rfl,by rw[aC];rfl,by unfold c9;rw[B0,D9];omega,λq hq=>?_];rw[uk0];exact post q _ (g3.none hq) aC (g3.new hq)
   ·rintro z r σ G2 ⟨i,l,v,e,hi,e2,rfl,rfl⟩ ih
    cases l with
    | nil=>cases e2
    | cons j l =>
     cases e2;have dQ:i<k':=by
      have:=congrArg F9 e;rw[B4,D9,D9,C1] at this;omega
     obtain rfl:j=i:=by
      have:=congrArg (λl=>l[i]?) e;rw[E8 (by rw[D9];exact B8 _),D9,U4,Z5 dQ] at this;exact E7 this
     refine#[by rw[av n3,aC],?_];simp![vq];refine#[p,c9 m k',L7 ((j+1:Nat):Int),_,rfl,rfl,by rw[av n4,av n2];exact k1,Dv dQ,?_];simp![aC];refine#[∅,?_,ih _ _ #[j+1,l,_,by rw[R0,E2];exact e,dQ,rfl,?_,rfl]]
     ·rw[B0];unfold c9;rw[B0,D9];exact C8 (m:=1000) () ∅
     ·rw[h9,Dt,B9];rfl
  rcases hmv with⟨rfl,rfl⟩|⟨rfl,rfl⟩|⟨rfl,rfl⟩
  ·dsimp![df,eJ,C6,decide_false,decide_true]
   simp![CP];refine bM ⟨a,m,k,rfl,hm,(),eD,by rw[av np];exact ha,λG2 g2=>?_⟩;simp!;refine⟨p,_,L7 ((k+1:Nat):Int),rfl,rfl,g2.kp _ _ aC,?_,?_⟩
   ·unfold c9;rw[B0,D9];exact C8 (m:=1000) () ∅
   ·refine rest _ ((g1.trans g2).own hp) ?_
    rw[aC,Dt];unfold lA;rw[KG (B8 k),if_neg ∅]
  ·dsimp![df,eJ,C6,decide_false,decide_true]
   simp![NO];refine⟨⟨p,_,rfl,aC⟩,p,_,L7 ((k'+1:Nat):Int),_,rfl,rfl,aC,Dv (W7 k'),?_⟩;refine rest _ (g1.own hp) ?_;rw[aC,vf6]
  ·dsimp![eJ,C6,decide_false,decide_true]
   exact rest _ g1 aC
theorem ww0{n:Nat}:n+1<*T.mZ.1<*tO:=by
 refine dk T.mZ.1 iQ (λ_ _ _ _ _ _ hr =>
   (au (aQ 2 iQ.nd (v41 hr (!0) rfl T.dR))
   (au (aQ 3 iQ.nd (aP nR aA (!1)))
   (au (QC (bO (yS hr) (!3) (!2) (by with_unfolding_all rfl)) (aE (JY 3 iQ.nd (!1) xH)))
   (aE (bj (!3))))))) (λds G R h=>?_)
 ·obtain⟨a,m,k,rfl,hm,hk,eD,ha,post⟩:=h
  simp![NR];refine#[a,c9 m k,rfl,.inl ha,λp hp=>?_];have g1:=ax.refl (G:=G) |>.new (o:=.lst ((c9 m k).map (·.2))) hp
  simp!;dsimp!;refine⟨.inl ∅,?_⟩;rw[show(2:Int)*(m:Int)=(((0+2)*m:Nat):Int) by omega];dsimp!;refine Rj (λc σ G'=>∃(i:Nat),VN (i+c=k) (G'=aG G p (.lst ((c9 m k).map (·.2)))) (σ=[some (.ref a),some (.int (m:Int)),some (.ref p),some (.int (((i+2)*m:Nat):Int))])) (m:=k) ⟨0,(),rfl,rfl⟩ ?_;rintro c σ G' N ⟨i,hi,rfl,rfl⟩ ih;have hI:∀q:DK,jl false (D.int (((i+2)*m:Nat):Int)) (D.ref p) (aG G p (.lst ((c9 m k).map (·.2)))) q=q (.bl (decide (i<k))) (aG G p (.lst ((c9 m k).map (·.2)))):=λq=>by
   have GA:((((i+2)*m:Nat):Int)∈(D1 k).map λj=>(((j+2)*m:Nat):Int))=(i<k):=by
    refine propext #[λh=>?_,λh=>K2.mpr #[i,K0.mpr h,rfl]];obtain⟨j,hj,e⟩:=K2.mp h;have e:(j+2)*m=(i+2)*m:=by exact_mod_cast e
    have:=Nat.eq_of_mul_eq_mul_right () e;have:=K0.mp hj;omega
   unfold jl;simp only[aC,bt,w19,uk6,GA];rfl
  simp![hI]
  by_cases h:i<k
  ·rw[if_pos (decide_eq_true h)]
   cases c with
   | zero=>omega
   | succ c =>
    simp!;refine ih _ _ c rfl #[i+1,(),rfl,?_];rw[show((i+1+2)*m:Nat)=(i+2)*m+m by rw[show i+1+2=(i+2)+1 by omega,Cy]];rfl
  ·rw[if_neg (by rw[decide_eq_false h];decide)]
   obtain rfl:i=k:=()
   simp?
   exact post _ g1
theorem wt7{n:Nat}(IW:n<*T.mM.1<*tE)(IV:n<*T.mL.1<*tD):n+1<*T.jT.1<*p_:=by
 refine dk T.jT.1 dq (λ_ _ _ _ _ _ hr =>
   (au (aQ 4 dq.nd (aP nR (aP cG aA (ek IW hr #v[!2])) (cN eL rfl T.aX ∅ #v[¬0])))
   (au (aQ 5 dq.nd wf9)
   (au (aQ 6 dq.nd (dU lu))
   (au (lB (Rp rfl T.cC #v[!2]) (Bc (n:=2) rfl (qx (c8 7 dq.nd) (qx (c8 8 dq.nd) Bn))) (au (aQ 9 dq.nd (qX (bO (aV hr) (¬8) aZ (ah _)) (bR bQ (!3) (aP cG (!7) aA)) (bR bQ (!3) (!7))))
   (au (aQ 10 dq.nd (qX (bO (aV hr) (¬8) aZ (ah _)) (cN eL rfl T.aX ∅ #v[!1]) (¬8)))
   (au (aQ 11 dq.nd (bD #v[!8,(x20 hr (!9) (aP iw (!10) aA) aA),(vA hr (!9) (!10))]))
   (au (aT (bO (vj6 hr) (!11) (!5) (by with_unfolding_all rfl)) (aE (w90 hr (!5) (!11) (ek IV hr #v[!8,(bR bQ (!1) (aP iw (!10) aA)),!0,¬11,¬11,!4]))) cU)
   (aE (dW (qz (!6) #v[(wg1 hr (!5) (!11))]))))))))
   (aE (bj (!6)))))))) (λds G R h=>?_)
 ·obtain⟨W,bs,x,PP,pp,pl,sl,as,ss,st,s,rfl,zU,pat,bZ,Gb,hss,x5,hmm,Ac,hn4,hs9,ok,post⟩:=h
  obtain⟨jg,hle⟩:=x5.ch ();have hb:=ok.B';simp!;refine bM #[pl,st,PP.length,rfl,bZ,jg,(),C7 _ hmm,?_,λG1 g1=>?_]
  ·intro l hl
   rcases E6.mp hl with rfl|hl
   ·exact⟨J8 _,∅⟩
   ·have:=hle l hl
    exact⟨this,()⟩
  simp![B0];refine⟨zd () (),?_⟩;dsimp![WM];intro pk hpk;dsimp!;refine#[∅,λpc gE=>?_];have rL:(2+PP.length)*bs.length<=36:=MO (show 2+PP.length<=6 by omega) hb;have efr:((2:Int)+(PP.length:Int))*(bs.length:Int)=(((2+PP.length)*bs.length:Nat):Int):=by simp
  rw[efr];have hbf:∀k,k<=PP.length->ku bs.length k+bs.length<=(2+PP.length)*bs.length/\(k+1)*bs.length<=1000:=by
   intro k hk;refine#[?_,D6 (MO (show k+1<=6 by omega) hb) ∅];unfold ku;split
   ·exact D6 () (N4 _ (show 1<=2+PP.length by omega))
   ·rw[<- Cy];exact N4 _ ()
  generalize hFR:(2+PP.length)*bs.length=fr at *;have gk:=g1.new (o:=.pQ []) hpk;have gc:=gk.new (o:=.lst []) gE;have Sh:pk≠pc:=aU aC gE;have Td:=gc.kp _ _ bZ;have Gk:=gk.none gE;have Te:=g1.none hpk;dsimp![CU,Td];refine lE (λr σ G'=>Hm λ(l t:List (D×Nat)) (lv:Nat) (b:Bool) (s1 s2:List Addr) (cs:List bY) (kvs:List (fA×D)) (v7 v8 v9 v10 v11:Option D)=>Jz (l++t=st) (r=uW l.length (t.map (·.1))) (js PP.length s lv b t) (lv<=PP.length) (ss=s1++s2) (s1.length=l.length) (j6 G bs.length s2 (lv::t.map (·.2))) (ax G G') (G' pk=some (.pQ kvs)) (kvs.length<=l.length) (∀q d,jd kvs q=some d->∃c:bY,d=c.d/\G' c.ra=some (.lst (c.rs.map Row.d))/\c.ra≠pc/\L_ W bs PP fr PP.length q c) (cs.length=l.length) (G' pc=some (.lst (cs.map bY.d))) (∀c∈cs,G' c.ra=some (.lst (c.rs.map Row.d))/\c.ra≠pc) (∀Y,lr W bs PP bs.length fr lv t Y->lr W bs PP bs.length fr 0 st (cs++Y)) (σ=[some (.tup [.int (W:Int),.tup (bs.map .str),x]),some (.ref pp),some (.ref pl),some (.ref sl),some (.int (fr:Int)),some (.ref pk),some (.ref pc),v7,v8,v9,v10,v11])) #[[],st,0,false,[],ss,[],[],none,none,none,none,none,rfl,rfl,x5,J8 _,rfl,rfl,hss,gc,by rw[av Sh,aC],B8 _,(λ_ _ h=>nomatch h),rfl,aC,(λ_ h=>nomatch h),(λ_ h=>h),rfl] ?_ ?_
  ·rintro σ G2 ⟨l,t,lv,b,s1,s2,cs,kvs,v7,v8,v9,v10,v11,e,e2,x5,uO,es,fW,qE,g2,k2,kl,kn,cl,kc,ca,cd,rfl⟩
   have ht:t=[]:=by
    cases t with
    | nil=>rfl
    | cons x t=>cases e2
   subst ht;refine#[by rw[g2.kp _ _ bZ];rfl,?_];dsimp!;have cd:=cd [] rfl;rw[E4] at cd;exact post pc cs G2 Gk kc (λc hc=>(ca c hc).1) cd g2
  ·rintro z r σ G2 ⟨l,t,lv,b,s1,s2,cs,kvs,v7,v8,v9,v10,v11,e,e2,x5,uO,es,fW,qE,g2,k2,kl,kn,cl,kc,ca,cd,rfl⟩ ih
   cases t with
   | nil=>cases e2
   | cons y t =>
    obtain⟨mv,l'⟩:=y;cases e2;refine#[by rw[g2.kp _ _ bZ];rfl,?_];obtain⟨a,a',s3,rfl,ka,ka',sl3⟩:=qE.two;have pN:l.length<st.length:=by rw[<- e,B4,C1];omega
    have zS:=g2.kp _ _ Gb;have i0:da (ss.map D.ref) (l.length:Int)=some (.ref a):=uB (by rw[es,B9,E8 (by rw[B0,fW];exact B8 _),B0,fW,U4];rfl);have i1:da (ss.map D.ref) ((l.length:Int)+1)=some (.ref a'):=uB (j:=l.length+1) (by rw[es,B9,E8 (by rw[B0,fW];omega),B0,fW,Wo];rfl);have Gj:=g2.kp _ _ zU;simp!;generalize hN:forL _ (wm _ _) _ _ _=N at ih⊢;generalize hB:Go (nj (ni 6) _)=B;generalize hu:ij (i5 (sJ _) (rS 11)) _=u;have rest:∀(k lw:Nat) (aw:Addr) (b':Bool),tX PP.length mv k->1<=k->k<=lw->k<=PP.length->k=max lv l'->G2 aw=some (.bN (c9 bs.length lw))->js PP.length s l' b' t->l'<=PP.length->Go (u { nx:=N,rt:=R,bk:=B,ct:=N}) [some (.tup [.int (W:Int),.tup (bs.map .str),x]),some (.ref pp),some (.ref pl),some (.ref sl),some (.int (fr:Int)),some (.ref pk),some (.ref pc),some (.int (l.length:Int)),some mv,some (.ref aw),some (.int (k:Int)),v11] G2:=by
     intro k lw aw b' hk h1 h2 h3 Tp TN ho kT;subst hu;dsimp![PV];refine#[#[aw,_,rfl,TN],?_];simp!;refine#[aw,_,L7 ((k:Int)-1),rfl,rfl,TN,?_];rw[wf1 h1 ()];simp![vq];have hv:di (c9 bs.length lw) (L7 (k:Int))=some (.int (((k+1)*bs.length:Nat):Int)):=by
      obtain⟨j,rfl⟩:∃j,k=j+1:=#[k-1,()];exact Dv h2
     refine#[aw,_,L7 (k:Int),_,rfl,rfl,TN,hv,∅,?_];obtain⟨mk,rfl⟩:=hk.key;obtain⟨hf1,hf2⟩:=hbf k h3;generalize hS:ku bs.length k=src at *;generalize hT:(k+1)*bs.length=aN at *;have hq:zE (mk,[L7 (src:Int),L7 (aN:Int)])=.tup [.tup (mk.map kD),.int (src:Int),.int (aN:Int)]:=rfl;generalize uM:AZ _=u2;have xV:∀(G3:Gp) (oS:List (fA×D)) (c:bY),ax G G3->G3 pk=some (.pQ oS)->oS.length<=l.length+1->(∀q d,jd oS q=some d->∃c:bY,d=c.d/\G3 c.ra=some (.lst (c.rs.map Row.d))/\c.ra≠pc/\L_ W bs PP fr PP.length q c)->G3 pc=some (.lst (cs.map bY.d))->(∀c∈cs,G3 c.ra=some (.lst (c.rs.map Row.d))/\c.ra≠pc)->jd oS (mk,[L7 (src:Int),L7 (aN:Int)])=some c.d->Go (u2 { nx:=N,rt:=R,bk:=B,ct:=N}) [some (.tup [.int (W:Int),.tup (bs.map .str),x]),some (.ref pp),some (.ref pl),some (.ref sl),some (.int (fr:Int)),some (.ref pk),some (.ref pc),some (.int (l.length:Int)),some (.tup (mk.map kD)),some (.ref aw),some (.int (k:Int)),some (.tup [.tup (mk.map kD),.int (src:Int),.int (aN:Int)])] G3:=by
      intro G3 oS c g3 k3 kl3 kn3 kc3 Cf hc;obtain⟨c',e3,Ak,yd,wN⟩:=kn3 _ _ hc;subst uM;dsimp![WK,kc3];refine#[pk,oS,(mk,[L7 (src:Int),L7 (aN:Int)]),c'.d,rfl,rfl,k3,by rw[hc,e3],?_];refine#[C8 (m:=1000) (by rw[B0];omega) ∅,?_];refine ih _ _ #[l++[(.tup (mk.map kD),l')],t,l',b',s1++[a],a'::s3,cs++[c'],oS,_,_,_,_,_,by rw[<- e];simp,by rw[B4];rfl,ho,kT,by rw[es];simp,by rw[B4,B4,fW];rfl,sl3,g3.own Gk,by rw[av Sh];exact k3,by rw[B4];exact kl3,?_,by rw[B4,B4,cl];rfl,by rw[aC,B9];rfl,?_,?_,rfl]
      ·intro q d hd
       obtain⟨c2,y1,y2,y3,y4⟩:=kn3 q d hd;exact#[c2,y1,by rw[av y3];exact y2,y3,y4]
      ·intro c2 h2
       rcases K1.mp h2 with h2|h2
       ·rw[av (Cf c2 h2).2];exact Cf c2 h2
       ·obtain rfl:=J9.mp h2
        rw[av yd];exact#[Ak,yd]
      ·intro Y hY
       rw[E2];refine cd _ #[c',Y,rfl,?_,hY];rw[<- Tp,hS,hT];exact wN.get hq hk
     dsimp!;refine#[(mk,[L7 (src:Int),L7 (aN:Int)]),kvs,pk,rfl,rfl,k2,?_];cases hc:jd kvs (mk,[L7 (src:Int),L7 (aN:Int)]) with
     | some d =>
      obtain⟨c,rfl,_⟩:=kn _ _ hc;simp!;exact xV G2 kvs c g2 k2 () kn kc ca hc
     | none =>
      obtain⟨ak,GN,ha2⟩:=pat.get (i:=k-1) ();have ia:da (as.map D.ref) ((k:Int)-1)=some (.ref ak):=by
       rw[show(k:Int)-1=((k-1:Nat):Int) by omega];exact uB (by rw[F0,GN];rfl)
      have hpm:PP.getD (k-1) []∈PP:=by
       rw[J0,B7 ()];exact N0 _
      obtain⟨rows,sz,mc⟩:=hk.code W bs (PP.getD (k-1) []) src aN fr;simp![WN];simp![Gj,bt,ia];refine bM #[_,ak,W,bs,PP.getD (k-1) [],x,src,aN,fr,rows,sz,rfl,g2.kp _ _ ha2,(ok.ok _ hpm).1,ok.hW,(ok.ok _ hpm).2,hf1,(),hf2,mc,λq3 G3 hq3 k3 g3=>?_];simp!;have n3:pc≠q3:=aU kc hq3;have n4:pk≠q3:=aU k2 hq3;refine#[pk,kvs,(mk,[L7 (src:Int),L7 (aN:Int)]),rfl,rfl,g3.kp _ _ k2,C8 (m:=1000) () ∅,?_];refine xV _ _ #[sz,q3,rows] ((g2.trans g3).own Te) aC ?_ ?_ ?_ ?_ ?_
      ·unfold xW;split <;> simp <;> omega
      ·intro q d hd
       rcases wk2 hc hd with⟨rfl,rfl⟩|hd
       ·exact⟨⟨sz,q3,rows⟩,rfl,by rw[av (D8 n4)];exact k3,D8 n3,_,k,src,aN,hq,hk,mc⟩
       ·obtain⟨c,y1,y2,y3,y4⟩:=kn q d hd
        exact#[c,y1,by rw[av (λz=>by rw[z,k2] at y2;cases y2)];exact g3.kp _ _ y2,y3,y4]
      ·rw[av (D8 Sh)];exact g3.kp _ _ kc
      ·intro c h
       obtain⟨y2,y3⟩:=ca c h;exact#[by rw[av (λz=>by rw[z,k2] at y2;cases y2)];exact g3.kp _ _ y2,y3]
      ·exact vk2 hc
    rcases x5 with⟨rfl,rfl,o1,o2,o3⟩|⟨rfl,rfl,o1,o3⟩|⟨rfl,rfl,rfl,rfl,o3⟩
    ·simp![df,zS,bt,i1]
     dsimp!;rw[if_neg ∅];exact rest (lv+1) (lv+1) a' b (.inl rfl) () () o2 () (g2.kp _ _ ka') o3 o2
    ·simp![df]
     rw[if_neg ∅];simp![zS,bt,i0];dsimp!;rw[if_neg ∅];exact rest (l'+1) (l'+1) a b (.inr (.inl rfl)) () () o1 () (g2.kp _ _ ka) o3 ()
    ·simp!
     rw[if_neg ∅];simp![zS,bt,i0];dsimp![Gj,bt,B0,pat.len];exact rest PP.length PP.length a true (.inr (.inr ⟨rfl,rfl⟩)) Ac () () () (g2.kp _ _ ka) o3 ()
theorem wt8{n:Nat}(IZ:n<*T.mP.1<*tH)(IP:n<*T.mG.1<*s_):n+1<*T.mL.1<*tD:=by
 refine dk T.mL.1 oA (λ_ _ _ _ _ _ hr =>
   (au (aT (bO (aV hr) (¬0) aZ (ah _)) (aE (bj (ek IP hr #v[!4,(cN eL rfl T.aX ∅ #v[¬2])]))) cU)
   (au (aQ 6 oA.nd (qX (bO (aV hr) (¬0) aZ (ah _)) aZ aZ))
   (aE (bj (ek IZ hr #v[!6,!1,!2,!3,!4,!5])))))) (λds G R h=>?_)
 ·obtain⟨mv,pc,W,bs,rs,x,src,aN,fr,rows,sz,rfl,gE,ok,hW,TV,h1,h2,h3,mc,post⟩:=h
  have hb:=ok.nb;cases mc with
  | lay =>
   simp![df];rw[if_neg ∅];dsimp!;dsimp!;exact bM #[true,pc,W,bs,rs,x,src,aN,fr,rfl,gE,ok,hW,TV,h1,h2,h3,post]
  | clear =>
   simp![df];rw[if_neg ∅];dsimp!;rw[if_neg ∅];dsimp!;exact bM #[false,pc,W,bs,rs,x,src,aN,fr,rfl,gE,ok,hW,TV,h1,h2,h3,post]
  | Ld =>
   simp![B0];refine bM #[aN,bs.length,rfl,(),λq G' hq k g=>?_];exact post q G' hq k g
theorem ws9{n:Nat}:n+1<*T.mG.1<*s_:=by
 refine dk T.mG.1 Ym (λ_ _ _ _ _ _ hr =>
   (aE (bj (bD #v[(aP cG (!0) (!1)),(lT (N':=["at", "many", "slot"]) (ix:=[none,some 1,some 0]) (jh rfl rfl rfl) (uA rfl T.bH #v[!1]) (λ_ _ _ _=>(c8 0 (show(["at", "many", "slot"]:List Str).Nodup by decide))) (λ_ _ _ _=>ki) (λ_ _ _ _=>(bD #v[aZ,(aP cG (!1) (!0)),(bD #v[aZ,(aP cG (!2) (!0))])])))])))) (λds G R h=>?_)
 ·obtain⟨s,m,rfl,hm,post⟩:=h
  simp!;refine#[#[(),()],λp hp=>?_];refine kj (λr σ G'=>lN λ(i c:Nat) (v:Option D)=>pz (i+c=m) (r=cn (i:Int) c) (G'=aG G p (.lst (((D1 i).map λj=>Row.add (m+j) (.box (s+j))).map Row.d))) (σ=[v,some (.int (m:Int)),some (.int (s:Int))])) #[0,m,none,(),rfl,rfl,rfl] ?_ ?_
  ·rintro σ G2 ⟨i,c,v,e,e2,rfl,rfl⟩
   have hc:c=0:=by
    cases c with
    | zero=>rfl
    | succ c=>rw[lG] at e2;cases e2
   subst hc;obtain rfl:i=m:=()
   refine#[trivial,∅,?_];exact post p _ hp aC (ax.refl.new hp)
  ·rintro z r σ G2 ⟨i,c,v,e,e2,rfl,rfl⟩ ih
   cases c with
   | zero=>cases e2
   | succ c =>
    rw[lG] at e2;cases e2;refine#[trivial,?_];simp![aC];refine#[∅,∅,?_,ih _ _ #[i+1,c,_,(),rfl,?_,rfl]]
    ·rw[B0,B0,D9]
     exact C8 (m:=1000) () ∅
    ·rw[h9,R0,B9,B9];rfl
theorem wu5{n:Nat}:n+1<*T.mR.1<*tI:=by
 refine dk T.mR.1 Yg (λ_ _ _ _ _ _ hr =>
   (aE (bj (bD #v[(aP cG (!0) (!1)),(lT (N':=["at", "many", "slot"]) (ix:=[none,some 1,some 0]) (jh rfl rfl rfl) (uA rfl T.bH #v[!1]) (λ_ _ _ _=>(c8 0 (show(["at", "many", "slot"]:List Str).Nodup by decide))) (λ_ _ _ _=>ki) (λ_ _ _ _=>(bD #v[aZ,(aP cG (!1) (!0)),(aP cG (!2) (!0))])))])))) (λds G R h=>?_)
 ·obtain⟨s,m,rfl,hm,post⟩:=h
  simp!;refine#[#[(),()],λp hp=>?_];refine kj (λr σ G'=>lN λ(i c:Nat) (v:Option D)=>pz (i+c=m) (r=cn (i:Int) c) (G'=aG G p (.lst (((D1 i).map λj=>Row.swap (m+j) (s+j)).map Row.d))) (σ=[v,some (.int (m:Int)),some (.int (s:Int))])) #[0,m,none,(),rfl,rfl,rfl] ?_ ?_
  ·rintro σ G2 ⟨i,c,v,e,e2,rfl,rfl⟩
   have hc:c=0:=by
    cases c with
    | zero=>rfl
    | succ c=>rw[lG] at e2;cases e2
   subst hc;obtain rfl:i=m:=()
   refine#[trivial,∅,?_];exact post p _ hp aC (ax.refl.new hp)
  ·rintro z r σ G2 ⟨i,c,v,e,e2,rfl,rfl⟩ ih
   cases c with
   | zero=>cases e2
   | succ c =>
    rw[lG] at e2;cases e2;refine#[trivial,?_];simp![aC];refine#[∅,?_,ih _ _ #[i+1,c,_,(),rfl,?_,rfl]]
    ·rw[B0,B0,D9]
     exact C8 (m:=1000) () ∅
    ·rw[h9,R0,B9,B9];rfl
theorem wx2{n:Nat}:n+1<*T.iY<*qo:=by
 refine dk T.iY wm6 (λ_ _ _ _ _ _ hr =>
   (au (xC T.aH.cl T.aH.cK (!0) (lD QZ rfl T.dR ∅ #v[¬1]))
   (au (xC T.aH.cl T.aH.kK (!0) (lD QZ rfl T.dR ∅ #v[!2]))
   (aE (xC T.aH.cl T.aH.fK (!0) (!3)))))) (λds G R h=>?_)
 ·obtain⟨p,c0,cr,bx,rs,bs,s,rfl,hp,GF,BZ,post⟩:=h
  simp?[GF]
  intro ra wA;have n1:p≠ra:=aU hp wA;have n2:bx≠ra:=aU BZ wA
  simp?[av n1,hp,eJ,str_beq,C6,decide_false,decide_true,beq_self_eq_true,F6,P1,putD]
  refine#[∅,?_];have n3:bx≠p:=by intro e;rw[e,hp] at BZ;cases BZ
  simp?[av n3,av n2,BZ]
  intro ha Af;have n4:ha≠p:=by intro e;rw[e,aC] at Af;cases Af
  have n5:ha≠ra:=by intro e;rw[e,av (D8 n1),aC] at Af;cases Af
  rw[av n4,av n5] at Af
  simp?[av (D8 n4),eJ,str_beq,C6,decide_false,decide_true,beq_self_eq_true,F6,P1,putD]
  refine#[∅,∅,?_];refine post ra ha _ wA Af #[by rw[aC];rfl,?_,?_,D8 n5] λb o hb e=>?_
  ·rw[av (D8 n1),av (D8 n1),av (D8 n5),av (D8 n1),aC]
  ·rw[av n4,av n4,aC]
  ·rw[av hb,av hb,av (aU e Af),av hb,av (aU e wA)]
   exact e
theorem wx0{n:Nat}:n+1<*T.eU<*qm:=by
 refine dk T.eU XZ (λ_ _ _ _ _ _ hr =>
   (aE (bj (iI T.aH.cl T.aH.fK (!0))))) (λds G R h=>?_)
 ·obtain⟨p,ra,ha,rs,bs,s,rfl,A,post⟩:=h
  simp?[A.ob,A.ro,lF]
  exact post
theorem wx3{n:Nat}(Jn:n<*T.gY<*tP)(ug:n<*T.jX.1<*qh)(Jj:n<*T.m8.1<*j7):n+1<*T.gZ<*tQ:=by
 refine dk T.gZ oH (λ_ _ _ _ _ _ hr =>
   (au (aT (Bf (rT (lM T.aH.cl T.gY T.FG Jn hr (!0)))) (aE (bj jz)) cU)
   (au (aQ 1 oH.nd (bR bQ (iI T.aH.cl T.aH.cK (!0)) (iI T.aH.cl T.aH.fK (!0))))
   (au (aT (rE (w_and (bO (aV hr) (¬1) aZ (ah _)) (Df (rT (ek ug hr #v[!1,(iI T.aH.cl T.aH.kK (!0))]))))) (au (xC T.aH.cl T.aH.fK (!0) (aP cG (¬1) aA))
   (aE (bj jz))) cU)
   (au (dW (ek Jj hr #v[!1,(iI T.aH.cl T.aH.kK (!0)),aA]))
   (au (Ko T.aH.cl T.aH.fK (!0) aA xH)
   (aE (bj jz)))))))) (λds G R h=>?_)
 ·obtain⟨p,ra,ha,rs,bs,s,sz,rfl,A,c,post⟩:=h
  have Tf:=A.ph;have Gi:=A.pr;have hl:=c.bo.len
  simp?[A.ob,lF]
  refine rC (v:=.bl (bu rs bs s)) (G1:=G) (λR h=>#[p,ra,ha,rs,bs,s,sz,rfl,A,c,h]) ?_
  simp?
  cases hm:bu rs bs s with
  | false =>
   simp?
   rw[hm] at post;exact post G (λ_=>rfl) λz=>by cases z
  | true =>
   simp?
   rw[hm] at post;have dQ:s<rs.length:=by
    by_cases q:s<rs.length
    ·exact q
    ·unfold bu at hm;rw[L9 ()] at hm;cases hm
   have hg:=B7 dQ;have az:=c.ro _ (N0 dQ)
   simp?[A.ob,A.ro,lF,uo8 hg]
   have step:∀(row:Row),rs[s]=row->row.ok sz->(bV rs bs s=(s+1,cH 1 bs row))->∃R1,j7 [row.d,.ref ha,.int 1] G R1/\∀d G',R1 d G'->∃iE,G' p=some (.ins cS iE)/\iE=cY ra ha s/\R (.bl true) (aG G' p (.ins cS (cY ra ha (s+1)))):=by
    intro row _ Ta Gv;refine rW (post:=λd G'=>d=.non/\xg ha (cH 1 bs row) G G') (λR h=>#[row,ha,sz,1,bs,rfl,.inl rfl,Ta,c.bo,A.he,λG' u=>h _ _ #[rfl,u]]) ?_;rintro d G' ⟨rfl,u⟩;refine#[cY ra ha s,by rw[u.kp p Tf];exact A.ob,rfl,?_];refine post _ (λz=>by cases z) λ_=>?_
    rw[Gv];refine#[#[aC,by rw[av (D8 Gi),u.kp ra A.ne];exact A.ro,by rw[av (D8 Tf)];exact u.at_,A.ne],λb h1 h2=>by rw[av h1,u.kp b h2]]
   have fin:∀{row:Row} {tl:D->Gp->Prop},(∃R1,j7 [row.d,.ref ha,.int 1] G R1/\∀d G',R1 d G'->∃iE,G' p=some (.ins cS iE)/\iE=cY ra ha s/\R (.bl true) (aG G' p (.ins cS (cY ra ha (s+1))))) ->
     (∀d G',(∃iE,G' p=some (.ins cS iE)/\iE=cY ra ha s/\R (.bl true) (aG G' p (.ins cS (cY ra ha (s+1)))))->tl d G')->∃R1,j7 [row.d,.ref ha,.int 1] G R1/\∀d G',R1 d G'->tl d G':=λ⟨R1,a,b⟩ h=>#[R1,a,λd G' q=>h d G' (b d G' q)]
   have es:((s:Int)+1)=((s+1:Nat):Int):=()
   rcases wy9 rs[s] with⟨x,m,k,bp⟩|⟨w,rest,hd,hw,Gv⟩
   ·rw[bp]
    rw[bp] at az
    simp?[Row.d,eJ,C6,decide_false,decide_true,A.ob,lF]
    refine rC (v:=.bl (decide (gt bs x=m))) (G1:=G) (λR h=>#[.go x m k,ha,x,bs,m,k,rfl,.inl rfl,A.he,by rw[hl];exact az.1,h]) ?_
    simp?
    refine iJ (λh0=>?_) (λh0=>?_)
    ·simp?[A.ob,lF]
     refine⟨PY,?_⟩;refine post _ (λz=>by cases z) λ_=>?_
     have Gv:bV rs bs s=(k+1,bs):=by unfold bV;rw[hg,bp];simp[h0]
     rw[Gv];refine#[#[?_,by rw[av (D8 Gi)];exact A.ro,by rw[av (D8 Tf)];exact A.he,A.ne],λb h1 h2=>av h1];rw[aC];unfold cY;rw[show((k+1:Nat):Int)=(k:Int)+1 by omega]
    ·simp?[A.ob,lF]
     refine fin (row:=.go x m k) (step _ bp az (by unfold bV;rw[hg,bp];simp[h0,cH])) ?_;rintro d G' ⟨iE,e1,rfl,q⟩
     simp?[e1,lF,es]
     exact#[PY,q]
   ·simp?[hd,hw,A.ob,lF]
    rw[<- hd];refine fin (row:=rs[s]) (step _ rfl az (Gv rs bs s hg)) ?_;rintro d G' ⟨iE,e1,rfl,q⟩
    simp?[e1,lF,es]
    exact#[PY,q]
theorem wx4{n:Nat}:n+1<*T.g_<*tR:=by
 refine dk T.g_ XY (λ_ _ _ _ _ _ hr =>
   (aE (bj (qw (aV hr) (iI T.aH.cl T.aH.fK (!0)) (cN eL rfl T.aX ∅ #v[(iI T.aH.cl T.aH.cK (!0))]) (ah _))))) (λds G R h=>?_)
 ·obtain⟨p,ra,ha,rs,bs,s,rfl,A,post⟩:=h
  simp?[A.ob,A.ro,lF,B0]
  have e:decide ((s:Int)=(rs.length:Int))=decide (s=rs.length):=by
   by_cases q:s=rs.length
   ·simp[q]
   ·have:¬ (s:Int)=(rs.length:Int):=()
    simp[q,this]
  rw[e];exact post
theorem wx1{n:Nat}(Jq:n<*T.g_<*tR)(ug:n<*T.jX.1<*qh):n+1<*T.gY<*tP:=by
 refine dk T.gY oG (λ_ _ _ _ _ _ hr =>
   (au (aT (rT (lM T.aH.cl T.g_ T.FI Jq hr (!0))) (aE (bj jz)) cU)
   (au (aQ 1 oG.nd (bR bQ (iI T.aH.cl T.aH.cK (!0)) (iI T.aH.cl T.aH.fK (!0))))
   (aE (bj (JR (Ba (qw (aV hr) (¬1) aZ (ah _)) (y_ (ek ug hr #v[!1,(iI T.aH.cl T.aH.kK (!0))]))))))))) (λds G R h=>?_)
 ·obtain⟨p,ra,ha,rs,bs,s,sz,rfl,A,c,post⟩:=h
  simp?[A.ob,lF]
  refine rC (v:=.bl (decide (s=rs.length))) (G1:=G) (λR h=>#[p,ra,ha,rs,bs,s,rfl,A,h]) ?_
  simp?[A.ob,lF]
  refine iJ (λh0=>?_) (λh0=>?_)
  ·subst h0
   have:bu rs bs rs.length=false:=by unfold bu;rw[L9 (B8 _)]
   rw[this] at post;exact post
  ·have dQ:s<rs.length:=by have:=c.le;omega
   have hg:=B7 dQ;have az:=c.ro _ (N0 dQ);have hl:=c.bo.len;unfold bu at post;rw[hg] at post
   simp?[A.ob,A.ro,lF,uo8 hg]
   revert az post
   cases rs[s] with
   | aL x m k =>
    intro post az
    simp?[Row.d,eJ,C6,decide_false,decide_true,A.ob,lF]
    refine rC (v:=.bl (decide (gt bs x=m))) (G1:=G) (λR h=>#[.aL x m k,ha,x,bs,m,k,rfl,.inr rfl,A.he,by rw[hl];exact az.1,h]) ?_;exact post
   | go x m k=>intro post az;simp?[Row.d,eJ,C6,decide_false,decide_true];exact post
   | add x o=>intro post az;simp?[Row.d,eJ,C6,decide_false,decide_true];exact post
   | take x o=>intro post az;simp?[Row.d,eJ,C6,decide_false,decide_true];exact post
   | turn x i cs=>intro post az;simp?[Row.d,eJ,C6,decide_false,decide_true];exact post
   | swap x y=>intro post az;simp?[Row.d,eJ,C6,decide_false,decide_true];exact post
theorem wv9{n:Nat}:n+1<*T.jX.1<*qh:=by
 refine dk T.jX.1 Yd (λ_ _ _ _ _ _ hr =>
   (aE (bj (qw (aV hr) (bR bQ (!1) (¬0)) (¬0) (ah _))))) (λds G R h=>?_)
 ·obtain⟨row,a,x,bs,m,k,rfl,bp,ha,hx,post⟩:=h
  rcases bp with rfl|rfl
  ·simp?[Row.d,ha,rY hx]
   exact post
  ·simp?[Row.d,ha,rY hx]
   exact post
theorem ww4{n:Nat}(yG:n<*T.mJ.1<*tu)(IE:n<*T.mz.1<*sW):n+1<*T.m8.1<*j7:=by
 refine dk T.m8.1 oE (λ_ _ _ _ _ _ hr =>
   (aE (aT (bO (aV hr) (¬0) aZ (ah _)) (aE (vw (aP uy (aP cG (bR bQ (!1) (¬0)) (aP nR (!2) (ek yG hr #v[¬0,!1]))) (zg T.jL)) (xB (!1) (¬0) xF))) (aE (aT (bO (aV hr) (¬0) aZ (ah _)) (aE (vw (aP uy (aP iw (bR bQ (!1) (¬0)) (aP nR (!2) (ek yG hr #v[¬0,!1]))) (zg T.jL)) (xB (!1) (¬0) xF))) (aE (aT (bO (aV hr) (¬0) aZ (ah _)) (aE (dW (ek IE hr #v[!0,!1]))) (aE (aT (bO (aV hr) (¬0) aZ (ah _)) (au (aQ 3 oE.nd (bR bQ (!1) (¬0)))
   (au (vw (bR bQ (!1) (¬0)) (xB (!1) (¬0) xF))
   (aE (vw (!3) (xB (!1) (¬0) xF))))) cU))))))))) (λds G R h=>?_)
 ·obtain⟨row,a,sz,s,bs,rfl,hs,az,hb,ha,post⟩:=h
  have hl:=hb.len;have cm:∀y:Int,jb s y:=λy=>.inl (by rcases hs with rfl|rfl <;> decide)
  have p1:((0:Int)<4294967296)=True:=∅
  cases row with
  | add x o =>
   have iC:x<bs.length:=by rw[hl];exact az.1
   simp?[Row.d,eJ,C6,decide_false,decide_true,ha,rY iC]
   refine rC (v:=.int (val bs o)) (G1:=G) (λR h=>#[o,a,bs,rfl,ha,λy e=>by subst e;rw[hl];exact az.2.1,h]) ?_
   simp?[ha,rY iC,Dx iC,vM,cm,p1]
   exact post _ #[aC,λb hb=>av hb]
  | take x o =>
   have iC:x<bs.length:=by rw[hl];exact az.1
   simp?[Row.d,eJ,C6,decide_false,decide_true,ha,rY iC]
   refine rC (v:=.int (val bs o)) (G1:=G) (λR h=>#[o,a,bs,rfl,ha,λy e=>by subst e;rw[hl];exact az.2.1,h]) ?_
   simp?[ha,rY iC,Dx iC,vM,cm,p1]
   exact post _ #[aC,λb hb=>av hb]
  | turn x i cs =>
   simp?[Row.d,eJ,C6,decide_false,decide_true]
   refine rW (post:=λd G'=>d=.non/\xg a (cH 1 bs (.turn x i cs)) G G') (λR h=>#[x,i,cs,a,sz,bs,rfl,az,hb,ha,λG' u=>h _ _ #[rfl,u]]) ?_;rintro d G' ⟨rfl,u⟩;exact post _ u
  | swap x y =>
   have iC:x<bs.length:=by rw[hl];exact az.1
   have zP:y<bs.length:=by rw[hl];exact az.2.1
   have hx2:x<(bs.set x (gt bs y)).length:=by rw[J5];exact iC
   have SO:y<(bs.set x (gt bs y)).length:=by rw[J5];exact zP
   simp?[Row.d,eJ,C6,decide_false,decide_true,ha,rY iC,rY zP,Dx iC,vM,Dx SO,h9]
   exact post _ #[aC,λb hb=>av hb]
  | go x m k =>
   simp?[Row.d,eJ,C6,decide_false,decide_true]
   exact post _ #[ha,λb hb=>rfl]
  | aL x m k =>
   simp?[Row.d,eJ,C6,decide_false,decide_true]
   exact post _ #[ha,λb hb=>rfl]
theorem wt5{n:Nat}:n+1<*T.mJ.1<*tu:=by
 refine dk T.mJ.1 Yj (λ_ _ _ _ _ _ hr =>
   (aE (bj (qX (bO (aV hr) (¬0) aZ (ah _)) (bR bQ (!1) (¬0)) (¬0))))) (λds G R h=>?_)
 ·obtain⟨o,a,bs,rfl,ha,hy,post⟩:=h
  cases o with
  | num m =>
   simp?[nY.d,eJ,C6,decide_false,decide_true]
   exact post
  | box y =>
   simp?[nY.d,eJ,C6,decide_false,decide_true,ha,rY (hy y rfl)]
   exact post
theorem wr9{n:Nat}:n+1<*T.mz.1<*sW:=by
 refine dk T.mz.1 ox (λ_ _ _ _ _ _ hr =>
   (au (lB (jG (¬0)) (c8 2 ox.nd) (aE (aT (bO (aV hr) (aP J' (aP Xm (bR bQ (!1) (¬2)) (¬2)) aA) aA (ah _)) (aE wm8) cU)))
   (aE (vw (aP x77 (bR bQ (!1) (¬0)) (aP CZ aA (¬0))) (xB (!1) (¬0) xF))))) (λds G R h=>?_)
 ·obtain⟨x,i,cs,a,sz,bs,rfl,az,hb,ha,post⟩:=h
  have hl:=hb.len;obtain⟨hx,hi,_,hc⟩:=az;have iC:x<bs.length:=()
  simp?[Row.d]
  refine lE (λr σ G'=>Xi2 λ(wX:List (Nat×Nat)) (v:Option D)=>Jy (r=wX.map cd) (∀c∈wX,c∈cs) (con bs cs=con bs wX) (G'=G) (σ=[some (Row.turn x i cs).d,some (.ref a),v])) #[cs,none,rfl,λ_ h=>h,rfl,rfl,rfl] ?_ ?_
  ·rintro σ G' ⟨wX,v,e1,_,wM,rfl,rfl⟩
   have e2:wX=[]:=by simpa using e1.symm
   subst e2;refine#[trivial,?_]
   simp?[Row.d,ha,rY iC,Dx iC,vM,v53]
   refine#[Xr () (),?_];refine post _ #[?_,λb hb=>av hb];rw[aC]
   show _=some (DO.lst (D17 D.int (if con bs cs=true then _ else _)))
   rw[wM];rfl
  ·rintro z r σ G' ⟨wX,v,e1,F_,wM,rfl,rfl⟩ ih
   cases wX with
   | nil=>cases e1
   | cons c wX =>
    cases e1;obtain⟨h1,h2,h3⟩:=hc c (F_ c D3);have Ak:c.1<bs.length:=()
    simp?[Row.d,cd,ha,rY Ak,vi5]
    refine#[(),?_];refine iJ (λh0=>?_) (λh0=>?_)
    ·refine post _ #[?_,λb hb=>rfl]
     have:con bs cs=false:=by rw[wM];unfold con;rw[U6,h0];rfl
     show _=some (DO.lst (D17 D.int (if con bs cs=true then _ else _)))
     rw[this];exact ha
    ·refine ih _ _ #[wX,_,rfl,λd hd=>F_ d (C7 _ hd),?_,rfl,rfl]
     rw[wM];unfold con;rw[U6];simp[h0]
theorem wv5{n:Nat}:n+1<*T.d7.1<*uv:=by
 refine C_ T.d7.1 cX (λds G R h=>?_) (λ_ _ _ _ _ _ hr =>
   (au (vw (!0) (Bc (n:=3) rfl (qx (c8 2 cX.nd) (qx (c8 3 cX.nd) (qx (c8 4 cX.nd) Bn)))))
   (au (aT (bO (aV hr) (!4) aA (ah _)) (au (vw (aP cG (!3) aA) (xB (!0) aA xF))
   (au (aQ 5 cX.nd (aP cG (aP nR aA (!3)) aA))
   (au (aT (bO (n_) (cN eL rfl T.aX ∅ #v[!2]) aA (ah _)) (aE (aQ 5 cX.nd (bR bQ (!2) (aP uy (!3) (cN eL rfl T.aX ∅ #v[!2]))))) cU)
   (au (aQ 4 cX.nd (cN x83 rfl T.sR ∅ #v[!5]))
   (aE (aT (rE (w_or (bO (NC) (!3) (cN eL rfl T.aX ∅ #v[!2]) (ah _)) (zc (bO (jk) (!4) (aP x80 aA aA) (ah _))))) (au (aQ 6 cX.nd (aP uy (aP cG (aP cG (aP nR (aP uy (!5) aA) (aP cG aA (!3))) (aP nR aA (!3))) aA) aA))
   (au (aQ 6 cX.nd (aP uy (aP nR (!6) (!6)) aA))
   (aE (bj (aP uy (aP uy (aP nR (!6) (!6)) aA) (!1)))))) cU)))))) cU)
   (au (vw (cN vj7 rfl T.i9 ∅ #v[!4,!1]) (Bc (n:=2) rfl (qx (xB (!0) aA xF) (qx (c8 7 cX.nd) Bn))))
   (aE (bj (!7))))))) (λds G R h=>?_)
 ·obtain⟨⟨st,m,rfl,_⟩,_⟩:=h;rfl
 ·obtain⟨⟨st,m,rfl,⟨a,ns,k,r,oW,ha,hk,Ge,eC,hlen⟩,Tq,iD⟩,post⟩:=h
  have fin:∀(v k' r':Int),0<=v->v<m->0<=k'->0<=r'->R (.int v) (aG G st (.lst [.ref a,.int k',.int r'])):=λv k' r' h1 h2 h3 h4=>post _ _ #[st,m,v,rfl,
   #[#[a,ns,k',r',aC,by rw[av eC];exact ha,h3,h4,eC,hlen],λb o hb e=>by rw[av hb];exact e],rfl,h1,h2]
  have tail:∀(y k' r':Int),0<=k'->0<=r'->R (.int (y%m)) (aG G st (.lst [.ref a,.int k',.int r'])):=λy k' r' h1 h2=>fin _ _ _ (JJ _ ()) (X8 _ Tq) h1 h2
  have cd:∀c:Int,xt c m:=λc=>#[Tq,iD]
  have cm:∀c y:Int,jb (c%2147483629) y:=λc y=>zd () ()
  have cm2:∀c y:Int,jb (c%2147483587) y:=λc y=>zd () ()
  have c7:∀y:Int,jb 7 y:=λy=>zd ∅ ∅
  have c79:∀y:Int,jb 7919 y:=λy=>zd ∅ ∅
  have cp:nO 10 18:=#[∅,∅,∅];have p1:((0:Int)<2147483629)=True:=∅
  have p2:((0:Int)<2147483587)=True:=∅
  have p3:((0:Int)<1999999973)=True:=∅
  have p4:((0:Int)<m)=True:=eq_true Tq
  by_cases hn:ns=[]
  ·subst hn
   simp?[oW,ha,av eC,h9,cd,cm,cm2,c7,c79,cp,p1,p2,p3,p4]
   refine iJ (λh0=>?_) (λh0=>?_)
   ·simp only[Int.lt_irrefl,Int.natCast_zero,decide_false,L1,if_false]
    refine iJ (λh1=>?_) (λh1=>?_)
    ·exact tail _ _ _ () Ge
    ·exact absurd hk h1
   ·exact tail _ _ _ hk (VA Ge ())
  ·have uA2:0<ns.length:=List.length_pos_iff.mpr hn
   have hl:((ns.map D.int).length:Int)=(ns.length:Int):=by simp
   obtain⟨c,hc⟩:∃c,da (ns.map D.int) (k%(ns.length:Int))=some (.int c):=#[_,wi3 (JJ _ ()) (X8 _ ())];have p5:((0:Int)<(ns.length:Int))=True:=eq_true ()
   simp?[oW,ha,av eC,h9,cd,cm,cm2,c7,c79,cp,p1,p2,p3,p4,hl,hc,p5]
   refine iJ (λh0=>?_) (λh0=>?_)
   ·refine iJ (λh1=>?_) (λh1=>?_)
    ·exact tail _ _ _ () Ge
    ·refine iJ (λh2=>?_) (λh2=>?_)
     ·exact tail _ _ _ () Ge
     ·refine tail _ _ _ () (VA ?_ ())
      split <;> omega
   ·exact tail _ _ _ hk (VA Ge ())
theorem wv2{n:Nat}(bc:n<*T.d7.1<*uv):n+1<*T.mV.1<*tL:=by
 refine dk T.mV.1 cW (λ_ _ _ _ _ _ hr =>
   @(au @(aQ 2 cW.nd aZ)
   @(au @(aQ 3 cW.nd @(dU @(Xo lu)))
   @(au @(lB (uA rfl T.bH @#v[!1]) (c8 4 cW.nd) @(au @(aQ 5 cW.nd @(x18 aZ @(nS @(lT (N':=["_law_j", "_law_letters", "_law_state"]) (ix:=[none,some 2,some 0]) (jh rfl rfl rfl) (uA rfl T.bH @(nS @(aP cG aA (ek bc hr @(nS (!0) @#v[aA]))) lu)) (λ_ _ _ _=>(c8 0 (show(["_law_j", "_law_letters", "_law_state"]:List Str).Nodup by decide))) (λ_ _ _ _=>ki) (λ_ _ _ _=>@(bR bQ (!1) (ek bc hr @(nS (!2) @#v[aA]))))) lu)))
   @(au @(aQ 6 cW.nd @(wV x79 (!5) Qh (Bq aA)))
   @(au @(lB (uA rfl T.bH @#v[aA]) (c8 7 cW.nd) @(aE @(aT (bO (yS hr) (!5) (!3) (by with_unfolding_all rfl)) @(aE @(aQ 5 cW.nd @(aP cG @(aP cG (!6) aZ) @(bR bQ (!2) (!7))))) cU)))
   @(aE @(dW (qz (!3) @#v[!5])))))))
   @(au @(aT (bO (aV hr) (ek bc hr @(nS (!0) @#v[aA])) aA (ah _)) (by(with_unfolding_all change jD _ _ _);exact(ux4 (wm7 8 cW.nd (YN (YN x36))) (ux4 (tU.of @(aQ 9 cW.nd (ek bc hr @(nS (!0) @#v[aA])))) (w18 (tU.of @(bj @(lD zo rfl T.cR ∅ @(nS @(lT (N':=["_law_k", "_law_words", "_law_first"]) (ix:=[none,some 8,some 9]) (jh rfl rfl rfl) (uA rfl T.bH @#v[!1]) (λ_ _ _ _=>(c8 0 (show(["_law_k", "_law_words", "_law_first"]:List Str).Nodup by decide))) (λ_ _ _ _=>ki) (λ_ _ _ _=>@(bR bQ (!1) @(aP uy @(aP cG (!2) @(aP nR aA (!0))) aA)))) lu)))))))) cU)
   @(aE @(bj @(lD zo rfl T.cR ∅ @(nS @(wV yR (!3) (Bq aA) Qh) lu))))))))) (λds G R h=>?_)
 ·obtain⟨st,m,rfl,S,iD,eD,post⟩:=h
  have fX:(C4 "abcdefghijklmnopqrstuvwxyz").length<=sizeLine:=∅
  simp!;dsimp!;refine#[∅,λnh jw=>?_];have nn:nh≠st:=S.ne jw;obtain⟨six,wu⟩:∃six:List Str,six=[C4 "wide",C4 "boxes",C4 "choose",C4 "else",C4 "end",C4 "times"]:=#[_,rfl];have s1:six.length=6:=by rw[wu];rfl
  have s2:six.Nodup:=by rw[wu];decide
  rw[show[D.str "wide",D.str "boxes",D.str "choose",D.str "else",D.str "end",D.str "times"]=six.map D.str by rw[wu];rfl];clear wu;have A0:eV st G (aG G nh (.lst (six.map D.str))):=(eV.refl S).new jw;dsimp!;refine#[#[(),()],?_];generalize hN:Go (ij _ _ _)=N;refine lE (λr σ G'=>Uu λ(i c:Nat) (ns:List Str) (v4 v5 v6 v7:Option D)=>VM (i+c=m) (r=cn (i:Int) c) (eV st G G') (G' nh=some (.lst ((six++ns).map D.str))) (ns.length=i) ((six++ns).Nodup) (∀w∈ns,w.length<=20) (σ=[some (.ref st),some (.int (m:Int)),some (.str (C4 "abcdefghijklmnopqrstuvwxyz")),some (.ref nh),v4,v5,v6,v7,none,none])) #[0,m,[],none,none,none,none,(),rfl,A0,by rw[E4];exact aC,rfl,by rw[E4];exact s2,λw hw=>(by cases hw),rfl] ?_ ?_
  ·rintro σ G1 ⟨i,c,ns,v4,v5,v6,v7,e,e2,A1,k1,hl,x8,hw,rfl⟩
   have hc:c=0:=by
    cases c with
    | zero=>rfl
    | succ c=>rw[lG] at e2;cases e2
   subst hc;refine#[trivial,?_];rw[<- hN];dsimp!;refine gG A1.at_ ∅ ∅ λx1 G2 a2 b1 b2=>?_
   have A2:=A1.trans a2;have k2:=a2.kp _ _ nn k1;simp!;refine iJ (λq=>?_) (λq=>?_)
   ·simp!
    refine#[∅,λpw Gg=>?_];rw[show[D.str "box",D.str "num",D.str "is",D.str "op",D.str "go",D.str "add",D.str "take",D.str "turn",D.str "swap",D.str "come",D.str "lay",D.str "show"]=cO.map D.str from rfl];have A3:=A2.new (o:=.lst (cO.map D.str)) Gg;have nw:=A2.at_.ne Gg
    dsimp!;refine gG A3.at_ ∅ ∅ λx2 G4 a4 c1 c2=>?_
    obtain⟨x2,rfl⟩:=nU c1;have A4:=A3.trans a4;have k4:=a4.kp _ _ nw aC;simp!;dsimp!;refine#[#[(),()],λp hp=>?_];have np:=A4.at_.ne hp
    have dJ:pw≠p:=aU k4 hp;refine kj (λr σ G'=>lN λ(j c:Nat) (v:Option D)=>pz (j+c=m) (r=cn (j:Int) c) (G'=aG G4 p (.lst (((D1 j).map λk=>cO.getD ((x2+5*k)%12) (C4 "")).map .str))) (σ=[v,some (.ref pw),some (.int (x2:Int))])) #[0,m,none,(),rfl,rfl,rfl] ?_ ?_
    ·rintro σ G5 ⟨j,c,v,e5,e6,rfl,rfl⟩
     have hc:c=0:=by
      cases c with
      | zero=>rfl
      | succ c=>rw[lG] at e6;cases e6
     refine#[trivial,?_];have hx:x2<12:=()
     have hj:j=m:=by(clear hx e6 dJ np hp k4 c2 c1 nw Gg q k2 b2 b1 e2 hw hl k1 hN s1 nn jw fX post eD iD;omega)
     subst hj;have az:=M9.mp (M9.mp vk1 x2 (K0.mpr hx)) j (K0.mpr ());rw[N8] at az;unfold Dw;simp only[aC,bt];exact post _ _ (by rw[B0,D9]) (λb hb=>of_decide_eq_true (M9.mp az.2 b hb)) (of_decide_eq_true az.1) (A4.new hp)
    ·rintro z r σ G5 ⟨j,c,v,e5,e6,rfl,rfl⟩ ih
     cases c with
     | zero=>cases e6
     | succ c =>
      rw[lG] at e6;cases e6;refine#[trivial,?_];have kw:aG G4 p (.lst (((D1 j).map λk=>cO.getD ((x2+5*k)%12) (C4 "")).map .str)) pw=some (.lst (cO.map D.str)):=by rw[av dJ];exact k4
      have hi:((x2:Int)+5*(j:Int))%12=(((x2+5*j)%12:Nat):Int):=by(clear kw ih e5 dJ np hp k4 c2 c1 nw Gg q k2 b2 b1 e2 e hw hl k1 hN s1 nn jw fX post eD iD;omega)
      have hq:(x2+5*j)%12<12:=D04 _ ∅;have LH:da (cO.map D.str) (((x2+5*j)%12:Nat):Int)=some (.str (cO.getD ((x2+5*j)%12) (C4 ""))):=by
       generalize (x2+5*j)%12=t at hq;refine uB ?_;rw[F0,J0,B7 (by exact hq)];rfl
      simp![kw,hi,LH];refine#[zd ∅ ∅,∅,?_,?_]
      ·rw[B0,B0,D9]
       exact C8 (m:=1000) () ∅
      ·rw[h9]
       refine ih _ _ #[j+1,c,_,by(clear LH hq hi kw ih dJ np hp k4 c2 c1 nw Gg q k2 b2 b1 e2 hw hl k1 hN s1 nn jw fX post eD iD;omega),by congr 1,?_,rfl];rw[R0,B9,B9];rfl
   ·dsimp![k2]
    intro p hp;rw[show((6:Int))=((6:Nat):Int) from rfl,vg8,<- C58,show(six++ns).drop 6=ns by rw[List.drop_append_of_le_length (),U2 (),J6]];exact post ns _ () hw (MZ.mp x8).2.1 (A2.new hp)
  ·rintro z r σ G1 ⟨i,c,ns,v4,v5,v6,v7,e,e2,A1,k1,hl,x8,hw,rfl⟩ ih
   cases c with
   | zero=>cases e2
   | succ c =>
    rw[lG] at e2;cases e2;refine#[trivial,?_];simp!;refine gG A1.at_ ∅ ∅ λx1 G2 a2 b1 b2=>?_
    have A2:=A1.trans a2;have k2:=a2.kp _ _ nn k1;obtain⟨sz,hsz,jM,me⟩:∃sz:Nat,1+x1=(sz:Int)/\1<=sz/\sz<=8:=#[(1+x1).toNat,by(clear k2 ih e hw hl k1 hN s1 nn jw fX post eD iD;omega),by(clear k2 ih e hw hl k1 hN s1 nn jw fX post eD iD;omega),by(clear k2 ih e hw hl k1 hN s1 nn jw fX post eD iD;omega)];simp![hsz];refine#[#[by(clear me jM k2 ih e hw hl k1 hN s1 nn jw fX post eD iD;omega),by(clear me jM k2 ih e hw hl k1 hN s1 nn jw fX post eD iD;omega)],λp hp=>?_];have np:=A2.at_.ne hp
    have fp:G p=none:=A2.none hp np;have rG:nh≠p:=aU k2 hp;have gS:∀a b:Str,(a++b).length=a.length+b.length:=λa b=>by
     show(a.cps++b.cps).size=_
     rw[VR];rfl
    generalize sC:Go (ij (i5 (LS CD _ _ _) _) _ _)=N2;refine kj (λr σ G'=>xc λ(j c':Nat) (ws:List Str) (v:Option D)=>VM (j+c'=sz) (r=cn (j:Int) c') (eV st G G') (G' nh=some (.lst ((six++ns).map D.str))) (G' p=some (.lst (ws.map .str))) (ws.length=j) (∀w∈ws,w.length=1) (σ=[v,some (.str (C4 "abcdefghijklmnopqrstuvwxyz")),some (.ref st)])) #[0,sz,[],none,(),rfl,A2.new hp,by rw[av rG];exact k2,aC,rfl,by simp,rfl] ?_ ?_
    ·rintro σ G3 ⟨j,c',ws,v,e5,e6,A3,k3,oV,Tr,pK,rfl⟩
     have hc:c'=0:=by
      cases c' with
      | zero=>rfl
      | succ c=>rw[lG] at e6;cases e6
     have Tz:(jn Y2 ws).length=sz:=by rw[wz6,wz5 pK];(clear pK oV k3 e6 sC gS rG fp np hp me jM hsz k2 b2 b1 ih e hw hl k1 hN s1 nn jw fX post eD iD;omega)
     have gX:Z6 ((ws.toArray).foldl (·+·.length+Y2.length) 0)=false:=by
      have:∀(l:List Str) (n:Nat),(∀w∈l,w.length=1)->l.foldl (·+·.length+Y2.length) n=n+l.length:=by
       intro l
       induction l with
       | nil=>intro n _;rfl
       | cons w l ih=>intro n h;rw[VD,ih _ λv hv=>h v (C7 _ hv),h w (D3 ..),C1];show n+1+0+l.length=_;omega
      rw[List.foldl_toArray,this ws 0 pK];unfold Z6;exact decide_eq_false (Nat.not_lt.mpr (O2 (C8 (m:=1000) (by(clear this pK oV k3 e6 sC gS rG fp np hp me jM k2 ih e hw hl k1 hN s1 nn jw fX post eD iD;omega)) ∅)))
     refine#[trivial,Y2,p,ws,rfl,rfl,by rw[oV];rfl,gX,by rw[Tz];exact O2 (C8 (m:=1000) (by(clear gX pK oV k3 e6 sC gS rG fp np hp me jM k2 ih e hw hl k1 hN s1 nn jw fX post eD iD;omega)) ∅),?_];obtain⟨nm,Aa⟩:∃nm,nm=jn Y2 ws:=#[_,rfl];rw[<- Aa] at Tz⊢;rw[<- sC];dsimp!;refine#[nm,rfl,O2 (C8 (m:=1000) (by(clear Aa gX pK oV k3 e6 sC gS rG fp np hp me jM k2 ih e hw hl k1 hN s1 nn jw fX post eD iD;omega)) ∅),λbg hbg=>?_];dsimp!;refine#[#[∅,∅],?_];generalize Cb:Go (AZ (Ce "list" Di _ _) _)=N3;refine lE (λr σ G'=>xc λ(t uZ:Nat) (nm:Str) (v7:Option D)=>yO (t+uZ=26) (r=cn (t:Int) uZ) (G'=G3) (nm.length<=20) (nm∉six++ns\/∀i,i<t->i6 bg i∈six++ns) (σ=[some (.ref st),some (.int (m:Int)),some (.str (C4 "abcdefghijklmnopqrstuvwxyz")),some (.ref nh),some (.int (i:Int)),some (.str nm),some (.str bg),v7,none,none])) #[0,26,nm,_,(),rfl,rfl,by(clear Cb hbg Aa gX pK oV k3 e6 sC gS rG fp np hp me jM k2 ih e hw hl k1 hN s1 nn jw fX post eD iD;omega),.inr λi hi=>absurd hi (Nat.not_lt_zero _),rfl] ?_ ?_
     ·rintro σ G4 ⟨t,uZ,nm,v7',e7,e8,rfl,Ab,rL,rfl⟩
      have hc:uZ=0:=by
       cases uZ with
       | zero=>rfl
       | succ c=>rw[lG] at e8;cases e8
      refine#[trivial,?_];have ht:t=26:=()
      subst ht;have gn:=vh4 (by rw[B4];omega) rL;rw[<- Cb];dsimp![k3];refine#[by rw[B0,B4];exact C8 (m:=1000) () ∅,ih _ _ #[i+1,c,ns++[nm],_,_,_,_,(),by congr 1,A3.own jw k3 nn,by rw[aC,<- E2,B9 (l₁:=six++ns)];rfl,by simp[hl],?_,?_,rfl]]
      ·rw[<- E2]
       refine MZ.mpr #[x8,O9.mpr #[by simp,C24],λa ha b hb e=>gn ?_];rw[<- J9.mp hb,<- e];exact ha
      ·intro w zQ
       rcases K1.mp zQ with h|h
       ·exact hw w h
       ·rw[J9.mp h];exact Ab
     ·rintro z r σ G4 ⟨t,uZ,nm,v7',e7,e8,rfl,Ab,rL,rfl⟩ wq
      cases uZ with
      | zero=>cases e8
      | succ uZ =>
       rw[lG] at e8;cases e8;refine#[trivial,?_];dsimp!;unfold jl;simp only[k3,bt,Ga];refine iJ (λq=>?_) (λq=>?_)
       ·have GA:nm∈six++ns:=by simpa using q
        have jg:=Xp (x:=(t:Int)) () ();rw[Q4] at jg;unfold kg AY;simp only[jg];have hz:(C4 "z").length=1:=rfl;refine#[O2 (C8 (m:=1000) (by(clear jg wq e7 rL Ab oV k3 Cb Aa gX pK e6 sC gS rG fp np hp me jM k2 ih e hw hl k1 hN s1 nn jw fX post eD iD;omega)) ∅),fX,?_,?_]
        ·rw[gS,hz]
         exact O2 (C8 (m:=1000) (by show bg.length+1+1<=1000;(clear hz jg wq e7 rL Ab oV k3 Cb Aa gX pK e6 sC gS rG fp np hp me jM k2 ih e hw hl k1 hN s1 nn jw fX post eD iD;omega)) ∅)
        ·refine wq _ _ #[t+1,uZ,i6 bg t,_,(),by congr 1,rfl,?_,?_,rfl]
         ·unfold i6
          rw[gS,gS,hz]
          show bg.length+1+1<=20
          (clear hz jg wq e7 rL Ab oV k3 Cb Aa gX pK e6 sC gS rG fp np hp me jM k2 ih e hw hl k1 hN s1 nn jw fX post eD iD;omega)
         ·by_cases hct:i6 bg t∈six++ns
          ·refine .inr λi hi=>?_
           rcases Cw i t with h|h
           ·rcases rL with h'|h'
            ·exact absurd GA h'
            ·exact h' i h
           ·rw[show i=t by(clear hz jg wq rL Ab oV k3 Cb hbg Aa Tz gX hc pK Tr e6 e5 sC gS rG fp np hp me jM hsz k2 b2 b1 ih e hw hl k1 hN s1 nn jw fX post eD iD;omega)];exact hct
          ·exact .inl hct
       ·have GA:nm∉six++ns:=by simpa using q
        exact wq _ _ ⟨t+1,uZ,nm,_,(),by congr 1,rfl,Ab,.inl GA,rfl⟩
    ·rintro z r σ G3 ⟨j,c',ws,v,e5,e6,A3,k3,oV,Tr,pK,rfl⟩ wq
     cases c' with
     | zero=>cases e6
     | succ c' =>
      rw[lG] at e6;cases e6;refine#[trivial,?_];simp!;refine gG A3.at_ ∅ ∅ λx3 G4 a4 c1 c2=>?_
      have jg:=Xp c1 c2;have A4:=A3.trans a4;have k4:=a4.kp _ _ nn k3;have Sy:=a4.kp _ _ np oV;refine#[fX,?_];rw[jg];simp![Sy];refine#[by rw[B0];exact C8 (m:=1000) (by(clear Sy k4 jg c2 c1 wq pK oV k3 sC gS rG fp np hp me jM k2 ih e hw hl k1 hN s1 nn jw fX post eD iD;omega)) ∅,wq _ _ #[j+1,c',ws++[#[[97+x3.toNat].toArray]],_,(),by congr 1,A4.own fp Sy np,by rw[av rG];exact k4,by rw[aC,B9];rfl,by simp[Tr],?_,rfl]];intro w zQ
      rcases K1.mp zQ with h|h
      ·exact pK w h
      ·rw[J9.mp h];rfl
theorem wv1{n:Nat}(bc:n<*T.d7.1<*uv):n+1<*T.jV.1<*qd:=by
 refine dk T.jV.1 oC (λ_ _ _ _ _ _ hr =>
   (au (aQ 2 oC.nd (ek bc hr #v[!0,aA]))
   (au (aT (bO (aV hr) (!2) aA (ah _)) (aE (bj (bR bQ (dU #v[aA,(aP iw (aP CZ aA (!1)) aA)]) (ek bc hr #v[!0,aA])))) cU)
   (au (aT (bO (aV hr) (!2) aA (ah _)) (aE (bj (aP uy (ek bc hr #v[!0,aA]) (aP CZ aA (!1))))) cU)
   (aE (bj (ek bc hr #v[!0,(aP CZ aA (!1))]))))))) (λds G R h=>?_)
 ·obtain⟨st,W,rfl,S,hW,post⟩:=h
  have hP:=pw W;have hC:nO 1 (W:Int):=#[(),(),∅];have hp:=Lk hW;have h0:=Nat.two_pow_pos W;obtain⟨P,hPe⟩:∃P,P=2^W:=#[_,rfl];rw[<- hPe] at hP hp h0 post;simp!;refine gG S ∅ ∅ λx1 G1 a1 b1 b2=>?_
  simp!;dsimp![hP];refine iJ (λq0=>?_) (λq0=>?_)
  ·refine#[hC,∅,λp c_=>?_]
   have A2:=a1.new (o:=.lst [D.int 0,D.int ((P:Int)-1)]) c_;have n2:=a1.at_.ne c_
   refine gG A2.at_ ∅ ∅ λx2 G3 a3 c1 c2=>?_
   have k3:=a3.kp _ _ n2 aC;obtain⟨v,ev,hv⟩:∃v:Nat,da [D.int 0,D.int ((P:Int)-1)] x2=some (.int (v:Int))/\v<P:=by
    have:x2=0\/x2=1:=()
    rcases this with e|e <;> subst e
    ·exact⟨0,rfl,h0⟩
    ·exact⟨P-1,by show some (D.int ((P:Int)-1))=_;rw[show((P-1:Nat):Int)=(P:Int)-1 by omega],()⟩
   simp![k3,ev];exact post v _ hv (A2.trans a3)
  ·dsimp![hP]
   refine iJ (λq1=>?_) (λq1=>?_)
   ·refine gG a1.at_ ∅ ∅ λx2 G3 a3 c1 c2=>?_
    simp!;refine#[hC,(),?_];obtain⟨x2,rfl⟩:=nU c1;rw[<- Int.natCast_emod];exact post _ _ (D04 _ h0) (a1.trans a3)
   ·dsimp![hP]
    refine#[hC,?_];refine gG a1.at_ () () λx2 G3 a3 c1 c2=>?_
    obtain⟨x2,rfl⟩:=nU c1;exact post _ _ () (a1.trans a3)
theorem wv7{n:Nat}(bc:n<*T.d7.1<*uv)(ud:n<*T.jV.1<*qd):n+1<*T.mY.1<*qe:=by
 refine dk T.mY.1 Ye (λ_ _ _ _ _ _ hr =>
   (au (aT (bO (aV hr) (ek bc hr #v[!0,aA]) aA (ah _)) (aE (bj (ek ud hr #v[!0,!2]))) cU)
   (aE (bj (bR bQ (!1) (ek bc hr #v[!0,(cN eL rfl T.aX ∅ #v[!1])])))))) (λds G R h=>?_)
 ·obtain⟨st,W,bs,rfl,S,hW,h1,h2,post⟩:=h
  simp!;refine gG S ∅ ∅ λx1 G1 a1 b1 b2=>?_
  simp![B0];refine iJ (λh0=>?_) (λh0=>?_)
  ·exact bM #[_,_,rfl,a1.at_,hW,λi G2 hi a2=>post (.num i) G2 hi (a1.trans a2)]
  ·dsimp![B0]
   refine gG a1.at_ () () λx2 G3 a3 c1 c2=>?_
   obtain⟨x2,rfl⟩:=nU c1;obtain⟨b,hb⟩:∃b,bs[x2]?=some b:=#[_,B7 ()];have eb:da (bs.map D.str) (x2:Int)=some (.str b):=uB (by rw[F0,hb];rfl);simp![eb];exact post (.box b) _ (K4 hb) (a1.trans a3)
theorem wv3{n dp:Nat}(nN:n<*T.gw.1<*fe dp):n+1<*T.gw.1<*fe (dp+1):=by
 refine dk T.gw.1 fI (λ_ _ _ _ _ _ hr =>
   (au (aQ 1 fI.nd aA)
   (au (lB (jG (!0)) (c8 2 fI.nd) (au (aT (bO (aV hr) (¬2) aZ (ah _)) (aE (aQ 1 fI.nd (aP cG (!1) (aP nR (¬2) (ek nN hr #v[¬2]))))) (aE (aQ 1 fI.nd (aP cG (!1) aA))))
   (aE (aT (bO (aV hr) (¬2) aZ (ah _)) (aE (aQ 1 fI.nd (aP cG (aP cG (!1) (ek nN hr #v[¬2])) (ek nN hr #v[¬2])))) cU))))
   (aE (bj (!1)))))) (λds G R h=>?_)
 ·obtain⟨d,rs,rfl,h0,GI,SS,jx,post⟩:=h
  simp!;simp only[Go,ij];refine Xy h0 rfl λok gP=>?_
  generalize hN:Go (nj _ _)=N;refine lE (λr σ G'=>∃(l t:List aq) (v2:Option D),l++t=rs/\r=bB t/\G'=G/\σ=[some d,some (.int (bX l:Int)),v2]) #[[],rs,none,rfl,rfl,rfl,rfl] ?_ ?_
  ·rintro σ G1 ⟨l,t,v2,e,e2,rfl,rfl⟩
   have ht:t=[]:=by
    cases t with
    | nil=>rfl
    | cons x t=>cases e2
   subst ht;rw[E4] at e;subst e;refine#[gP _ h0,?_];rw[<- hN];dsimp!;exact post
  ·rintro z r σ G1 ⟨l,t,v2,e,e2,rfl,rfl⟩ ih
   cases t with
   | nil=>cases e2
   | cons r0 t =>
    cases e2;refine#[gP _ h0,?_];have hm:r0∈rs:=by rw[<- e];simp
    have z_:=Ka GI hm;have SU:=Kr hm;have mh:=Dj (MY jx) r0 hm;have kJ:∀{k:Int},k=((bX l+kh r0:Nat):Int)->∃(l' t':List aq) (v2:Option D),l'++t'=rs/\bB t=bB t'/\G1=G1/\[some d,some (.int k),some (cI r0)]=[some d,some (.int (bX l':Int)),v2]:=λ{k} ek=>#[l++[r0],t,some (cI r0),by rw[<- e];simp,rfl,rfl,by rw[ek,zi];rfl]
    cases r0 with
    | is x a =>
     have d1:(C4 "is" = C4 "choose")=False:=eq_false ∅;have d2:(C4 "is" = C4 "times")=False:=eq_false ∅;simp![cI,d2];dsimp![d1];exact ih _ _ (kJ (by show _=((bX l+1:Nat):Int);omega))
    | op x o a c =>
     have d1:(C4 "op" = C4 "choose")=False:=eq_false ∅;have d2:(C4 "op" = C4 "times")=False:=eq_false ∅;simp![cI,d2];dsimp![d1];exact ih _ _ (kJ (by show _=((bX l+1:Nat):Int);omega))
    | eF a ys ns =>
     obtain⟨Gu,Gx⟩:hJ ys/\hJ ns:=z_;have jy:1+max (aS ys) (aS ns)<=dp:=mh;have fW:kh (.eF a ys ns)=1+bX ys+bX ns:=rfl;have d2:(C4 "choose" = C4 "times")=False:=eq_false ∅;simp![cI,d2];dsimp!;refine rC (v:=.int (bX ys:Int)) (G1:=G1) (λR h=>#[.tup (bB ys),ys,rfl,rfl,Gu,(),(),h]) ?_;simp!;refine rC (v:=.int (bX ns:Int)) (G1:=G1) (λR h=>#[.tup (bB ns),ns,rfl,rfl,Gx,(),(),h]) ?_;simp!;exact ih _ _ (kJ (by rw[fW];omega))
    | gV k ys =>
     have jy:1+aS ys<=dp:=mh;have fW:kh (.gV k ys)=k*bX ys:=rfl;have d1:(C4 "times" = C4 "choose")=False:=eq_false ∅;simp![cI];refine rC (v:=.int (bX ys:Int)) (G1:=G1) (λR h=>#[.tup (bB ys),ys,rfl,rfl,z_.2.1,z_.1,(),h]) ?_;simp!;have hk:=z_.2.2;refine#[zd () (),?_];dsimp![d1];exact ih _ _ (kJ (by rw[fW];rw[Int.natCast_add,Int.natCast_mul]))
theorem wu9{n dp:Nat}(bc:n<*T.d7.1<*uv)(yH:n<*T.mY.1<*qe)(j9:n<*T.gv.1<*fc dp):n+1<*T.mT.1<*lh dp:=by
 refine dk T.mT.1 fG (λ_ _ _ _ _ _ hr =>
   (au (vw (aP iw (¬5) aA) (xB (!5) aA xF))
   (au (aQ 6 fG.nd (ek bc hr #v[!0,aA]))
   (au (aQ 7 fG.nd (bR bQ (!1) (ek bc hr #v[!0,(cN eL rfl T.aX ∅ #v[!1])])))
   (au (aQ 8 fG.nd (ek yH hr #v[!0,!1,!2]))
   (au (aT (bO (jk) (!6) aA (ah _)) (aE (bj (bD #v[aZ,!7,!8]))) cU)
   (au (aT (rE (w_or (bO (jk) (!6) aA (ah _)) (w_or (bO (aV hr) (!3) aA (ah _)) (zc (bO (jk) (!4) aA (ah _)))))) (aE (bj (bD #v[aZ,!7,(bR bQ aZ (ek bc hr #v[!0,aA])),!8,(ek yH hr #v[!0,!1,!2])]))) cU)
   (au (aT (bO (jk) (!6) aA (ah _)) (au (aQ 9 fG.nd (ek j9 hr #v[!0,!1,!2,(aP iw (!3) aA),(aP PR (aP iw (!4) aA) aA),!5]))
   (aE (bj (bD #v[aZ,!8,!9,(ek j9 hr #v[!0,!1,!2,(aP iw (!3) aA),(aP PR (aP iw (!4) aA) aA),!5])])))) cU)
   (au (aQ 10 fG.nd (bR bQ (dU #v[(ek bc hr #v[!0,aA]),(ek bc hr #v[!0,aA])]) (lD KJ rfl T.i8 ∅ #v[(qw (aV hr) (ek bc hr #v[!0,aA]) aA (ah _))])))
   (aE (bj (bD #v[aZ,!10,(ek j9 hr #v[!0,!1,!2,(aP iw (!3) aA),(aP PR (!4) (cN wj3 rfl T.nA ∅ #v[aA,!10])),!5])])))))))))))) (λds G R h=>?_)
 ·obtain⟨st,sp,W,deep,room,bs,s,rfl,S,oM,qO,hW,h1,h2,hd,hd5,Lz,BQ,post⟩:=h
  simp![qO];have A0:=(iG.refl S qO).less (s':=s-1) qO oM;dsimp!;refine gG A0.at_ ∅ ∅ λx1 G1 a1 b1 b2=>?_
  simp!;dsimp![B0];refine gG a1.at_ () () λx2 G2 a2 c1 c2=>?_
  obtain⟨x2,rfl⟩:=nU c1;obtain⟨b,hb⟩:∃b,bs[x2]?=some b:=#[_,B7 ()];have eb:da (bs.map D.str) (x2:Int)=some (.str b):=uB (by rw[F0,hb];rfl);have LG:=K4 hb;simp![eb];dsimp!;refine Xq a2.at_ hW h1 h2 λa G3 ha a3=>?_
  have A3:=((A0.w_ a1 oM).w_ a2 oM).w_ a3 oM;simp!;dsimp!;refine iJ (λq=>?_) (λq=>?_)
  ·exact#[∅,post (.is b a) G3 #[LG,ha] trivial Lz (J8 _) A3]
  dsimp!;generalize hOP:@Exists _ _=OP;have op:OP:=by
   rw[<- hOP];refine gG A3.at_ ∅ ∅ λx3 G4 a4 d1 d2=>?_
   obtain⟨fm,rfl⟩:=nU d1;obtain⟨o,eo,ho⟩:∃o:Nat,da (C4 "+-&|^<=").cps.toList (fm:Int)=some o/\(⟨[o].toArray⟩:Str)∈L3.signs:=by
    have:fm=0\/fm=1\/fm=2\/fm=3\/fm=4\/fm=5\/fm=6:=()
    rcases this with e|e|e|e|e|e|e <;> subst e
    ·exact⟨43,∅,∅⟩
    ·exact⟨45,∅,∅⟩
    ·exact⟨38,∅,∅⟩
    ·exact⟨124,∅,∅⟩
    ·exact⟨94,∅,∅⟩
    ·exact⟨60,∅,∅⟩
    ·exact⟨61,∅,∅⟩
   have hx:∀(G:Gp) (q:DK),AY (.str (C4 "+-&|^<=")) (.int (fm:Int)) G q=(((C4 "+-&|^<=").length<=sizeLine)/\q (.str ⟨[o].toArray⟩) G):=λG q=>by
    show(_/\(match da (C4 "+-&|^<=").cps.toList (fm:Int) with|some c=>q (.str #[[c].toArray]) G|none=>False))=_
    rw[eo]
   simp![hx];refine#[∅,?_];refine Xq a4.at_ hW h1 h2 λc G5 hc a5=>?_
   simp!;exact#[∅,post (.op b _ a c) G5 #[LG,ho,ha,hc] trivial Lz (J8 _) ((A3.w_ a4 oM).w_ a5 oM)]
  refine iJ (λ_=>op) λq1=>?_
  simp!;refine iJ (λ_=>op) λq2=>?_
  simp!;refine iJ (λ_=>op) λq3=>?_
  clear op hOP OP;dsimp!;obtain⟨dm,hdm⟩:∃dm:Nat,deep=dm+1:=#[deep-1,()];refine iJ (λq4=>?_) (λq4=>?_)
  ·have yc:((room:Int)-1) / 2=(((room-1) / 2:Nat):Int):=()
   rw[yc,show((deep:Int)-1)=(dm:Int) by omega];refine#[by unfold CM;omega,?_];obtain⟨s3,hs3⟩:=A3.xT;refine bM #[_,_,_,_,_,_,_,rfl,A3.at_,oM,hs3,hW,h1,h2,(),(),(),λys G6 y1 y2 y3 y4 y5 a6=>?_];simp!;dsimp!;rw[yc,show((deep:Int)-1)=(dm:Int) by omega];refine#[by unfold CM;omega,?_];obtain⟨s4,hs4⟩:=a6.xT;refine bM #[_,_,_,_,_,_,_,rfl,a6.at_,oM,hs4,hW,h1,h2,(),(),(),λns G7 n1 n2 n3 n4 n5 a7=>?_];simp!;refine#[∅,post (.eF a ys ns) G7 #[ha,y1,n1] #[y2,n2] (by show 1+bX ys+bX ns<=room;omega) (by show 1+max (aS ys) (aS ns)<=deep;omega) ((A3.trans a6).trans a7)]
  ·dsimp!
   refine gG A3.at_ ∅ ∅ λt1 G4 a4 d1 d2=>?_
   refine gG a4.at_ ∅ ∅ λt2 G5 a5 d3 d4=>?_
   refine#[∅,λp hp=>?_];have A5:=(A3.w_ a4 oM).w_ a5 oM;have np:=A5.at_.ne hp
   have A6:=A5.grow (ax.refl.new (o:=.lst [D.int t1,D.int t2]) hp);refine gG A6.at_ ∅ ∅ λt3 G7 a7 d5 d6=>?_
   have k7:=a7.kp _ _ np aC;have A7:=A6.w_ a7 oM;obtain⟨t1,rfl⟩:=nU d1;obtain⟨t2,rfl⟩:=nU d3;simp!;obtain⟨k,hk,yb⟩:∃k:Nat,da [D.int (t1:Int),D.int (t2:Int)] (if decide (t3=1)=true then 1 else 0)=some (.int (k:Int))/\k<=20:=by
    by_cases z:t3=1
    ·rw[if_pos (decide_eq_true z)];exact#[t2,rfl,()]
    ·rw[if_neg (by simpa using z)];exact#[t1,rfl,()]
   simp![k7,hk];dsimp!;have Tp:(if(k:Int)>1 then(k:Int) else 1)=((max 1 k:Nat):Int):=by split <;> omega
   rw[show((deep:Int)-1)=(dm:Int) by omega];rw[Tp,show((room:Int) / ((max 1 k:Nat):Int))=((room / max 1 k:Nat):Int) by omega];refine#[by unfold CM;omega,?_];obtain⟨s7,hs7⟩:=A7.xT;have hle:room / max 1 k<=room:=Nat.div_le_self _ _;refine bM #[_,_,_,_,_,_,_,rfl,A7.at_,oM,hs7,hW,h1,h2,(),(),(),λys G8 y1 y2 y3 y4 y5 a8=>?_];have hml:k*bX ys<=room:=D6 (MO (Nat.le_max_right 1 k) y3) (Nat.mul_div_le _ _);exact#[∅,post (.gV k ys) G8 #[yb,y1] #[(),y2,yb] hml (by show 1+aS ys<=deep;omega) (A7.trans a8)]
theorem wu8{n dp:Nat}(bc:n<*T.d7.1<*uv)(nN:n<*T.gw.1<*WB)(Jc:n<*T.mT.1<*lh dp):n+1<*T.gv.1<*fc (dp+1):=by
 refine dk T.gv.1 iO (λ_ _ _ _ _ _ hr =>
   (au (aQ 6 iO.nd (dU lu))
   (au (lB (uA rfl T.bH #v[(ek bc hr #v[!0,(aP cG aA (cN YI rfl T.nz ∅ #v[!4,aA]))])]) (c8 7 iO.nd) (au (aQ 8 iO.nd (aP iw (!4) (ek nN hr #v[!6])))
   (aE (aT (rE (w_and (bO (n_) (!8) aA (ah _)) (Df (bO (n_) (¬5) aA (ah _))))) (aE (dW (qz (!6) #v[(ek Jc hr #v[!0,!1,!2,!3,!8,!5])]))) cU))))
   (aE (bj (lD zo rfl T.cR ∅ #v[!6])))))) (λds G R h=>?_)
 ·obtain⟨st,sp,W,deep,room,bs,s,rfl,S,oM,qO,hW,h1,h2,hd,hd5,uA0,post⟩:=h
  simp!;refine#[∅,λq hq=>?_];have nq:=S.ne hq;have nq2:q≠sp:=GO hq qO;dsimp!;have A1:=(iG.refl S qO).grow (ax.refl.new (o:=.lst []) hq);refine gG A1.at_ (by split <;> omega) (by split <;> omega) λx1 G1 a1 b1 b2=>?_
  have b3:x1<=4:=by
   revert b2
   split <;> intro b2 <;> omega
  obtain⟨cnt,rfl⟩:=nU b1;have k1:=a1.kp _ _ nq aC;have A2:=A1.w_ a1 oM;simp!;refine#[#[(),()],?_];generalize hN:Go (nj _ _)=N;refine lE (λr σ G'=>Hl λ(i c:Nat) (rs:List aq) (v6 v7:Option D)=>JC (i+c=cnt) (r=cn (i:Int) c) (iG st sp G G') (G' q=some (.lst (bB rs))) (dY W bs rs) (hJ rs) (bX rs<=room) (aS rs<=deep) (rs.length<=i) (σ=[some (.ref st),some (.tup (bs.map .str)),some (.int (W:Int)),some (.int (deep:Int)),some (.int (room:Int)),some (.ref sp),some (.ref q),v6,v7])) #[0,cnt,[],none,none,(),rfl,A2,k1,trivial,trivial,J8 _,J8 _,B8 _,rfl] ?_ ?_
  ·rintro σ G2 ⟨i,c,rs,v6,v7,e,e2,A3,k3,o1,o2,o3,o4,o5,rfl⟩
   refine#[trivial,?_];rw[<- hN];dsimp![k3];exact post rs G2 o1 o2 o3 o4 () A3
  ·rintro z r σ G2 ⟨i,c,rs,v6,v7,e,e2,A3,k3,o1,o2,o3,o4,o5,rfl⟩ ih
   cases c with
   | zero=>cases e2
   | succ c =>
    rw[lG] at e2;cases e2;refine#[trivial,?_];obtain⟨s2,cy⟩:=A3.xT;simp!;refine rC (v:=.int (bX rs:Int)) (G1:=G2) (λR h=>#[.ref q,rs,rfl,by show bt (G2 q)=_;rw[k3];rfl,o2,(),(),h]) ?_;simp!;dsimp![cy];refine iJ (λg=>?_) (λg=>?_)
    ·simp![cy]
     refine iJ (λg2=>?_) (λg2=>?_)
     ·rw[show((room:Int)-(bX rs:Int))=((room-bX rs:Nat):Int) by omega]
      simp![k3];refine rW (post:=λd G'=>∃r0:aq,d=cI r0/\qI W bs r0/\yj r0/\kh r0<=room-bX rs/\jB r0<=deep/\iG st sp G2 G') (λR h=>#[st,sp,W,deep,room-bX rs,bs,s2,rfl,A3.at_,oM,cy,hW,h1,h2,(),hd5,(),(),λr0 G' a b c d e=>h _ _ #[r0,rfl,a,b,c,d,e]]) ?_;rintro d G3 ⟨r0,rfl,p1,p2,p3,p4,a3⟩;have k4:=a3.kp _ _ nq nq2 k3;have A4:=A3.trans a3;simp![k4];have er:bB rs++[cI r0]=bB (rs++[r0]):=by rw[vD,vD,B9];rfl
      rw[er];have hl6:(bB (rs++[r0])).length=rs.length+1:=by rw[oo,B4];rfl
      have hl7:(bB rs).length=rs.length:=oo _;refine#[C8 (m:=1000) () ∅,ih _ _ #[i+1,c,rs++[r0],_,_,(),by congr 1,A4.put hq k4 nq nq2,aC,cP.mpr #[o1,p1,trivial],iF.mpr #[o2,p2,trivial],?_,?_,by rw[B4];show rs.length+1<=i+1;omega,rfl]]
      ·rw[zi];show bX rs+(kh r0+0)<=room;omega
      ·rw[xM];show max (aS rs) (max (jB r0) 0)<=deep;omega
     ·exact ih _ _ #[i+1,c,rs,_,_,(),by congr 1,A3,k3,o1,o2,o3,o4,(),rfl]
    ·exact ih _ _ #[i+1,c,rs,_,_,(),by congr 1,A3,k3,o1,o2,o3,o4,(),rfl]
theorem wu7{n dp:Nat}(i_:n<*T.ft.1<*fb dp):n+1<*T.ft.1<*fb (dp+1):=by
 refine dk T.ft.1 iN (λ_ _ _ _ _ _ hr =>
   (au (aQ 1 iN.nd (dU lu))
   (au (lB (jG (!0)) (c8 2 iN.nd) (aE (aT (bO (aV hr) (¬2) aZ (ah _)) (aE (aQ 1 iN.nd (aP cG (!1) (aP nR (ek i_ hr #v[¬2]) (¬2))))) (aE (aT (bO (aV hr) (¬2) aZ (ah _)) (aE (dW (qz (!1) #v[(bD #v[aZ,¬2,(lD zo rfl T.cR ∅ #v[(ek i_ hr #v[¬2])]),(lD zo rfl T.cR ∅ #v[(ek i_ hr #v[¬2])])])]))) (aE (dW (qz (!1) #v[!2]))))))))
   (aE (bj (!1)))))) (λds G R h=>?_)
 ·obtain⟨rs,rfl,hd,hb,hw,post⟩:=h
  simp!;refine#[∅,λp hp=>?_];dsimp!;refine lE (λr σ G'=>xc λ(l t:List aq) (p:Addr) (v2:Option D)=>yO (l++t=rs) (r=bB t) (G p=none) (ax G G') (G' p=some (.lst (bB (aF l)))) (σ=[some (.tup (bB rs)),some (.ref p),v2])) #[[],rs,p,none,rfl,rfl,hp,ax.refl.new hp,aC,rfl] ?_ ?_
  ·rintro σ G1 ⟨l,t,p,v2,e,e2,hp,g,kp,rfl⟩
   have ht:t=[]:=by
    cases t with
    | nil=>rfl
    | cons x t=>cases e2
   subst ht;rw[E4] at e;subst e;refine#[trivial,?_];dsimp!;exact post p G1 hp kp g
  ·rintro x r σ G1 ⟨l,t,p,v2,e,e2,hp,g,kp,rfl⟩ ih
   cases t with
   | nil=>cases e2
   | cons r0 t =>
    cases e2;refine#[trivial,?_];have hm:r0∈rs:=by rw[<- e];simp
    have mh:=Dj (MY hd) r0 hm;have SU:=Kr hm;have B_:=Ka hb hm;have FX:bX l+(kh r0+bX t)=bX rs:=by rw[<- e,zi];rfl
    have Ti:=Dp l;have pN:(bB (aF l)).length=(aF l).length:=oo _;have Gs:(dO r0).length<=kh r0:=by
     have:=Kg (dO r0);rw[Qi] at this;exact this
    generalize yg:forL _ _ _ _ (bB t)=FL at ih⊢;have kJ:∀G2 (p2:Addr),G p2=none->ax G G2->G2 p2=some (.lst (bB (aF l)++bB (dO r0)))->∀(v2:Option D),FL [some (.tup (bB rs)),some (.ref p2),v2] G2:=λG2 p2 h2 g2 k2 v2=>ih _ _ #[l++[r0],t,p2,v2,by rw[<- e];simp,rfl,h2,g2,by rw[k2,KQ,<- DA];simp[aF],rfl]
    cases r0 with
    | is x a =>
     have d1:(C4 "is" = C4 "choose")=False:=eq_false ∅;have d2:(C4 "is" = C4 "times")=False:=eq_false ∅;simp![cI,d1,d2,kp];exact#[C8 (m:=10000000) () ∅,kJ _ p hp (g.own hp) (by rw[aC];rfl) _]
    | op x o a b =>
     have d1:(C4 "op" = C4 "choose")=False:=eq_false ∅;have d2:(C4 "op" = C4 "times")=False:=eq_false ∅;simp![cI,d1,d2,kp];exact#[C8 (m:=10000000) () ∅,kJ _ p hp (g.own hp) (by rw[aC];rfl) _]
    | eF a ys ns =>
     have d2:(C4 "choose" = C4 "times")=False:=eq_false ∅;simp![cI,d2,kp];have jy:1+max (aS ys) (aS ns)<=dp:=mh;have zQ:1+bX ys+bX ns<=bX rs:=SU;refine bM #[_,rfl,(),B_.1,(),λq1 G2 f1 k1 g2=>?_];simp![k1,bt];refine bM #[_,rfl,(),B_.2,(),λq2 G3 f2 k2 g3=>?_];have oV:=(g2.trans g3).kp _ _ kp;simp![k2,bt,oV];exact#[∅,C8 (m:=10000000) () ∅,kJ _ p hp ((g.trans (g2.trans g3)).own hp) (by rw[aC];rfl) _]
    | gV k ys =>
     have jy:1+aS ys<=dp:=mh;simp![cI];refine bM #[_,rfl,(),B_.2.1,B_.1,λq1 G2 f1 k1 g2=>?_];have wd:=g2.kp _ _ kp;simp![k1];have hoy:=Dp ys;have hk:k<=20:=B_.2.2;have BU:(aF ys).length*k=(dO (.gV k ys)).length:=by
      show _=(D0 k (aF ys)).flatten.length
      rw[len_rep,MC]
     have hz:=B_.1;have Tt:(bB (aF ys)).length*k=(dO (.gV k ys)).length:=by rw[oo];exact BU
     have uA5:(D0 k (bB (aF ys))).flatten.length=(dO (.gV k ys)).length:=by rw[len_rep,MC];exact Tt
     refine#[#[(),(),D6 (m:=10000001) () ∅],λq3 h3=>?_];have np:p≠q3:=aU wd h3;have g4:=(g.trans g2).new (o:=.lst (D0 k (bB (aF ys))).flatten) h3;refine add_l (by rw[av np];exact wd) aC () λq4 h4=>kJ _ q4 (g4.none h4) (g4.new h4) ?_ _
     rw[aC,Rh];rfl
theorem wv0{n:Nat}(bc:n<*T.d7.1<*uv)(Je:n<*T.mV.1<*tL)(j9:n<*T.gv.1<*WC)(i_:n<*T.ft.1<*NG):n+1<*T.mU.1<*tK:=by
 refine dk T.mU.1 fH (λ_ _ _ _ _ _ hr =>
   (au (aQ 1 fH.nd (aP cG aA (bR bQ (dU #v[(ek bc hr #v[!0,aA]),(ek bc hr #v[!0,aA])]) (lD KJ rfl T.i8 ∅ #v[(qw (aV hr) (ek bc hr #v[!0,aA]) aA (ah _))]))))
   (au (aQ 2 fH.nd (ek Je hr #v[!0,(aP cG aA (bR bQ (dU #v[(ek bc hr #v[!0,aA]),(ek bc hr #v[!0,aA])]) (lD KJ rfl T.i8 ∅ #v[(qw (aV hr) (ek bc hr #v[!0,aA]) aA (ah _))])))]))
   (au (aQ 3 fH.nd (bR bQ (dU #v[aA,aA]) (lD KJ rfl T.i8 ∅ #v[(Ba (qw (aV hr) (ek bc hr #v[!0,aA]) aA (ah _)) (y_ (qw (jk) (!1) aA (ah _))))])))
   (au (aQ 4 fH.nd (aP YF (ek j9 hr #v[!0,!2,!1,aA,!3,(dU #v[aA])]) (ek j9 hr #v[!0,!2,!1,aA,aA,(dU #v[aA])])))
   (au (aT (bO (aV hr) (cN eL rfl T.aX ∅ #v[(ek i_ hr #v[!4])]) aA (ah _)) (aE (aQ 4 fH.nd (aP YF (!4) (bD #v[(bD #v[aZ,¬2,aZ,(bR bQ (!2) (qW CY aA)),aA])])))) cU)
   (aE (bj (bD #v[!1,!2,!4]))))))))) (λds G R h=>?_)
 ·obtain⟨st,rfl,S,post⟩:=h
  simp!;refine gG S ∅ ∅ λx1 G1 a1 b1 b2=>?_
  refine gG a1.at_ ∅ ∅ λx2 G2 a2 b3 b4=>?_
  refine#[∅,λp hp=>?_];have A2:=a1.trans a2;have np:=A2.at_.ne hp
  have A3:=A2.new (o:=.lst [D.int x1,D.int x2]) hp;refine gG A3.at_ ∅ ∅ λx3 G3 a3 b5 b6=>?_
  have k3:=a3.kp _ _ np aC;have A4:=A3.trans a3;obtain⟨x1,rfl⟩:=nU b1;obtain⟨x2,rfl⟩:=nU b3;simp!;obtain⟨W,hW1,hW2⟩:∃k:Nat,da [D.int (x1:Int),D.int (x2:Int)] (if decide (x3=1)=true then 1 else 0)=some (.int (k:Int))/\k<=15:=by
   by_cases z:x3=1
   ·rw[if_pos (decide_eq_true z)];exact#[x2,rfl,()]
   ·rw[if_neg (by simpa using z)];exact#[x1,rfl,()]
  simp![k3,hW1];dsimp!;refine gG A4.at_ ∅ ∅ λy1 G5 a5 c1 c2=>?_
  refine gG a5.at_ ∅ ∅ λy2 G6 a6 c3 c4=>?_
  refine#[∅,λp6 LA=>?_];have A6:=(A4.trans a5).trans a6;have np6:=A6.at_.ne LA
  have A7:=A6.new (o:=.lst [D.int y1,D.int y2]) LA;refine gG A7.at_ ∅ ∅ λy3 G8 a8 c5 c6=>?_
  have k8:=a8.kp _ _ np6 aC;have A8:=A7.trans a8;obtain⟨y1,rfl⟩:=nU c1;obtain⟨y2,rfl⟩:=nU c3;simp!;obtain⟨mb,iD,eD⟩:∃k:Nat,da [D.int (y1:Int),D.int (y2:Int)] (if decide (y3=1)=true then 1 else 0)=some (.int (k:Int))/\k<=5:=by
   by_cases z:y3=1
   ·rw[if_pos (decide_eq_true z)];exact#[y2,rfl,()]
   ·rw[if_neg (by simpa using z)];exact#[y1,rfl,()]
  simp![k8,iD];rw[show((1:Int)+(mb:Int))=((mb+1:Nat):Int) by omega];refine bM #[st,mb+1,rfl,A8.at_,(),(),λbs G9 hbl _ x8 a9=>?_];have A9:=A8.trans a9;simp!;dsimp!;refine#[∅,λp10 TX=>?_];have xw:=A9.new (o:=.lst [D.int 5,D.int 9]) TX;have uL:=A9.at_.ne TX
  refine gG xw.at_ ∅ ∅ λz1 lO Hk u1 u2=>?_
  have zJ:=Hk.kp _ _ uL aC;have xv:=xw.trans Hk;generalize hu:ij (i5 (Av J_ _ _) (rS 4)) _=u;simp![zJ,bt];have rest:∀rm:Nat,rm<=9->Go (u { nx:=λx G'=>R D.non G',rt:=R}) [some (.ref st),some (.int (1+(W:Int))),some (.tup (bs.map .str)),some (.int (rm:Int)),none] lO:=by
   intro rm hrm;subst hu;rw[show((1:Int)+(W:Int))=((W+1:Nat):Int) by omega];dsimp!;refine#[∅,λBK LL=>?_];have Sl:=xv.at_.ne LL
   have Ho:=xv.at_.new (o:=.lst [D.int 20]) LL
   refine bM #[_,_,_,3,_,_,_,rfl,Ho,Sl,aC,(),(),(),∅,∅,(),λrs AF r1 r2 r3 r4 r5 LW=>?_];have Cz:eV st G AF:=xv.trans #[LW.at_,λb o hb e=>LW.kp _ _ hb (aU e LL) (by rw[av (aU e LL)];exact e)];simp!;refine#[∅,λLl LK=>?_];have Lq:=Cz.at_.ne LK
   have S14:=Cz.at_.new (o:=.lst [D.int 5]) LK
   refine bM #[_,_,_,1,3,_,_,rfl,S14,Lq,aC,(),(),(),∅,∅,(),λr8 Cn q1 q2 q3 q4 q5 a15=>?_];have uq:eV st G Cn:=Cz.trans #[a15.at_,λb o hb e=>a15.kp _ _ hb (aU e LK) (by rw[av (aU e LK)];exact e)];rw[up6,<- DA];refine#[D6 (m:=8) (by rw[oo,oo];omega) ∅,?_];have bd:hJ (rs++r8):=iF.mpr #[r2,q2];have okk:dY (W+1) bs (rs++r8):=cP.mpr #[r1,q1];have dp3:aS (rs++r8)<=3:=by rw[xM];omega
   have wt3:bX (rs++r8)<=12:=by rw[zi];omega
   have ln3:(rs++r8).length<=8:=by rw[B4];omega
   generalize rs++r8=rr at *;dsimp!;refine bM #[_,rfl,(),bd,(),λq16 UM f16 Lu g16=>?_];have A16:=uq.grow g16;simp![Lu,bt];have LC:(bB (aF rr)).length=(aF rr).length:=oo _;rw[LC]
   by_cases hz:(aF rr).length=0
   ·rw[if_pos (decide_eq_true ())]
    obtain⟨b0,br,rfl⟩:∃b0 br,bs=b0::br:=by
     cases bs with
     | nil=>cases hbl
     | cons a b=>exact#[a,b,rfl]
    obtain⟨bl,TM,LG⟩:∃bl,da ((b0::br).map D.str) (-1)=some (.str bl)/\bl∈b0::br:=by
     refine#[(b0::br).getLast (by simp),?_,List.getLast_mem _];have e:=List.dropLast_concat_getLast (l:=b0::br) (by simp);generalize (b0::br).getLast (by simp)=z at e⊢;rw[<- e,B9];exact ZK
    rw[TM,C0,NH];refine#[∅,∅,?_];rw[up6];refine#[D6 (m:=1000) (by rw[oo];show _+1<=_;omega) ∅,?_];dsimp!;have er:bB rr++[D.tup [.str (C4 "op"),.str b0,.str (C4 "+"),.str bl,.int 1]]=bB (rr++[aq.op b0 (C4 "+") (hV.box bl) (hV.num 1)]):=by rw[DA];rfl
    rw[er];refine#[∅,post (W+1) (b0::br) (rr++[aq.op b0 (C4 "+") (hV.box bl) (hV.num 1)]) UM () () () () x8 (cP.mpr #[okk,#[#[by simp,by simp[signs],LG,Nat.one_lt_two_pow ()],trivial]]) (iF.mpr #[bd,show hJ [aq.op b0 (C4 "+") (hV.box bl) (hV.num 1)] from #[show yj (aq.op b0 (C4 "+") (hV.box bl) (hV.num 1)) from trivial,trivial]]) (by rw[xM];show max _ (max 0 0)<=3;omega) (by rw[zi];show _+(1+0)<=20;omega) ?_ A16];rw[KQ];intro e;have e2:=congrArg F9 e;rw[B4] at e2;simp[aF,dO] at e2
   ·rw[if_neg (by rw[decide_eq_false ()];decide)]
    dsimp!;exact#[∅,post (W+1) bs rr UM () () () () x8 okk bd dp3 () (λe=>hz (by rw[e];rfl)) A16]
  by_cases hz:z1=1
  ·rw[if_pos (decide_eq_true hz)]
   by_cases hw:(1:Int)+(W:Int)<5
   ·rw[decide_eq_true hw,if_pos rfl]
    exact rest 9 ∅
   ·rw[decide_eq_false hw,if_neg ∅]
    exact rest 5 ∅
  ·rw[if_neg (by simpa using hz)]
   exact rest 5 ∅
theorem wv6{n:Nat}(bc:n<*T.d7.1<*uv):n+1<*T.mX.1<*tN:=by
 refine dk T.mX.1 fJ (λ_ _ _ _ _ _ hr =>
   (au (aQ 3 fJ.nd (aP cG aA (ek bc hr #v[!0,(cN YI rfl T.nz ∅ #v[!1,!2])])))
   (au (aQ 4 fJ.nd (dU lu))
   (au (aQ 5 fJ.nd (!1))
   (au (lB (uA rfl T.bH #v[(aP iw (!3) aA)]) (c8 6 fJ.nd) (au (dW (qz (!4) #v[(aP cG aA (ek bc hr #v[!0,(aP iw (!5) (aP iw (aP iw (!3) aA) (!6)))]))]))
   (aE (aQ 5 fJ.nd (aP iw (!5) (bR bQ (!4) (qW CY aA)))))))
   (aE (bj (aP cG (!4) (dU #v[!5]))))))))) (λds G R h=>?_)
 ·obtain⟨st,m,mx,rfl,S,h1,h2,h3,h4,post⟩:=h
  simp!;refine gG S (by split <;> omega) (by split <;> omega) λx1 G1 a1 b1 b2=>?_
  obtain⟨n1,rfl⟩:=nU b1;have b3:n1+1<=m/\n1+1<=mx:=by
   revert b2
   split <;> intro b2 <;> omega
  simp!;dsimp!;refine#[∅,λp hp=>?_];have np:=a1.at_.ne hp
  have Gm:=a1.none hp np;have A1:=a1.new (o:=.lst []) hp;dsimp!;dsimp!;rw[show((1:Int)+(n1:Int)-1)=(n1:Int) by omega];refine#[#[(),()],?_];rw[Q4];generalize hN:Go (nj _ _)=N;refine lE (λr σ G'=>Hl λ(i c:Nat) (ks:List Nat) (left:Nat) (v6:Option D)=>VL (i+c=n1) (r=cn (i:Int) c) (eV st G G') (G' p=some (.lst ((nI ks).map .int))) (ks.length=i) (∀k∈ks,1<=k) (ks.sum+left=m) (c+1<=left) (σ=[some (.ref st),some (.int (m:Int)),some (.int (mx:Int)),some (.int (1+(n1:Int))),some (.ref p),some (.int (left:Int)),v6])) #[0,n1,[],m,none,(),rfl,A1,aC,rfl,(λk h=>nomatch h),by simp,(),rfl] ?_ ?_
  ·rintro σ G2 ⟨i,c,ks,left,v6,e,e2,A2,k2,hl,hk,hs,hc,rfl⟩
   have hc0:c=0:=by
    cases c with
    | zero=>rfl
    | succ c=>rw[lG] at e2;cases e2
   subst hc0;refine#[trivial,?_];rw[<- hN];dsimp!;refine#[∅,λp2 h2=>?_];have n2:p≠p2:=aU k2 h2;have n3:=A2.at_.ne h2
   have A3:=A2.new (o:=.lst [.int (left:Int)]) h2;refine add_l (by rw[av n2];exact k2) aC (by unfold nI;rw[B0,B0];show _+1<=_;omega) λp3 h3=>?_
   have n4:=A3.at_.ne h3
   refine post p3 (ks++[left]) _ #[by simp,λk h=>?_,by rw[Y0];simp;omega] (by rw[B4];show _+1<=_;omega) n4 (A3.none h3 n4) (by rw[aC];unfold nI;rw[B9,B9];rfl) (A3.new h3)
   rcases K1.mp h with h|h
   ·exact hk k h
   ·rw[J9.mp h];omega
  ·rintro z r σ G2 ⟨i,c,ks,left,v6,e,e2,A2,k2,hl,hk,hs,hc,rfl⟩ ih
   cases c with
   | zero=>cases e2
   | succ c =>
    rw[lG] at e2;cases e2;refine#[trivial,?_];simp![k2];refine gG A2.at_ () () λx1 G3 a3 d1 d2=>?_
    obtain⟨x1,rfl⟩:=nU d1;have k3:=a3.kp _ _ np k2;simp![k3];refine#[C8 (m:=1000) (by unfold nI;rw[B0,B0];omega) ∅,?_];dsimp![aC,ZK];rw[show((left:Int)-(1+(x1:Int)))=((left-(x1+1):Nat):Int) by omega];refine ih _ _ #[i+1,c,ks++[x1+1],left-(x1+1),_,(),by congr 1,(A2.trans a3).own Gm k3 np,by rw[aC];unfold nI;rw[B9,B9];simp;omega,by rw[B4,hl];rfl,λk h=>?_,by rw[Y0];simp;omega,(),rfl]
    rcases K1.mp h with h|h
    ·exact hk k h
    ·rw[J9.mp h];omega
theorem wu6{n:Nat}:n+1<*T.mS.1<*tJ:=by
 refine dk T.mS.1 Yf (λ_ _ _ _ _ _ hr =>
   (aE (bj (Ba (cN KW rfl T.bW ∅ #v[!0,(Kd (T := "int") T.i8 ∅)]) (y_ (JR (cN KW rfl T.bW ∅ #v[!0,(Kd (T := "bool") T.pf ∅)]))))))) (λds G R h=>?_)
 ·obtain⟨i,rfl,post⟩:=h
  simp![zb];refine#[.inl trivial,?_];rw[if_pos ∅];exact#[.inr (.inr (.inl trivial)),post]
theorem wv4{n:Nat}(qu:n<*T.eU<*qm)(Jp:n<*T.gZ<*tQ):n+1<*T.mW.1<*tM:=by
 refine dk T.mW.1 kF (λ_ _ _ _ _ _ hr =>
   (au (aQ 3 kF.nd aA)
   (au (QC (rE (w_and (bO (ke hr) (lM T.aH.cl T.eU T.sj qu hr (!0)) (!1) (ah _)) (w_and (bO (jk) (!3) (!2) (ah _)) (Df (rT (lM T.aH.cl T.gZ T.FH Jp hr (!0))))))) (aE (aQ 3 kF.nd (aP cG (!3) aA))))
   (aE (bj (!3)))))) (λds G R h=>?_)
 ·obtain⟨p,ra,ha,rs,bs,bz,s,z,sz,d,most,rfl,A,c,hp,hf,hd,post⟩:=h
  simp!;dsimp!;refine Rj (λm σ G'=>lN λ(k s:Nat) (cs:List Int)=>yO (m+k=d) (ji rs z bz s cs m) (jj sz rs cs s) (bC cS G' p ra ha rs cs s) (Kept p ha G G') (σ=[some (.ref p),some (.int (z:Int)),some (.int (most:Int)),some (.int (k:Int))])) (m:=d) #[0,s,bs,(),hf,c,A,Kept.refl,rfl] ?_;rintro m σ G' N ⟨k,s,cs,em,hf,cc,A,kp,rfl⟩ ih;simp![A.ob,lF];refine bM #[p,ra,ha,rs,cs,s,rfl,A,?_];simp!;cases hf with
  | done =>
   rw[if_neg (by simp)];obtain rfl:k=d:=()
   simp?
   exact post G' A cc kp
  | @step _ _ m' eC hm hf =>
   rw[if_pos (by rw[decide_eq_false ()];rfl)];rw[if_pos (decide_eq_true ())];simp![A.ob,lF];refine bM #[p,ra,ha,rs,cs,s,sz,rfl,A,cc,λG2 h0 h1=>?_];obtain⟨A2,e2⟩:=h1 hm;rw[hm];simp!;exact ih _ _ m' rfl #[k+1,_,_,(),hf,(Bh (fw:=true) hp cc hm).1,A2,kp.eqs e2,rfl]
theorem wr0{n:Nat}(yI:n+1<*T.m7.1<*qj)(I_:n+1<*T.mQ.1<*qb)(IJ:n+1<*T.mD.1<*sY)(Jo:n<*T.iY<*qo)(qu:n+1<*T.eU<*qm)(bc:n+1<*T.d7.1<*uv)(ud:n+1<*T.jV.1<*qd)(i_:n+1<*T.ft.1<*NG)(Jd:n+1<*T.mU.1<*tK)(Jg:n+1<*T.mX.1<*tN)(Jb:n+1<*T.mS.1<*tJ)(Jf:n+1<*T.mW.1<*tM):n+1+1<*T.gq.1<*WI:=by
 refine C_ T.gq.1 cg (λds G R h=>?_) (λ_ _ _ _ _ _ hr =>
   (au (aQ 1 cg.nd (dU #v[!0,aA,aA]))
   (au (aQ 2 cg.nd (ek Jd hr #v[!1]))
   (au (aQ 3 cg.nd (ek Jg hr #v[!1,(cN eL rfl T.aX ∅ #v[(ek i_ hr #v[¬2])]),aA]))
   (au (aQ 4 cg.nd (cN eL rfl T.aX ∅ #v[!3]))
   (au (aQ 5 cg.nd (aP cG (aP cG (lT (N':=["_law_k"]) (ix:=[none]) (jh rfl rfl rfl) (x08 rfl T.bH #v[aA,(aP cG (!4) aA)]) (λ_ _ _ _=>(c8 0 (show(["_law_k"]:List Str).Nodup by decide))) (λ_ _ _ _=>ki) (λ_ _ _ _=>(bD #v[aZ,!0]))) (dU #v[(bD #v[aZ])])) (lT (N':=["_law_k"]) (ix:=[none]) (jh rfl rfl rfl) (x07 rfl T.bH #v[!4,aA,(qW CY aA)]) (λ_ _ _ _=>(c8 0 (show(["_law_k"]:List Str).Nodup by decide))) (λ_ _ _ _=>ki) (λ_ _ _ _=>(bD #v[aZ,!0])))))
   (au (aQ 6 cg.nd (aP cG (!4) (ek bc hr #v[!1,(aP iw aA (!4))])))
   (au (aQ 7 cg.nd (ek yI hr #v[!2,(lD QZ rfl T.dR ∅ #v[!3])]))
   (au (aT (rE (w_or (Bf (rT (cN KW rfl T.bW ∅ #v[!7,(Kd (T := "list") T.dR ∅)]))) (w_or (bO (ke hr) (cN eL rfl T.aX ∅ #v[!7]) (!4) (ah _)) (zc (Bf (rT (cN x82 rfl T.sQ ∅ #v[(lT (N':=["_law_one"]) (ix:=[none]) (jh rfl rfl rfl) (jG (!7)) (λ_ _ _ _=>(c8 0 (show(["_law_one"]:List Str).Nodup by decide))) (λ_ _ _ _=>ki) (λ_ _ _ _=>(Ba (ek Jb hr #v[!0]) (y_ (qw (n_) (!0) aA (ah _))))))]))))))) (aE (bj jz)) cU)
   (au (aQ 8 cg.nd (ek I_ hr #v[!2,!3,!6,!5]))
   (au (Qm 9 cg.nd (N':=["_law_x", "_law_state", "_law_program_here"]) (ix:=[none,some 1,some 2]) (jh rfl rfl rfl) (jG (¬2)) (λ_ _ _ _=>(c8 0 (show(["_law_x", "_law_state", "_law_program_here"]:List Str).Nodup by decide))) (λ_ _ _ _=>ki) (λ_ _ _ _=>(ek ud hr #v[!1,¬2])))
   (au (aQ 10 cg.nd (Ue T.kN T.aH.m T.Ha Jo hr #v[!8,(aP cG (!9) (aP nR (dU #v[aA]) (aP iw (¬8) (cN eL rfl T.aX ∅ #v[!9]))))]))
   (au (aQ 11 cg.nd (aP cG (aP cG (!7) (dU #v[(cN eL rfl T.aX ∅ #v[!9])])) (x22 (!7))))
   (au (aQ 12 cg.nd (ek IJ hr #v[!2,!3,!6,!5]))
   (au (aT (rE (w_or (bO (ke hr) (cN eL rfl T.aX ∅ #v[!12]) (aP cG (cN eL rfl T.aX ∅ #v[!11]) aA) (ah _)) (zc (bO (ke hr) (bR bQ (¬12) aA) (lM T.aH.cl T.eU T.sj qu hr (!10)) (ah _))))) (aE (bj jz)) cU)
   (au (lB (uA rfl T.bH #v[(cN eL rfl T.aX ∅ #v[!11])]) (c8 13 cg.nd) (aE (aT (rE (w_or (bO (ke hr) (ek Jf hr #v[!10,(bR bQ (bR bQ (!12) (aP cG (!13) aA)) aA),(aP cG (bR bQ (!11) (!13)) aA)]) (bR bQ (!11) (!13)) (ah _)) (zc (bO (ke hr) (lM T.aH.cl T.eU T.sj qu hr (!10)) (bR bQ (bR bQ (!12) (aP cG (!13) aA)) aA) (ah _))))) (aE (bj jz)) cU)))
   (aE (bj (qw (aV hr) (ek yI hr #v[!2,!3]) (!7) (ah _)))))))))))))))))))) (λds G R h=>?_)
 ·obtain⟨a,ns,rfl,_⟩:=h;rfl
 ·obtain⟨a,ns,rfl,ha,x6,post⟩:=h
  simp!;refine#[∅,λst oW=>?_];have GK:a≠st:=aU ha oW;have S0:cE (aG G st (.lst [.ref a,.int 0,.int 0])) st:=#[a,ns,0,0,aC,by rw[av GK];exact ha,(),(),GK,x6];generalize aG G st (.lst [.ref a,.int 0,.int 0])=G0 at *;refine fN ?_;simp!;refine bM #[st,rfl,S0,λW bs rs G1 w1 w2 m1 m2 x8 ho GI jx SS eC a1=>?_];simp!;refine fN ?_;simp!;refine bM #[rs,rfl,(),GI,(),λq2 G2 n2 k2 g2=>?_];have A2:=a1.grow g2;simp![k2,bt];have LC:(bB (aF rs)).length=(aF rs).length:=oo _;have ya:1<=(aF rs).length:=VW λz=>eC (D7 z)
  have x_:(aF rs).length<=20:=D6 (Dp rs) SS;rw[LC];refine bM #[st,(aF rs).length,4,rfl,A2.at_,ya,(),∅,∅,λca ks G3 hg hk4 nca fca ic a3=>?_];have S3:=a3.at_
  clear a3 A2 k2 g2 n2 a1 S0;have hki:(nI ks).length=ks.length:=by unfold nI;rw[B0]
  have LD:1<=ks.length:=VW λz=>hg.1 (D7 z)
  simp!;refine fN ?_;simp![ic,bt,B0];rw[hki];refine fN ?_;simp!;refine#[#[∅,∅,(),()],λp4 xZ=>?_];rw[show cn 1 ((ks.length:Int)+1-1).toNat=((D1 ks.length).map (·+1)).map nD by
   rw[show((ks.length:Int)+1-1).toNat=ks.length by omega];unfold cn;rw[L5];exact K9 λk _=>congrArg D.int (show(1:Int)+(k:Int)=((k+1:Nat):Int) by omega)]
  refine YW (by rw[B0,D9];omega) ?_;refine#[∅,∅,λp5 Gn=>?_];have g5:=(ax.refl (G:=G3) |>.new (o:=.lst (((D1 ks.length).map (·+1)).map (df "lay"))) xZ).new (o:=.lst [.tup [.str "show"]]) Gn;refine add_l (by rw[av (aU aC Gn),aC]) aC (by rw[B0,B0,D9];show _+1<=_;omega) λp6 LA=>?_
  have g6:=g5.new (o:=.lst (((D1 ks.length).map (·+1)).map (df "lay")++[.tup [.str "show"]])) LA;simp![PH];refine#[#[(),(),∅,∅],λp7 hp7=>?_];rw[show ib (ks.length:Int) (-1) ((ks.length:Int)-0).toNat=((D1 ks.length).map λj=>ks.length-j).map nD by
   rw[show((ks.length:Int)-0).toNat=ks.length by omega];unfold ib;rw[L5];exact K9 λk hk=>congrArg D.int (show(ks.length:Int)+(k:Int)*(-1)=((ks.length-k:Nat):Int) by have:=K0.mp hk;omega)]
  refine YW (by rw[B0,D9];omega) ?_;have g7:=g6.new (o:=.lst (((D1 ks.length).map λj=>ks.length-j).map (df "clear"))) hp7;refine add_l (by rw[av (aU aC hp7),aC]) aC (by simp;omega) λpl bZ=>?_
  have e8:((D1 ks.length).map (·+1)).map (df "lay")++[.tup [.str "show"]]++((D1 ks.length).map λj=>ks.length-j).map (df "clear")=(je ks.length).map (·.1):=by
   unfold je;rw[B9,B9,L5,L5,L5,L5];rfl
  rw[e8];have g8:=g7.new (o:=.lst ((je ks.length).map (·.1))) bZ;have npl:pl≠st:=(S3.grow g7).ne bZ;generalize hG:aG _ pl (.lst ((je ks.length).map (·.1)))=G8 at *;have ma:G8 pl=some (.lst ((je ks.length).map (·.1))):=by rw[<- hG,aC]
  have S8:=S3.grow g8;have ic:=g8.kp _ _ ic;clear g8 g7 g6 g5 hG;refine fN ?_;simp!;refine gG S8 () () λx9 G9 a9 b1 b2=>?_
  obtain⟨x9,rfl⟩:=nU b1;have ic:=a9.kp _ _ nca ic;have ma:=a9.kp _ _ npl ma;have S9:=a9.at_
  clear a9 S8 S3;simp!;rw[show(ks.length:Int)+(x9:Int)=((ks.length+x9:Nat):Int) by omega];refine fN ?_;simp![ic,bt];intro p10 Tg;have pp:=x96 (ks:=ks) w1 w2 m1 m2 x8 ho jx SS;obtain⟨Ln,vW,ok3⟩:=wo2 (n:=ks.length) (s:=ks.length+x9) LD hk4 ();have bZ:(fU ks (aF rs)).length=ks.length:=by
   have e:=congrArg F9 (KC ks (aF rs) (by rw[hg.2.2];exact B8 _))
   rwa[B0] at e
  have md:tW W bs rs ks (je ks.length) (ks.length+x9):=#[(),(),GI,hk4,hg,pp,by rw[bZ];exact Ln,by rw[bZ];exact vW,ok3];have cst:∀(c:Addr) (G:Gp) (q:DK),G c=some (.lst ((nI ks).map .int))->(∀(q':Addr) (G':Gp),G q'=none->G' q'=some (.lst (((fU ks (aF rs)).map (pR W bs)).map .int))->ax G G'->q (.ref q') G')->∃R,qj [.tup [.int (W:Int),.tup (bs.map .str),.tup (bB rs)],.ref c] G R/\∀d G',R d G'->q d G':=λc G q h k=>bM #[W,bs,rs,c,ks,rfl,h,(),(),GI,(),hg,λp hp=>(pp.ok p hp).1,k]
  have GV:=ax.refl (G:=G9) |>.new (o:=.lst ((nI ks).map .int)) Tg
  refine cst p10 _ _ aC λqf lO nf kf qT=>?_
  have ic:=(GV.trans qT).kp _ _ ic;have ma:=(GV.trans qT).kp _ _ ma;have UA:=S9.grow (GV.trans qT);have nqf:qf≠st:=(S9.grow GV).ne nf;clear qT GV S9;simp!;generalize hu:ij (i5 (j5 qb _ _) (rS 8)) _=u;refine fN ?_;simp![kf,bt,B0,bZ];refine#[by simp,?_];rw[if_neg ∅];intro BK wG;have Sl:=UA.ne wG;have zF:qf≠BK:=aU kf wG;have rest:∀uk:Gp,ax lO uk->Go (u { nx:=λx G'=>R D.non G',rt:=R}) [some (.ref a),some (.ref st),some (.tup [.int (W:Int),.tup (bs.map .str),.tup (bB rs)]),some (.ref ca),some (.int (ks.length:Int)),some (.ref pl),some (.int ((ks.length+x9:Nat):Int)),some (.ref qf),none,none,none,none,none,none] uk:=by
   intro uk sF;subst hu;have ic:=sF.kp _ _ ic;have ma:=sF.kp _ _ ma;have kf:=sF.kp _ _ kf;have Ho:=UA.grow sF;clear sF wG zF Sl UA;refine fN ?_;simp!;refine bM #[W,bs,rs,ca,pl,ks,je ks.length,ks.length+x9,rfl,ic,ma,md,λqc cs AF nc kc cd GU=>?_];have ic:=GU.kp _ _ ic;have ma:=GU.kp _ _ ma;have kf:=GU.kp _ _ kf;have nqc:qc≠st:=Ho.ne nc;have Uz:=Ho.grow GU;clear GU Ho nc;generalize lL:fU ks (aF rs)=PP at *;simp!;refine fN ?_;simp!;intro Ll wF;have Lq:=Uz.ne wF;have A14:=(eV.refl Uz).new (o:=.lst []) wF;refine kj (λr σ G'=>xc λ(l t:List Str) (vs:List Nat) (v:Option D)=>MF (l++t=bs) (r=t.map .str) (vs.length=l.length) (∀v∈vs,v<2^W) (eV st AF G') (G' Ll=some (.lst (vs.map nD))) (σ=[v,some (.ref st),some (.tup [.int (W:Int),.tup (bs.map .str),.tup (bB rs)])])) #[[],bs,[],none,rfl,rfl,rfl,(λ_ h=>nomatch h),A14,aC,rfl] ?_ ?_
   ·rintro σ Cn ⟨l,t,vs,v,e,e2,Ly,SW,uq,rH,rfl⟩
    refine#[trivial,?_];have ht:t=[]:=by simpa using e2.symm
    subst ht;rw[E4] at e;subst e;have ic:=uq.kp _ _ nca ic;have ma:=uq.kp _ _ npl ma;have kf:=uq.kp _ _ nqf kf;have kc:=uq.kp _ _ nqc kc;have S15:=uq.at_
    clear uq A14 Uz wF;have oc:js PP.length (ks.length+x9) 0 false (je ks.length):=by rw[bZ];exact Ln
    have good:=lr.good pp () () oc (J8 _) cd;have BY:=cd.len;have iD:l.length<=gW cs:=by
     cases cs with
     | nil=>rw[D7 BY.symm] at vW;cases vW
     | cons c t=>exact D6 (good c D3).2.2.2.1 (Kk D3)
    have eD:gW cs<=1000:=Zl λc hc=>(good c hc).2.2.2.2
    refine fN ?_;simp!;refine#[∅,λLk sm=>?_];simp![av (aU rH sm),rH,bt,B0];rw[show((gW cs:Int)-(vs.length:Int)).toNat=gW cs-l.length by omega,V6];refine#[#[(),(),D6 (m:=1000) () ∅],λR' wD=>?_];have n17:Ll≠R':=λz=>by rw[<- z,av (aU rH sm),rH] at wD;cases wD
    refine add_l (by rw[av n17,av (aU rH sm)];exact rH) aC (by rw[B0,R4];omega) λLj Gq=>?_
    have GS:ax Cn (aG (aG (aG Cn Lk (.lst [.int 0])) R' (.lst (D0 (gW cs-l.length) (.int 0)))) Lj (.lst (vs.map nD++D0 (gW cs-l.length) (.int 0)))):=((ax.refl.new sm).new wD).new Gq;have k18:aG (aG (aG Cn Lk (.lst [.int 0])) R' (.lst (D0 (gW cs-l.length) (.int 0)))) Lj (.lst (vs.map nD++D0 (gW cs-l.length) (.int 0))) Lj=some (.lst ((vs.map (λ(v:Nat)=>(v:Int))++D0 (gW cs-l.length) 0).map .int)):=by rw[aC,B9,L5,B75];rfl
    have Lv0:=Lv.start (fr:=(2+PP.length)*l.length) (sz:=gW cs) w2 Ly SW (D6 () (N4 _ (show 1<=2+PP.length by omega))) iD;generalize vs.map (λ(v:Nat)=>(v:Int))++D0 (gW cs-l.length) 0=X0 at *;generalize aG _ Lj _=G18 at *;intro pr Gi;refine x30 (s:=0) Gi (GS.kp _ _ kc) k18 λra ha G19 nra nha Cm Aq=>?_
    have nfh:qf≠ha:=aU (GS.kp _ _ kf) nha;have pJ:ca≠ha:=aU (GS.kp _ _ ic) nha;have Aq:=GS.trans Aq;have ic:=Aq.kp _ _ ic;have ma:=Aq.kp _ _ ma;have kf:=Aq.kp _ _ kf;have rH:=Aq.kp _ _ rH;clear Aq GS k18 Gq n17 wD sm kc S15 Gi nra;refine fN ?_;simp![kf,rH,bt,B0];refine#[∅,λp20 zX=>?_];have vZ:qf≠p20:=aU kf zX;refine add_l (by rw[av vZ];exact kf) aC (by simp;omega) λp21 wC=>?_
    have FT:aG (aG G19 p20 (.lst [.int (vs.length:Int)])) p21 (.lst (((PP.map (pR W l)).map .int)++[.int (vs.length:Int)])) qf=some (.lst ((PP.map (pR W l)).map .int)):=by rw[av (λz=>by rw[<- z,av vZ,kf] at wC;cases wC),av vZ];exact kf
    simp![FT];intro p22 zW;refine add_l (by rw[av (aU aC zW),aC]) aC (by simp;omega) λpd hpd=>?_
    have ed:(PP.map (pR W l)).map D.int++[.int (vs.length:Int)]++((PP.map (pR W l)).map D.int).reverse=(sI W l PP 0 (je ks.length)).map nD:=by
     rw[<- bZ,wg6 () (),B9,B9,L5,L5,VJ,L5,Ly];rfl
    rw[ed];have T':=((ax.refl (G:=G19) |>.new (o:=.lst [.int (vs.length:Int)]) zX).new (o:=.lst (((PP.map (pR W l)).map .int)++[.int (vs.length:Int)])) wC).new (o:=.lst ((PP.map (pR W l)).map D.int).reverse) zW;have Ap:=T'.new (o:=.lst ((sI W l PP 0 (je ks.length)).map nD)) hpd;have nhd:ha≠pd:=aU (T'.kp _ _ Cm.he) hpd;generalize hG:aG _ pd (.lst ((sI W l PP 0 (je ks.length)).map nD))=G23 at *;have kd:G23 pd=some (.lst ((sI W l PP 0 (je ks.length)).map nD)):=by rw[<- hG,aC]
    have UC:bC cS G23 pr ra ha _ X0 0:=#[Ap.kp _ _ Cm.ob,Ap.kp _ _ Cm.ro,Ap.kp _ _ Cm.he,Cm.ne];have ic:=Ap.kp _ _ ic;have ma:=Ap.kp _ _ ma;have kf:=Ap.kp _ _ kf;clear hG Ap T' ed FT zW wC zX vZ Cm rH;refine fN ?_;simp!;refine bM #[W,l,rs,ca,pl,ks,je ks.length,ks.length+x9,rfl,ic,ma,md,λqs cs2 as G24 ns has oU Uq GR=>?_];have eqs:=Zx (p:=0) (Uq.Kw (lL▸cd));have GY:cs2.length=cs.length:=by rw[Uq.len,BY]
    rw[eqs] at oU;rw[GY] at has;clear eqs GY Uq;have xl:=UC.grow GR;have nqh:qs≠ha:=GO ns UC.he;have ic:=GR.kp _ _ ic;have kf:=GR.kp _ _ kf;have kd:=GR.kp _ _ kd;clear GR ns UC ma;have Cd:∀{x:Addr} {o:List D} {G:Gp} {X:List Int} {s:Nat},bC cS G pr ra ha (iT [] (cs.map bY.rs)) X s->G x=some (.lst o)->x≠pr:=λR h z=>by rw[z,R.ob] at h;cases h
    obtain⟨a0,h0⟩:=Zv (c1:=[]) (c2:=cs) (as:=as) has;have hlz:((dn 0 cs).zip as).length=cs.length+1:=by rw[JK,KU,has,MB]
    have hld:(sI W l PP 0 (je ks.length)).length=cs.length:=by rw[Y',BY]
    have oW:=Rc (L:=cs.map bY.rs) (acc:=[]) (BD λ_ h=>nomatch h) λr hr=>by obtain⟨c,hc,rfl⟩:=K2.mp hr;exact(good c hc).1
    have hro:=P_ (sz:=gW cs) (L:=cs.map bY.rs) (acc:=[]) (λ_ h=>nomatch h) λr hr=>by obtain⟨c,hc,rfl⟩:=K2.mp hr;exact λr hr=>QS ((good c hc).2.1 r hr) (Kk hc)
    refine fN ?_;simp![oU,kd,bt,B0,hlz,hld];rw[if_neg (by simp)];have h0:da (((dn 0 cs).zip as).map λx=>D.tup [.int (x.1:Int),.ref x.2]) 0=some (.tup [.int 0,.ref a0]):=h0;simp![oU,bt,h0,xl.ob,lF];refine bM #[pr,ra,ha,_,X0,0,rfl,xl,?_];simp!;rw[if_neg ∅];refine fN ?_;simp![kd,bt,B0,hld];have hc9:cs.length<=9:=by rw[BY];exact ok3
    refine#[#[(),()],?_];refine lE (λr σ G'=>Hn λ(i c:Nat) (s1 s2:List (D×Nat)) (c1 c2:List bY) (d1:List Nat) (lv:Nat) (b:Bool) (X:List Int) (v:Option D)=>JA (i+c=cs.length) (r=cn (i:Int) c) (c1++c2=cs) (c1.length=i) (s2.length=c2.length) (js PP.length (ks.length+x9) lv b s2) (lv<=PP.length) (lr W l PP l.length ((2+PP.length)*l.length) lv s2 c2) (Lv ((2+PP.length)*l.length) (gW cs) X) (d1++sI W l PP lv s2=sI W l PP 0 (je ks.length)) (d1.length=i) (bC cS G' pr ra ha (iT [] (cs.map bY.rs)) X ((c1.map λc=>c.rs.length).sum)) (Kept pr ha G24 G') (σ=[some (.ref a),some (.ref st),some (.tup [.int (W:Int),.tup (l.map .str),.tup (bB rs)]),some (.ref ca),some (.int (ks.length:Int)),some (.ref pl),some (.int ((ks.length+x9:Nat):Int)),some (.ref qf),some (.tup [.int (gW cs:Int),.ref qc]),some (.ref Ll),some (.ref pr),some (.ref pd),some (.ref qs),v])) #[0,cs.length,[],je ks.length,[],cs,[],0,false,X0,none,(),rfl,rfl,rfl,BY.symm,oc,J8 _,cd,Lv0,rfl,rfl,xl,Kept.refl,rfl] ?_ ?_
    ·rintro σ G25 ⟨i,c,s1,s2,c1,c2,d1,lv,b,X,v,ei,e2,ec,Ak,cy,ho,uO,LV,L,ed,Ai,R25,kp,rfl⟩
     refine#[trivial,?_];refine fN ?_;simp!;refine cst ca G25 _ (kp.kp _ _ (Cd xl ic) pJ ic) λq26 G26 n26 k26 g26=>?_
     simp!;refine vr4 (ks:=PP.map (pR W l)) (ms:=PP.map (pR W l)) (by rw[k26];rfl) (by rw[g26.kp _ _ (kp.kp _ _ (Cd xl kf) nfh kf)];rfl) ?_;rw[decide_eq_true rfl];exact post _
    ·rintro z r σ G25 ⟨i,c,s1,s2,c1,c2,d1,lv,b,X,v,ei,e2,ec,Ak,cy,ho,uO,LV,L,ed,Ai,R25,kp,rfl⟩ ih
     cases c with
     | zero=>cases e2
     | succ c =>
      rw[lG] at e2;cases e2;refine#[trivial,?_];have Aj:=congrArg F9 ec;rw[B4] at Aj;obtain⟨cc,c3,rfl⟩:∃cc c3,c2=cc::c3:=by
       cases c2 with
       | nil=>rw[O8] at Aj;omega
       | cons x y=>exact#[x,y,rfl]
      obtain⟨⟨mv,l'⟩,s3,rfl⟩:∃x s3,s2=x::s3:=by
       cases s2 with
       | nil=>cases cy
       | cons x y=>exact#[x,y,rfl]
      obtain⟨cd0,cd1,ecd,mc,LV⟩:=LV;cases ecd;obtain⟨b',kS,kT,S_⟩:∃b',js PP.length (ks.length+x9) l' b' s3/\l'<=PP.length/\(mv=df "lay" (lv+1)/\l'=lv+1/\lv+1<=PP.length\/mv=df "clear" lv/\lv=l'+1/\lv<=PP.length\/mv=.tup [.str "show"]/\l'=lv/\lv=PP.length/\1<=lv):=by
       rcases ho with⟨h1,h2,_,h4,h5⟩|⟨h1,h2,h3,h5⟩|⟨h1,h2,h3,_,h5⟩
       ·exact⟨b,h5,(),.inl ⟨h1,h2,h4⟩⟩
       ·exact⟨b,h5,(),.inr (.inl ⟨h1,h2,h3⟩)⟩
       ·exact⟨true,h5,(),.inr (.inr ⟨h1,h2,h3,()⟩)⟩
      have BX:cc∈cs:=by rw[<- ec];simp
      obtain⟨X',L',fr⟩:=Lv.step pp rfl L mc (Kk BX) S_;have hW:dh (iT [] (cs.map bY.rs)) ((c1.map λc=>c.rs.length).sum) cc.rs:=by
       have:=dh.nth (W:=iT [] (cs.map bY.rs)) (a:=0) (A:=c1.map bY.rs) (c:=cc.rs) (L:=c3.map bY.rs) (acc:=[]) (λj row e=>by
        rw[L0,wc6,<- ec,B9];exact e)
       rw[L5,O8,L0,L0] at this;exact this
      have F:=fr _ _ hW;have hdu:da ((sI W l PP 0 (je ks.length)).map nD) (i:Int)=some (.int (jA W l PP lv l':Int)):=uB (by rw[F0,<- ed,E8 (),Ai,U4];rfl);obtain⟨a1,wx⟩:=Zv (c1:=c1++[cc]) (c2:=c3) (as:=as) (by rw[has,<- ec];simp);have wx:da (((dn 0 cs).zip as).map λx=>D.tup [.int (x.1:Int),.ref x.2]) ((i:Int)+1)=some (.tup [.int (((c1.map λc=>c.rs.length).sum+cc.rs.length:Nat):Int),.ref a1]):=by
       rw[E2,List.singleton_append,ec,B4,Ak,B9,Y0] at wx;rw[show(i:Int)+1=((i+[cc].length:Nat):Int) from rfl,wx];simp
      have SE:=kp.kp _ _ (Cd xl kd) (D8 nhd) kd;have Sx:=kp.kp _ _ (Cd xl oU) nqh oU;simp![SE,Sx,bt,hdu,wx];have Tc:(c1.map λc=>c.rs.length).sum<=(iT [] (cs.map bY.rs)).length:=by
       rw[Ky,<- ec,B9,B9,Y0,L5,O8,L0];exact Q2 _ _
      refine bM #[pr,ra,ha,_,X,X',_,_,gW cs,jA W l PP lv l',jA W l PP lv l'+9,rfl,R25,#[L.ok,hro,Tc],oW,F,(),λG26 UB _ Sz=>?_];have kp:=kp.trans Sz;have SD:=kp.kp _ _ (Cd xl kd) (D8 nhd) kd;have Sw:=kp.kp _ _ (Cd xl oU) nqh oU;simp![SD,bt,hdu];simp![UB.ob,lF];refine bM #[pr,ra,ha,_,X',_,rfl,UB,?_];simp![Sw,bt,wx];have Ud:((c1++[cc]).map λc=>c.rs.length).sum=(c1.map λc=>c.rs.length).sum+cc.rs.length:=by simp
      refine ih _ _ #[i+1,c,[],s3,c1++[cc],c3,d1++[jA W l PP lv l'],l',b',X',_,(),rfl,by rw[<- ec];simp,by rw[B4,Ak];rfl,O4 cy,kS,kT,LV,L',by rw[<- ed,E2];rfl,by rw[B4,Ai];rfl,by rw[Ud];exact UB,kp,rfl]
   ·rintro z r σ Cn ⟨l,t,vs,v,e,e2,Ly,SW,uq,rH,rfl⟩ ih
    cases t with
    | nil=>cases e2
    | cons y t =>
     cases e2;refine#[trivial,?_];have hlen:=congrArg F9 e;rw[B4,C1] at hlen;simp!;refine bM #[st,W,rfl,uq.at_,w2,λi UM hi a16=>?_];have Lu:=a16.kp _ _ Lq rH;simp![Lu];refine#[C8 (m:=100) (by rw[B0];omega) ∅,ih _ _ #[l++[y],t,vs++[i],_,by rw[<- e];simp,rfl,by rw[B4,B4,Ly];rfl,λv hv=>?_,(uq.trans a16).own wF Lu Lq,by rw[aC,B9];rfl,rfl]]
     rcases K1.mp hv with hv|hv
     ·exact SW v hv
     ·rw[J9.mp hv];exact hi
  generalize lL:fU ks (aF rs)=PP at *;refine kj (λr σ G'=>lN λ(l t:List (List aq)) (v:Option D)=>pz (l++t=PP) (r=(t.map (pR W bs)).map .int) (G'=aG lO BK (.lst (D0 l.length (.bl true)))) (σ=[v])) ⟨[],PP,none,rfl,rfl,rfl,rfl⟩ ?_ ?_
  ·rintro σ G' ⟨l,t,v,e,e2,rfl,rfl⟩
   refine#[by rw[av zF,kf],?_];have GL:∀q:DK,q (.bl true) (aG lO BK (.lst (D0 l.length (.bl true))))->rP [.ref BK] (aG lO BK (.lst (D0 l.length (.bl true)))) q:=λq h=>by
    unfold rP;have fX:∀k,y0 (D0 k (D.bl true))=some (D0 k true):=λk=>by
     induction k with
     | zero=>rfl
     | succ k ih=>rw[K3,y0,ih];rfl
    simp only[aC,bt,fX];rw[show(D0 l.length true).all id=true by simp];exact h
   refine GL _ ?_;dsimp only;rw[if_neg ∅];exact rest _ (ax.refl.new wG)
  ·rintro z r σ G' ⟨l,t,v,e,e2,rfl,rfl⟩ ih
   cases t with
   | nil=>cases e2
   | cons x t =>
    cases e2;have hlen:=congrArg F9 e;rw[B4,C1] at hlen;refine#[by rw[av zF,kf],?_];simp!;refine bM #[_,rfl,?_];simp![aC];have h0:(0:Int)<pR W bs x:=by unfold pR;omega
    rw[decide_eq_true h0];refine#[by rw[R4];exact C8 (m:=100) () ∅,ih _ _ #[l++[x],t,_,by rw[<- e];simp,rfl,?_,rfl]];rw[h9,B4,U8,List.replicate_succ']
end
end Law
namespace Law
open PySem PySem.Spec PyProof.Rows L2 L3
def FD:W.Frag->Bool
 | []=>true
 | p::r=>(match p.2.data with|.seq _ _=>(match p.2.cls with|.type s=>!(s == "list")|_=>true)|_=>true)&&FD r
theorem XC:∀{K:W.Frag} {a:Addr} {o:Obj} {its:Array Value} {n:Nat},FD K=true->K.lookup a=some o->o.cls=.type "list" -> o.data=.seq its n->False
 | [],a,o,its,n,_,e,_,_=>by cases e
 | p::r,a,o,its,n,h,e,h1,h2=>by
  unfold FD at h;rw[N8] at h;rw[F6] at e;split at e
  ·cases e
   have q:=h.1;rw[h2] at q;simp only[h1] at q;exact absurd q ∅
  ·exact XC h.2 e h1 h2
theorem Cg{P:List Value->Prop}(h:P []):∀us:List Value,us.length=0->P us:=λus e=>by rw[D7 e];exact h
theorem jC{n:Nat}{P:List Value->Prop}(h:∀(a:Value) (us:List Value),us.length=n->P (a::us)):∀us:List Value,us.length=n+1->P us:=λus e=>by
 cases us with
 | nil=>cases e
 | cons a us=>exact h a us (O4 e)
theorem ar1{P:List Value->Prop}(h:∀a0,P [a0]):∀us:List Value,us.length=1->P us:=jC λa0=>Cg (h a0)
theorem ar2{P:List Value->Prop}(h:∀a0 a1,P [a0,a1]):∀us:List Value,us.length=2->P us:=jC λa0=>jC λa1=>Cg (h a0 a1)
theorem ar3{P:List Value->Prop}(h:∀a0 a1 a2,P [a0,a1,a2]):∀us:List Value,us.length=3->P us:=jC λa0=>jC λa1=>jC λa2=>Cg (h a0 a1 a2)
theorem ar4{P:List Value->Prop}(h:∀a0 a1 a2 a3,P [a0,a1,a2,a3]):∀us:List Value,us.length=4->P us:=jC λa0=>jC λa1=>jC λa2=>jC λa3=>Cg (h a0 a1 a2 a3)
theorem ar5{P:List Value->Prop}(h:∀a0 a1 a2 a3 a4,P [a0,a1,a2,a3,a4]):∀us:List Value,us.length=5->P us:=jC λa0=>jC λa1=>jC λa2=>jC λa3=>jC λa4=>Cg (h a0 a1 a2 a3 a4)
theorem ar6{P:List Value->Prop}(h:∀a0 a1 a2 a3 a4 a5,P [a0,a1,a2,a3,a4,a5]):∀us:List Value,us.length=6->P us:=jC λa0=>jC λa1=>jC λa2=>jC λa3=>jC λa4=>jC λa5=>Cg (h a0 a1 a2 a3 a4 a5)
def Zd{K:W.Frag}{x qual:Str}{st:Stmt}{ps:List Str}{f:Addr}{oc:Value}{od an:Option Addr}{xX:Array (Option Value)}{kV doc pm il ct:Value}(l:K.lookup f=some #[oc,od,.func (W.fnOf x qual (rB st) (pB st) (bA st) .none kV doc pm an il ct),xX])
  (c:W.codeIn K il qual=true) (k:W.keepIn K (.ref f)=true) (hb:∀us:List Value,us.length=ps.length->Mf (W.fnOf x qual (rB st) (pB st) (bA st) .none kV doc pm an il ct) #[us,[]]=pure (ps.zip us)):FnAt K x qual st ps :=
 #[f,_,#[oc,od,.none,kV,doc,pm,an,il,ct,xX,rfl,l,c],k,.all hb]
def DF(K:W.Frag)(x:Str)(st:Stmt):Prop:=∃(p:Addr) (oc:Value) (od an:Option Addr) (sl:Array (Option Value)) (kV dc pm cd ct:Value),W.nsIn K J2 x=some (some (.ref p))/\K.lookup p=some #[oc,od,.func (W.fnOf x x (rB st) (pB st) (bA st) .none kV dc pm an cd ct),sl]/\W.codeIn K cd x=true/\W.keepIn K (.ref p)=true
def DM(K:W.Frag)(C:Addr)(x q:Str)(st:Stmt):Prop:=∃(p:Addr) (oc:Value) (od an:Option Addr) (sl:Array (Option Value)) (kV dc pm cd ct:Value),W.findIn K (.ref C) x=some (some (.ref p))/\W.isFn K (.ref p)=true/\K.lookup p=some #[oc,od,.func (W.fnOf x q (rB st) (pB st) (bA st) .none kV dc pm an cd ct),sl]/\W.codeIn K cd q=true/\W.keepIn K (.ref p)=true
section
variable{K:W.Frag}{h:Heap}{mg:Str->Option Value}{C:Addr}{x q:Str}{st:Stmt}{ps:List Str}
theorem Ui{p:Addr}{oc:Value}{od an:Option Addr}{sl:Array (Option Value)}{kV dc pm cd ct:Value}(a:W.nsIn K J2 x=some (some (.ref p)))(l:K.lookup p=some #[oc,od,.func (W.fnOf x x (rB st) (pB st) (bA st) .none kV dc pm an cd ct),sl])(c:W.codeIn K cd x=true)(k:W.keepIn K (.ref p)=true):DF K x st:=#[p,oc,od,an,sl,kV,dc,pm,cd,ct,a,l,c,k]
theorem Uh{p:Addr}{oc:Value}{od an:Option Addr}{sl:Array (Option Value)}{kV dc pm cd ct:Value}(a:W.findIn K (.ref C) x=some (some (.ref p)))(i:W.isFn K (.ref p)=true)(l:K.lookup p=some #[oc,od,.func (W.fnOf x q (rB st) (pB st) (bA st) .none kV dc pm an cd ct),sl])(c:W.codeIn K cd q=true)(k:W.keepIn K (.ref p)=true):DM K C x q st:=#[p,oc,od,an,sl,kV,dc,pm,cd,ct,a,i,l,c,k]
theorem aO{N:List Str}(_:ag N ps (bA st))(X:K.In h)(G:h.Ns J2 mg)(d:DF K x st)(hb:∀kV dc pm an cd ct,∀us:List Value,us.length=ps.length->Mf (W.fnOf x x (rB st) (pB st) (bA st) .none kV dc pm an cd ct) #[us,[]]=pure (ps.zip us):=by intro _ _ _ _ _ _;first|exact ar1 λ_=>rfl|exact ar2 λ_ _=>rfl|exact ar3 λ_ _ _=>rfl|exact ar4 λ_ _ _ _=>rfl|exact ar5 λ_ _ _ _ _=>rfl|exact ar6 λ_ _ _ _ _ _=>rfl) :
  ∃f:Fg K mg x st ps,∀(s:Shared) (us:List Value),us.length=ps.length->AO s f.fd #[us,[]] (ps.zip us):=by
 obtain⟨p,oc,od,an,sl,kV,dc,pm,cd,ct,a,l,c,k⟩:=d;exact#[#[Zd l c k (hb kV dc pm an cd ct),W.mg_of X G a],λs us e=>.of_eq (hb kV dc pm an cd ct us e)]
theorem kZ{N:List Str}(_:ag N ps (bA st))(d:DM K C x q st)(hb:∀kV dc pm an cd ct,∀us:List Value,us.length=ps.length->Mf (W.fnOf x q (rB st) (pB st) (bA st) .none kV dc pm an cd ct) #[us,[]]=pure (ps.zip us):=by intro _ _ _ _ _ _;first|exact ar1 λ_=>rfl|exact ar2 λ_ _=>rfl|exact ar3 λ_ _ _=>rfl|exact ar4 λ_ _ _ _=>rfl|exact ar5 λ_ _ _ _ _=>rfl|exact ar6 λ_ _ _ _ _ _=>rfl) :
  ∃f:FnAt K x q st ps,W.findIn K (.ref C) x=some (some (.ref f.a))/\W.isFn K (.ref f.a)=true:=by
 obtain⟨p,oc,od,an,sl,kV,dc,pm,cd,ct,a,i,l,c,k⟩:=d;exact#[Zd l c k (hb kV dc pm an cd ct),a,i]
end
def Ys:fY:=λds G R=>∃(a:Addr) (ns:List Int),ds=[.ref a]/\G a=some (.qV (ns.map .int))/\ns.length<=63/\∀G',R (.bl true) G'
theorem ux7{K:W.Frag}{H:Hp}:∀ns:List Int,af K H (ns.map D.int) (ns.map V.int)
 | []=>.nil
 | _::ns=>.cons ae.cz (ux7 ns)
theorem wy8{K:W.Frag}{H:Hp}{a:Addr}{ns:List Int}(hL:FD K=true)(hl:ns.length<=63)(hO:Only H)(hS:eG K H a (ns.map V.int)):lR K Ys [.ref a] H (λv _=>v=.bl true) λ_ _ _=>False:=by
 have ha:∃o,H a=some (.dg o (.lst (ns.map V.int))):=by
  rcases hS with(h|h)|⟨o,its,n,h1,h2,_,h3,_⟩
  ·rcases hO a with z|⟨o,xs,z⟩
   ·rw[h] at z;cases z
   ·rw[h] at z;cases z
  ·exact h
  ·exact(XC hL h1 h2 h3).elim
 obtain⟨o,ha⟩:=ha;refine#[[.ref a],aG (λ_=>none) a (.qV (ns.map .int)),λd _=>d=.bl true,.cons ?_ .nil,λb u e=>?_,#[a,ns,rfl,aC,hl,λ_=>rfl],λd G' v H' r _ _ e=>?_]
 ·rw[ae]
 ·by_cases hb:b=a
  ·subst hb
   rw[aC] at e;cases e;exact#[o,_,ha,ux7 ns]
  ·rw[av hb] at e;cases e
 ·subst e
  rw[ae] at r;exact r
end Law
namespace Law
open PySem PySem.Spec PyProof.Rows L2 L3 Rw
theorem zq{K:W.Frag}{h:Heap}{mg:Str->Option Value}(X:K.In h)(G:h.Ns J2 mg)
  {Fw:Addr} {Sb Ur:Option Addr} {RA:Array (Option Value)} {Sd SF Uj RQ Hf Uo:Value}
  {gh:Addr} {gf:Obj} {kq:Nat} {gb:Tok}
  {jH:Tok}
  {eM:Tok}
  (xb:W.nsIn K J2 "Loom" = some (some (.ref bF)))
  (xa:W.nsIn K J2 "Ride" = some (some (.ref cS)))
  (Fe:DF K "joined" Oy)
  (EF:DF K "moved" OX)
  (Em:DF K "turned" Po)
  (El:DF K "turned_row" Pp)
  (RX:DM K bF "__init__" "Loom.__init__" N_)
  (RY:DM K bF "fresh_box" "Loom.fresh_box" NZ)
  (RW:DM K bF "put" "Loom.put" Oa)
  (RV:DM K bF "put_by_choice" "Loom.put_by_choice" Ob)
  (RU:DM K bF "put_unless" "Loom.put_unless" Oc)
  (Ei:DF K "weave" Pt)
  (Eg:DF K "weave_rows" Pw)
  (Eh:DF K "weave_choose" Pu)
  (EC:DF K "place_of" O_)
  (Ef:DF K "weave_sign" Px)
  (Ep:DF K "total" Pl)
  (Fj:DF K "difference" Ov)
  (Fh:DF K "gap" NY)
  (Fq:DF K "bits_of_both" Om)
  (Fs:DF K "bits_of_any" Ol)
  (Fp:DF K "bits_of_one" Oo)
  (Er:DF K "sum_without_both" Pk)
  (Ew:DF K "smaller" Pf)
  (Fu:DF K "alike" Oi)
  (Eo:DF K "truth" Pm)
  (EL:DF K "marking" OR)
  (EK:DF K "marking_steps" OS)
  (ED:DF K "pieces" OZ)
  (Ek:DF K "unrolled" Pq)
  (Ej:DF K "unrolled_row" Pr)
  (Es:DF K "stretches" Pj)
  (Fl:DF K "costs" Ou)
  (Fm:DF K "checked" Ot)
  (EJ:DF K "may_do" OT)
  (EB:DF K "set_of" Pa)
  (Eu:DF K "stands" Pg)
  (EM:DF K "many_in" OQ)
  (Ft:DF K "behind" Oj)
  (EA:DF K "sets_along" Pb)
  (EI:DF K "most_marks" OU)
  (EN:DF K "made" OO)
  (Et:DF K "stops" Ph)
  (Ey:DF K "slots_along" Pd)
  (Ex:DF K "slots_behind" Pe)
  (Fi:DF K "free_slot" Ow)
  (EG:DF K "move_codes" OW)
  (EH:DF K "move_code" OV)
  (Ez:DF K "shown_code" Pc)
  (EO:DF K "left_code" ON)
  (a_7:W.findIn K (.ref cS) "__init__" = some (some (.ref Fw)))
  (i_7:W.isFn K (.ref Fw)=true)
  (l_7:K.lookup Fw=some #[Sd,Sb,.func (W.fnOf "__init__" "Ride.__init__" (rB Be) (pB Be) (bA Be) (.ref gh) SF Uj RQ Ur Hf Uo),RA])
  (c_7:W.codeIn K Hf "Ride.__init__" = true)
  (k_7:W.keepIn K (.ref Fw)=true)
  (gA:K.lookup gh=some gf)
  (gy:gf.data=.seq [.int 0 gb].toArray kq)
  (RO:DM K cS "place" "Ride.place" Oh)
  (RS:DM K cS "forth" "Ride.forth" Oe)
  (RT:DM K cS "at_end" "Ride.at_end" Od)
  (RP:DM K cS "may_forth" "Ride.may_forth" Og)
  (Ff:DF K "holds" Ox)
  (Fo:DF K "change" Oq)
  (EE:DF K "operand_value" OY)
  (En:DF K "turn_bit" Pn)
  (E_:DF K "_law_draw" OB)
  (EX:DF K "_law_names" OE)
  (EW:DF K "_law_number" OG)
  (Fc:DF K "_law_atom" Oz)
  (EY:DF K "_law_heavy" OD)
  (EU:DF K "_law_row" OI)
  (ET:DF K "_law_rows" OJ)
  (ES:DF K "_law_unrolled" OL)
  (EV:DF K "_law_program" OH)
  (Fb:DF K "_law_cuts" OA)
  (ER:DF K "_law_whole" OM)
  (EZ:DF K "_law_far" OC)
  (Fd:DF K "law" Py)
  (vU:W.plainGet K bF Y2=true)
  (wK:W.hasDictIn K bF=true)
  (vS:W.plainOver K bF=true)
  (vQ:W.findIn K (.ref bF) "__setattr__" = some (some (.builtin "object.__setattr__")))
  (kO:W.makesIn K bF=true)
  (wj:W.keepIn K (.ref bF)=true)
  (l0:W.findIn K (.ref bF) "wide" = some none)
  (kM:W.findIn K (.ref bF) "fresh" = some none)
  (l9:W.findIn K (.ref bF) "rows" = some none)
  (kL:W.findIn K (.ref bF) "steps" = some none)
  (vT:W.plainGet K cS Y2=true)
  (wJ:W.hasDictIn K cS=true)
  (vR:W.plainOver K cS=true)
  (vP:W.findIn K (.ref cS) "__setattr__" = some (some (.builtin "object.__setattr__")))
  (kN:W.makesIn K cS=true)
  (wg:W.keepIn K (.ref cS)=true)
  (lY:W.findIn K (.ref cS) "rows" = some none)
  (lZ:W.findIn K (.ref cS) "held" = some none)
  (lX:W.findIn K (.ref cS) "spot" = some none)
  (qv:W.nsIn K J2 "NUMBERS" = some (some (.int 4294967296 jH)))
  (iH:W.nsIn K J2 "BELOW_NOUGHT" = some (some (.int 31 eM)))
  (sR:W.nsIn K J2 "abs" = some none)
  (sQ:W.nsIn K J2 "all" = some none)
  (pf:W.nsIn K J2 "bool" = some none)
  (fQ:W.nsIn K J2 "dict" = some none)
  (i9:W.nsIn K J2 "divmod" = some none)
  (cC:W.nsIn K J2 "enumerate" = some none)
  (i8:W.nsIn K J2 "int" = some none)
  (bW:W.nsIn K J2 "isinstance" = some none)
  (aX:W.nsIn K J2 "len" = some none)
  (dR:W.nsIn K J2 "list" = some none)
  (nA:W.nsIn K J2 "max" = some none)
  (nz:W.nsIn K J2 "min" = some none)
  (bH:W.nsIn K J2 "range" = some none)
  (fP:W.nsIn K J2 "reversed" = some none)
  (i7:W.nsIn K J2 "sorted" = some none)
  (sP:W.nsIn K J2 "str" = some none)
  (sO:W.nsIn K J2 "sum" = some none)
  (cR:W.nsIn K J2 "tuple" = some none)
  (pT:W.nsIn K J2 "zip" = some none) :
  ∃T:Txt K mg,∀(s:Shared) (v:Value),AO s T.gq.fd #[[v],[]] [("_law_script",v)]:=by
 obtain⟨jW,_⟩:=aO iP X G Fe;obtain⟨mK,_⟩:=aO Yi X G EF;obtain⟨my,_⟩:=aO ow X G Em;obtain⟨mw,_⟩:=aO Yo X G El;obtain⟨j3,a_1,i_1⟩:=kZ XU RX;obtain⟨bE,a_0,i_0⟩:=kZ XT RY;obtain⟨bP,a_2,i_2⟩:=kZ XW RW;obtain⟨hE,a_3,i_3⟩:=kZ XX RV;obtain⟨gx,a_4,i_4⟩:=kZ oI RU;obtain⟨jO,_⟩:=aO kx X G Ei;obtain⟨gs,_⟩:=aO iL X G Eg;obtain⟨mq,_⟩:=aO fE X G Eh;obtain⟨jS,_⟩:=aO oz X G EC;obtain⟨mn,_⟩:=aO Yq X G Ef;obtain⟨mC,_⟩:=aO kA X G Ep;obtain⟨m6,_⟩:=aO kG X G Fj;obtain⟨iZ,_⟩:=aO oJ X G Fh;obtain⟨jZ,_⟩:=aO oF X G Fq;obtain⟨m_,_⟩:=aO Ya X G Fs;obtain⟨m9,_⟩:=aO Yb X G Fp;obtain⟨jP,_⟩:=aO kB X G Er;obtain⟨mE,_⟩:=aO kC X G Ew;obtain⟨ng,_⟩:=aO iR X G Fu;obtain⟨mB,_⟩:=aO kz X G Eo;obtain⟨mP,_⟩:=aO gK X G EL;obtain⟨mO,_⟩:=aO kE X G EK;obtain⟨mI,_⟩:=aO Yk X G ED;obtain⟨gu,_⟩:=aO ky X G Ek;obtain⟨mr,_⟩:=aO Yp X G Ej;obtain⟨iW,_⟩:=aO fF X G Es;obtain⟨m7,_⟩:=aO Yc X G Fl;obtain⟨jY,_⟩:=aO dr X G Fm;obtain⟨mN,_⟩:=aO oB X G EJ;obtain⟨iX,_⟩:=aO Yl X G EB;obtain⟨jQ,_⟩:=aO Yn X G Eu;obtain⟨jU,_⟩:=aO iM X G EM;obtain⟨j0,_⟩:=aO X_ X G Ft;obtain⟨mH,_⟩:=aO gJ X G EA;obtain⟨mM,_⟩:=aO Yh X G EI;obtain⟨mQ,_⟩:=aO gL X G EN;obtain⟨mD,_⟩:=aO dM X G Et;obtain⟨jR,_⟩:=aO gI X G Ey;obtain⟨mF,_⟩:=aO oy X G Ex;obtain⟨mZ,_⟩:=aO iQ X G Fi;obtain⟨jT,_⟩:=aO dq X G EG;obtain⟨mL,_⟩:=aO oA X G EH;obtain⟨mG,_⟩:=aO Ym X G Ez;obtain⟨mR,_⟩:=aO Yg X G EO
 let iY:FnAt K "__init__" "Ride.__init__" Be ["self", "code", "boxes", "place"]:=#[Fw,_,#[_,_,_,_,_,_,_,_,_,_,rfl,l_7,c_7],k_7,λs us hX hl=>match us,hl with|[_,_,_,_],_=>W.binds_K hX rfl gA gy rfl rfl]
 obtain⟨eU,a_9,i_9⟩:=kZ XZ RO;obtain⟨gZ,a_6,i_6⟩:=kZ oH RS;obtain⟨g_,a_5,i_5⟩:=kZ XY RT;obtain⟨gY,a_8,i_8⟩:=kZ oG RP;obtain⟨jX,_⟩:=aO Yd X G Ff;obtain⟨m8,_⟩:=aO oE X G Fo;obtain⟨mJ,_⟩:=aO Yj X G EE;obtain⟨mz,_⟩:=aO ox X G En;obtain⟨d7,_⟩:=aO cX X G E_;obtain⟨mV,_⟩:=aO cW X G EX;obtain⟨jV,_⟩:=aO oC X G EW;obtain⟨mY,_⟩:=aO Ye X G Fc;obtain⟨gw,_⟩:=aO fI X G EY;obtain⟨mT,_⟩:=aO fG X G EU;obtain⟨gv,_⟩:=aO iO X G ET;obtain⟨ft,_⟩:=aO iN X G ES;obtain⟨mU,_⟩:=aO fH X G EV;obtain⟨mX,_⟩:=aO fJ X G Fb;obtain⟨mS,_⟩:=aO Yf X G ER;obtain⟨mW,_⟩:=aO kF X G EZ;obtain⟨gq,Hj⟩:=aO cg X G Fd;exact#[#[jW,mK,my,mw,j3,bE,bP,hE,gx,jO,gs,mq,jS,mn,mC,m6,iZ,jZ,m_,m9,jP,mE,ng,mB,mP,mO,mI,gu,mr,iW,m7,jY,mN,iX,jQ,jU,j0,mH,mM,mQ,mD,jR,mF,mZ,jT,mL,mG,mR,iY,eU,gZ,g_,gY,jX,m8,mJ,mz,d7,mV,jV,mY,gw,mT,gv,ft,mU,mX,mS,mW,gq,#[#[vU,wK,vS,vQ],W.mg_of X G xb,l0,kM,l9,kL],#[#[vT,wJ,vR,vP],W.mg_of X G xa,lY,lZ,lX],#[kO,a_1,i_1,wj],#[a_0,i_0,bE.kp],#[a_2,i_2,bP.kp],#[a_3,i_3,hE.kp],#[a_4,i_4,gx.kp],#[kN,a_7,i_7,wg],#[gb,λs us hX hl=>(λ(x_:us.length=3)=>match us,x_ with|[_,_,_],_=>W.binds_K hX rfl gA gy rfl rfl) (by simpa using hl)],#[a_9,i_9,eU.kp],#[a_6,i_6,gZ.kp],#[a_5,i_5,g_.kp],#[a_8,i_8,gY.kp],#[jH,W.mg_of X G qv],#[eM,W.mg_of X G iH],W.mg_none_of X G sR,W.mg_none_of X G sQ,W.mg_none_of X G pf,W.mg_none_of X G fQ,W.mg_none_of X G i9,W.mg_none_of X G cC,W.mg_none_of X G i8,W.mg_none_of X G bW,W.mg_none_of X G aX,W.mg_none_of X G dR,W.mg_none_of X G nA,W.mg_none_of X G nz,W.mg_none_of X G bH,W.mg_none_of X G fP,W.mg_none_of X G i7,W.mg_none_of X G sP,W.mg_none_of X G sO,W.mg_none_of X G cR,W.mg_none_of X G pT],λs v=>Hj s [v] rfl]
theorem x35{P:Program}{w:World}{K:W.Frag}{mg:Str->Option Value}{base:Heap}(T:Txt K mg):27<*T.gq.1<*WI:=by
 have Iy:=@wx8 P w K mg base T 0;have fB:=@wx9 P w K mg base T 0;have gC:=@wx7 P w K mg base T 0;have yv:=@wt2 P w K mg base T 1 (km fB) (km gC);have HG:=@ws1 P w K mg base T 1 (km fB) (km gC);have t7:=@wy0 P w K mg base T 1 (km fB) (km gC);have Ii:=@ww1 P w K mg base T 2 (km fB) (km gC) (km t7);have yD:=@ww6 P w K mg base T 1 (km fB) (km gC);have yq:=@ws2 P w K mg base T 2 (km fB) (km gC) (km yD);have Im:=@ww7 P w K mg base T 3 (km yq);have Il:=@ww5 P w K mg base T 3 (km yq);have HI:=@ws6 P w K mg base T 2 (km fB) (km gC) (km t7);have Io:=@ww9 P w K mg base T 2 (km fB) (km gC) (km t7);have Hz:=@wr1 P w K mg base T 4 (km HG) (km Ii) (km yD) (km Im) (km Il) (km HI) (km Io);have Iv:=@wx5 P w K mg base T 0;have Iw:=@wx6 P w K mg base T 1 (km Iv);have HF:=@ws0 P w K mg base T 1 (km fB) (km gC);have Hq:∀dp,5+2*dp<*T.gs.1<*eZ dp:=by
  intro dp
  induction dp with
  | zero=>exact x48 T
  | succ dp ih=>exact bG.mono (wr2 T (n:=5+2*dp+1) (dp:=dp) (wr3 T (n:=5+2*dp) (dp:=dp) (bG.mono fB ()) (bG.mono Iw ()) ih (bG.mono yv ()) (bG.mono HF ())) (bG.mono yv ()) (bG.mono Hz ())) ()
 have HA:21<*T.gs.1<*WH:=Hq 8;have yo:=@wr4 P w K mg base T 20 (km Iy) (km HA);have HU:=@wu1 P w K mg base T 22 (km yo);have Hr:∀dp,0+2*dp<*T.gu.1<*e_ dp:=by
  intro dp
  induction dp with
  | zero=>exact x49 T
  | succ dp ih=>exact bG.mono (wr6 T (n:=0+2*dp+1) (dp:=dp) (wr5 T (n:=0+2*dp) (dp:=dp) ih)) ()
 have HB:16<*T.gu.1<*WG:=Hr 8;have HM:=@wt4 P w K mg base T 16 (km HB);have tY:=@ws3 P w K mg base T 17 (km HM);have Ij:=@ww2 P w K mg base T 23 (km HU) (km tY);have HP:=@wt6 P w K mg base T 0;have yA:=@wv8 P w K mg base T 1 (km HP);have tZ:=@wt1 P w K mg base T 0;have yt:=@ws5 P w K mg base T 1 (km tZ);have yx:=@wu3 P w K mg base T 0;have HS:=@wu0 P w K mg base T 2 (km yt) (km yx);have yE:=@ww8 P w K mg base T 1 (km tZ);have yC:=@ww3 P w K mg base T 3 (km HS) (km tZ) (km yt) (km yE);have Ih:=@ww0 P w K mg base T 0;have HJ:=@ws7 P w K mg base T 1 (km Ih);have yu:=@ws8 P w K mg base T 2 (km HJ);have HL:=@wt0 P w K mg base T 2 (km yE);have HR:=@wt9 P w K mg base T 3 (km yx) (km HL);have HC:=@wr7 P w K mg base T 0;have HD:=@wr8 P w K mg base T 1 (km HC);have HV:=@wu2 P w K mg base T 22 (km yA) (km HD) (km yo);have HK:=@ws9 P w K mg base T 0;have HQ:=@wt8 P w K mg base T 23 (km HV) (km HK);have yw:=@wt7 P w K mg base T 24 (km HR) (km HQ);have HX:=@wu5 P w K mg base T 0;have HW:=@wu4 P w K mg base T 25 (km yA) (km tY) (km yC) (km yu) (km yw) (km HX);have HH:=@ws4 P w K mg base T 25 (km tY) (km yC) (km yu) (km yw);have Iq:=@wx2 P w K mg base T 0;have yF:=@wx0 P w K mg base T 0;have hR:=@wv5 P w K mg base T 0;have yz:=@wv1 P w K mg base T 1 (km hR);have Hs:∀dp,0+dp<*T.ft.1<*fb dp:=by
  intro dp
  induction dp with
  | zero=>exact x50 T
  | succ dp ih=>exact wu7 T (n:=0+dp) (dp:=dp) ih
 have yy:8<*T.ft.1<*NG:=Hs 8;have Ia:=@wv2 P w K mg base T 1 (km hR);have Hu:∀dp,0+dp<*T.gw.1<*fe dp:=by
  intro dp
  induction dp with
  | zero=>exact x52 T
  | succ dp ih=>exact wv3 T (n:=0+dp) (dp:=dp) ih
 have Ib:8<*T.gw.1<*WB:=Hu 8;have Ig:=@wv7 P w K mg base T 2 (km hR) (km yz);have Ht:∀dp,8+2*dp<*T.gv.1<*fc dp:=by
  intro dp
  induction dp with
  | zero=>exact x51 T
  | succ dp ih=>exact bG.mono (wu8 T (n:=8+2*dp+1) (dp:=dp) (bG.mono hR ()) (bG.mono Ib ()) (wu9 T (n:=8+2*dp) (dp:=dp) (bG.mono hR ()) (bG.mono Ig ()) ih)) ()
 have HZ:24<*T.gv.1<*WC:=Ht 8;have H_:=@wv0 P w K mg base T 24 (km hR) (km Ia) (km HZ) (km yy);have Ie:=@wv6 P w K mg base T 1 (km hR);have HY:=@wu6 P w K mg base T 0;have Iu:=@wx4 P w K mg base T 0;have yB:=@wv9 P w K mg base T 0;have Ip:=@wx1 P w K mg base T 1 (km Iu) (km yB);have HN:=@wt5 P w K mg base T 0;have HE:=@wr9 P w K mg base T 0;have Ik:=@ww4 P w K mg base T 1 (km HN) (km HE);have Ir:=@wx3 P w K mg base T 2 (km Ip) (km yB) (km Ik);have Ic:=@wv4 P w K mg base T 3 (km yF) (km Ir);have Hy:=@wr0 P w K mg base T 25 (km Ij) (km HW) (km HH) (km Iq) (km yF) (km hR) (km yz) (km yy) (km H_) (km Ie) (km HY) (km Ic);exact Hy
theorem walk{l:W.OpenLaw}{q:Program}{loose:List Str}{XP:(Str->Option Value)->Heap->Prop}{YP:World->Heap->Prop}{d:DefRec}{K:Params->W.Frag}(hn:l.most=some 63)(GD:d.params.defaults=[])
  (hY:∀(w:World) (h:Heap),YP w h->(K w.params).In h) (hL:∀w:World,FD (K w.params)=true)
  (F:∀(w:World) (mg:Str->Option Value) (fa:Addr) (h:Heap),(K w.params).In h->h.Ns J2 mg->mg d.name=some (.ref fa)->∃T:Txt (K w.params) mg,∀(s:Shared) (v:Value),AO s T.gq.fd #[[v],[]] [("_law_script",v)]) (mj:d.name = "law" := by rfl) :
  W.WalkO q loose XP YP l.row.toRowW d [] (λf vs=>U' f vs):=by
 refine L2.vn (n:=63) (k:=27) (x := "_law_script") (CX:=λ_=>nZ) (sp:=λw=>lR (K w.params) Ys) hn ∅ GD #[rfl,∅,∅] hY (λw mg fa h hK hN hm=>?_) (λw H a ns hl hO hS=>wy8 (hL w) hl hO hS) λ_ _ _ _ _ z=>z
 obtain⟨T,hb⟩:=F w mg fa h hK hN hm;rw[mj] at hm;have e:=hm.symm.trans T.gq.g;cases e;exact#[T.gq.fd,hb,λbase _ _=>x35 T]
end Law
end
namespace PySem.W.Fast
def tw12861538020189081494:=0
def tw13433051604506679437:=0
def tw15807911805310389417:=0
def tw15961984120511655551:=0
def tw3812483148261177596:=0
def tw1527125500923163346:=0
def tw5150753608134137380:=0
def tw9240820214530334902:=0
def tw15456248066666479991:=0
def tw611727888322276318:=0
def tw5293048257180028535:=0
def tw1021120473080699806:=0
def tw2717795236568604219:=0
def tw5926241314433520661:=0
def tw12587538448928056512:=0
def tw11200635852772205232:=0
def tw4120397225892012131:=0
def tw7364253167631991436:=0
def tw16915451874418675875:=0
def tw9487286530079311590:=0
def tw13752307745504186775:=0
def tw12000197060828804549:=0
def tw5644815033304461667:=0
def tw1011699755482805492:=0
def tw7730078221227109536:=0
def tw17883167603260383774:=0
def tw8527106863242073522:=0
def tw1673842328413913220:=0
def tw14114005443219200340:=0
def tw6693031911369102298:=0
def tw11810898938337087840:=0
def tw3784783928984065763:=0
def tw8662912001768392563:=0
def tw369263202746041933:=0
def tw11010383072430661820:=0
def tw10760830663241475770:=0
def tw17871096978176702171:=0
def tw14685691237583579392:=0
def tw3050278381033434421:=0
def tw9309580725115757447:=0
def tw15427551989403585575:=0
def tw10196735172650100047:=0
def tw14940461862452193601:=0
def tw16684244936834558570:=0
def tw7506054502302261786:=0
def tw13254788993487436103:=0
def tw1303593756579905669:=0
def tw6909433561868080959:=0
def tw3053547541054776891:=0
def tw986280085092591321:=0
def tw9488274372726598110:=0
def tw12171255731405224075:=0
def tw6285538605694134193:=0
def tw6230840485782754214:=0
def tw8281507654196539057:=0
def tw4071847478388649615:=0
def tw8164187548840322712:=0
def tw4350037348068736395:=0
def tw6343439968090457505:=0
def tw8579043863123622378:=0
def tw15925247676733963780:=0
def tw13991776065244084648:=0
def tw3107980407136494385:=0
def tw11187142873757183479:=0
def tw4456268080393773372:=0
def tw6490433673821145863:=0
def tw7589261620911303866:=0
def tw11764554799515035603:=0
def tw1833547293473804928:=0
def tw15127621364255814551:=0
def tw3271854851091208662:=0
def tw6157312685583336224:=0
def tw12535648348711980016:=0
def tw5262534201537962147:=0
def tw13500034070412635805:=0
def tw351287555257926196:=0
def tw4598885126169796320:=0
def tw13364774142802194917:=0
def tw14792329251442110989:=0
def tw950425050630262699:=0
def tw2034015871665365087:=0
def tw2618025419395728271:=0
def tw9440862637192387645:=0
def tw12701738562108137650:=0
def tw10745993772229524037:=0
def tw15648866249417537973:=0
def tw15247294686792553618:=0
def tw3409730352086787523:=0
def tw9476827594687136257:=0
def tw12140618569925884980:=0
def tw8276456069322814934:=0
def tw13514383237424720589:=0
def tw13668187430098236279:=0
def tw13704548859325150254:=0
def tw6444710194748391936:=0
def tw5001985532588204081:=0
def tw14649806577225374400:=0
def tw1352312804791860939:=0
def tw10445976130113147849:=0
def tw7432223819428860891:=0
def tw54327988880867529:=0
def tw2124291978521801162:=0
def tw1035648912509918308:=0
def tw16396702484180811947:=0
def tw11820452946344054011:=0
def tw16999775773844938381:=0
def tw3850409320801755929:=0
def tw16125771627269565179:=0
def tw2118630874267250543:=0
def tw8513130749828134090:=0
def tw9858686133356414153:=0
def tw10897302940527849080:=0
def tw13056749930362496702:=0
def tw2109423536819881618:=0
def tw18007218591974860989:=0
def tw8952442585227263904:=0
def tw17237995261868324556:=0
def tw17326623323711155819:=0
def tw17731525459400824094:=0
def tw3645281884335331786:=0
def tw5375471475359964700:=0
def tw266225416055578861:=0
def tw14561054036372643814:=0
def tw9916093091163316873:=0
def tw14085681772532926498:=0
def tw9130050655234124699:=0
def tw15283344820423504070:=0
def tw2234256215078201794:=0
def tw9932939717880677913:=0
def tw1920812840204849147:=0
def tw8129667490025711769:=0
def tw2384555658661746455:=0
def tw4842000945291601213:=0
def tw18164859761843490190:=0
def tw5333316662666128275:=0
def tw8469752442408348984:=0
def tw16369947928610901798:=0
def tw2186949413257928428:=0
def tw9409108782136673321:=0
def tw15462074824700416924:=0
def tw13137923885654861247:=0
def tw6467919358387540308:=0
def tw18230196104993648488:=0
def tw6092756923675988756:=0
def tw97010500195346020:=0
def tw11553958058203931857:=0
def tw3928566559738771233:=0
def tw16633806763056533066:=0
def tw4175149275134014127:=0
def tw14234921245435291024:=0
def tw14146638426810824688:=0
def tw5212970281473564922:=0
def tw6384001904936267133:=0
def tw8546047041867371549:=0
def tw4732063671129542507:=0
def tw16473302081603729105:=0
def tw5136022660792312779:=0
def tw12610148480754982049:=0
def tw8052728521981091827:=0
def tw1747711550382715206:=0
def tw15805767431906062266:=0
def tw10577132597332392826:=0
def tw2427138365240119611:=0
def tw1450484209287066977:=0
def tw18274970957138744218:=0
def tw10677689962160078114:=0
def tw1806973385999960509:=0
def tw17907426486533103376:=0
def tw17734585758144636216:=0
def tw16100706684593708435:=0
def tw2807165845127515069:=0
def tw448060092698551797:=0
def tw13322103253779797526:=0
def tw6180884298939358537:=0
def tw16256069254070897874:=0
def tw14002315861019772710:=0
def tw8120000449328180961:=0
def tw6462871993856075062:=0
def tw10351645746656056259:=0
def tw6222530503252248237:=0
def tw15675374464575888011:=0
def tw11231502247106997935:=0
def tw4683459895622078313:=0
def tw14580394617209238010:=0
def tw17010186627612571639:=0
def tw16790964774337180653:=0
def tw6797908449601820767:=0
def tw6288555270045411104:=0
def tw8031680560445414547:=0
def tw4027601526857555267:=0
def tw2540173732809805443:=0
def tw13391495017951718936:=0
def tw9767815310291224227:=0
def tw10889487061051297161:=0
def tw2776408511832671726:=0
def tw7560787786780814380:=0
def tw8250203995925365757:=0
def tw12695642061456911516:=0
def tw14615394138016874554:=0
def tw105215611111057134:=0
def tw6855801212199727499:=0
def tw2092710949115018432:=0
def tw9517825413451135137:=0
def tw5458160221853557712:=0
def tw7218990406982074261:=0
def tw14950230717767173622:=0
def tw3531598418665794603:=0
def tw9404577238461244920:=0
def tw11263583545780776845:=0
def tw2779385332343352905:=0
def tw16135666361940021017:=0
def tw10011510940426006169:=0
def tw8719468740108481511:=0
def tw3797308359905041842:=0
def tw17608649262872095348:=0
def tw10477411002434209646:=0
def tw7430115720282196742:=0
def tw10111570968493057921:=0
def tw14371155159526421629:=0
def tw3983142110077451380:=0
def tw1501725212782587821:=0
def tw6020647664188979994:=0
def tw8401098104766928228:=0
def tw3759923189196848712:=0
def tw7016737521013649698:=0
def tw1327633206111042839:=0
def tw764466241314823675:=0
def tw8554881878061050218:=0
def tw9554454401742274898:=0
def tw2389939416241362265:=0
def tw3685027286410052983:=0
def tw204536473751942624:=0
def tw4771871396672491400:=0
def tw14331104746592413636:=0
def tw12994533438233203754:=0
def tw3181614240244344254:=0
def tw9686838576525565247:=0
def tw581962444643136262:=0
def tw12717956863144595164:=0
def tw15871470435032403786:=0
def tw16056350763477443373:=0
def tw9772080264391991581:=0
def tw16130197489818000649:=0
def tw7781785943819783096:=0
def tw4485806740097889157:=0
def tw21315483704718511:=0
def tw1907081053932363763:=0
def tw1557385401401116008:=0
def tw12164813172437780021:=0
def tw2415780787950189349:=0
def tw9056612705112394136:=0
def tw2651530499548718811:=0
def tw17832733094840917618:=0
def tw10607723423751158455:=0
def tw16062387735196737161:=0
def tw16208241488865317756:=0
def tw8465014666453672503:=0
def tw18230596105598076202:=0
def tw7255215182372879071:=0
def tw6348714896495404563:=0
def tw1524335189871553337:=0
def tw18318776550969038850:=0
def tw14765853238846987864:=0
def tw6656727589249935649:=0
def tw9989700211739399878:=0
def tw9214041158924511330:=0
def tw5108817334283360185:=0
def tw15588024198907409404:=0
def tw11791868134085843044:=0
def tw5643738953630166925:=0
def tw10341520733175568577:=0
def tw14186395474347824555:=0
def tw8915493356858411354:=0
def tw18246676580598271476:=0
def tw1237344959180020606:=0
def tw17377165029134701074:=0
def tw4734619173554810691:=0
def tw15132911344632604285:=0
def tw6999005599409225576:=0
def tw1568217171211404905:=0
def tw3158808219563424304:=0
def tw7699803467065535755:=0
def tw8199079777482892353:=0
def tw14639890483293408677:=0
def tw14433930441299409745:=0
def tw2733905684859281971:=0
def tw13196966284473195426:=0
def tw14666924913398101142:=0
def tw15809717142463770481:=0
def tw13921611793675222600:=0
def tw10287599955189253160:=0
def tw8395447676868333550:=0
def tw9519461934742190840:=0
def tw1592754626901433657:=0
def tw15424257358605078997:=0
def tw4918037333637133686:=0
def tw1271286526517392570:=0
def tw17274142677027651666:=0
def tw5680849912474888022:=0
def tw11682711397469392715:=0
def tw14590250351830196985:=0
def tw16738158390194636544:=0
def tw10084964476863606310:=0
def tw1652514635184448589:=0
def tw13900710640023629165:=0
def tw18333958708982488233:=0
def tw1567606238382954117:=0
def tw9690250177642702612:=0
def tw3263422030676222159:=0
def tw1050787704172193270:=0
def tw2957904135437547819:=0
def tw10381510062849740600:=0
def tw10886183878524390020:=0
def tw15686923050566724875:=0
def tw8725183461237476610:=0
def tw9038574703707396092:=0
def tw16591221593345285929:=0
def tw14667457953551658139:=0
def tw13386252588471311119:=0
def tw10272356564525048241:=0
def tw10340298754286297323:=0
def tw5932064304154031588:=0
def tw12590405238944579523:=0
def tw6661345556439870722:=0
end PySem.W.Fast
open PySem PySem.W PyProof.Rows
local macro_rules | `(tactic| left) => `(tactic| (refine' Law.Ui ?a ?b ?c ?d; (case a => k_is); (case b => k_is); (case c => k_is); (case d => k_is)))
local macro_rules | `(tactic| right) => `(tactic| (refine' Law.Uh ?a ?b ?c ?d ?e; (case a => k_is); (case b => k_is); (case c => k_is); (case d => k_is); (case e => k_is)))
set_option maxHeartbeats 0 in
theorem PySem.Challenge.cw_nolitter_k48_costs_are_steps_holds : PySem.Challenge.rw_nolitter_k48_costs_are_steps.Holds := by
 w_on; o_law; k_head; (case hw => w_witness2)
 k_fill
 refine Law.walk (l := PySem.Challenge.rw_nolitter_k48_costs_are_steps) rfl rfl (fun w h Y => PySem.W.kIn_of Y) ?L ?F
 case L => exact fun w => rfl
 case F =>
  intro w mg fa h KX G LB
  refine' Law.zq KX G ..
  all_goals try (refine @id (_ : Prop) ?_; first | left | right | k_is | exact rfl)
